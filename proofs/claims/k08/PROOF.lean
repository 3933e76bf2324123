import PyProof.Rows.All
import Wide.All
import OpenK.AllK
import Wide.FinOn
import HandS.Base
import HandS.Call
import HandS.List
import HandS.Comp
import HandS.Ends
import HandS.Dict
import HandS.Iter
import HandS.Words
import HandS.WordsList
import HandS.WordsDict
import HandS.Exc
import HandS.TryOnly
import HandS.ExcOwn
import HandS.Lambda
import HandS.IsInst
import HandS.Wide
import PyProof.ReprRoads
import HandS.Gcd
import HandS.WordsExc
import HandS.ExcIs
import HandS.ExcValue
import PyProof.ReprBulk
import PyProof.FitsInt
import HandS.EndTab
import KE.KNest
import PySem.Challenge.RW_pointtally_k08_whole_fractions
set_option Elab.async false
set_option linter.all false
set_option maxRecDepth 100000
set_option maxHeartbeats 4000000
set_option exponentiation.threshold 20000
/-! Promises that know that nothing is being shown around them (so that repr tells its whole text). -/
namespace Vk
open PySem PySem.Spec PyProof.Rows L2

/-- nothing is being shown -/
def Quiet (A : Around) : Prop := A.guards = some []
theorem Quiet.deeper {A : Around} (q : Quiet A) (env : Env) : Quiet (A.deeper env) := by
  unfold Quiet at q ⊢
  first
    | exact q
    | (show pushGuards _ A.guards = some []; rw [q]; rfl)
    | simpa [Around.deeper, Around.under, q] using q

/-- a def's promise where nothing is being shown -/
structure FnG (P : Program) (w : World) (K : PySem.W.Frag) (mg : Str → Option Value) (base : Heap) (k : Nat) (f : Addr) (fd : FuncData) (ps : List Str) (sp : Sp) : Prop where
  len : ∀ vs H Q E, sp vs H Q E → vs.length = ps.length
  run : ∀ (A : Around) (outer : List Env) (s : Shared) (H : Hp) (args : Args) (us : List Value) (vs : List V) (Q : VK) (E : XK),
    Quiet A → Room k A → Env0 P w K mg base A outer s H → BindsTo s fd args (ps.zip us) → Vals vs us → sp vs H Q E →
      codeAny (model P w) A (.call (.ref f) args) (CR CX0 outer P w H s Q E) s

section
variable {P : Program} {w : World} {K : PySem.W.Frag} {mg : Str → Option Value} {base : Heap}
/-- a body's end is the call's end -/
theorem endsG {N : List Str} {qual : Str} {scope : Scope} {f : Addr} {cdv : Value} {A : Around} {outer : List Env} {s s' : Shared} {H : Hp} {Q : VK} {E : XK} {fl : Flow}
    (h : SP (cxOf CX0 P w K mg base N qual scope f cdv A outer s H E) [] { nx := fun _ H' => Q .non H', rt := Q } fl s') :
    ∃ u, (match fl with | .ret v => v | _ => Value.none) = u ∧ CE outer P w H s Q u s' ∧ (fl = .next ∨ ∃ v, fl = .ret v) := by
  cases fl with
  | next =>
    obtain ⟨σ', H', J, q⟩ := h
    exact ⟨_, rfl, ⟨.non, H', J.os, J.bare, J.base, J.hok, rfl, q⟩, .inl rfl⟩
  | ret v =>
    obtain ⟨x, σ', H', J, rv, q⟩ := h
    exact ⟨_, rfl, ⟨x, H', J.os, J.bare, J.base, J.hok, rv, q⟩, .inr ⟨v, rfl⟩⟩
  | brk =>
    obtain ⟨_, _, _, q⟩ := h
    exact q.elim
  | cont =>
    obtain ⟨_, _, _, q⟩ := h
    exact q.elim
/-- a def, by its body: its code object is told -/
theorem fnG_of {x qual : Str} {st : Stmt} {f : Addr} {N ps : List Str} {k : Nat} {sp : Sp} {oc kV doc pm cdv ct : Value} {od an : Option Addr} {osl : Array (Option Value)}
    (lk : K.lookup f = some ⟨oc, od, .func (PySem.W.fnOf x qual (defArgs st) (defBody st) (defScope st) .none kV doc pm an cdv ct), osl⟩) (hcd : PySem.W.codeIn K cdv qual = true) (S : FnScope N ps (defScope st))
    (len : ∀ vs H Q E, sp vs H Q E → vs.length = ps.length)
    (hbody : ∀ (A : Around) (outer : List Env) (s : Shared) (H : Hp) (vs : List V) (Q : VK) (E : XK),
      Quiet A → Room k (A.deeper (envOfC qual (defScope st) s.heap.objs.size f cdv)) → sp vs H Q E →
        ∃ t, PSs (cxOf CX0 P w K mg base N qual (defScope st) f cdv A outer s H E).nox (defBody st) t ∧ t { nx := fun _ H' => Q .non H', rt := Q } (start N vs) H) :
    FnG P w K mg base (k + 1) f (PySem.W.fnOf x qual (defArgs st) (defBody st) (defScope st) .none kV doc pm an cdv ct) ps sp := by
  refine ⟨len, fun A outer s H args us vs Q E hG hr e0 hb r hsp => ?_⟩
  have inK : K.In s.heap := e0.mod.kin.keeps fun b o e => (e0.bs b o e).left
  have noL : s.heap.NoLimit := e0.mod.nolimit.keeps fun b o e => (e0.bs b o e).left
  have hpar : ∀ y ∈ ps.zip us, (defScope st).names.lookup y.1 = some .local ∨
      ((defScope st).names.lookup y.1 = some .cell ∧ ((cellsFrom (s.heap.objs.size + 1) (defScope st).names []).lookup y.1).isSome = true) := by
    rintro ⟨n, v⟩ hy
    cases S.par n (List.of_mem_zip hy).left with
    | inl q => exact .inl q
    | inr q => exact .inr ⟨q, PySem.W.cellsFrom_some _ _ _ (.inl q)⟩
  have bnd := hb
  refine codeAny_call_function hr.depth (inK _ _ lk) rfl S.co S.gen rfl
    (PySem.W.codeRec_of inK hcd) (bnd _ _ _ _ ?_)
  refine wpAny_newFunctionEnv_cells S.kind hpar
    fun env he s1 x => ?_
  subst he
  refine ⟨noL.keeps x.toInCall.keep,
    codeAny_func ?_⟩
  obtain ⟨t, ht, hq⟩ := hbody A outer s H vs Q E hG (hr.deeper _) hsp
  have J := inv_start (CX := CX0) (P := P) (w := w) (K := K) (mg := mg) (base := base) (qual := qual) (f := f) (cd := cdv) (E := E) S hr.hd e0 (len _ _ _ _ hsp) r x
  refine wpAny_mono (ht.nox.run [] s1 _ H _ J hq) (fun fl s' hs => ?_)
    (fun e s' hs => hs)
  obtain ⟨u, hu, hce, hfl⟩ := endsG hs
  rcases hfl with rfl | ⟨v, rfl⟩
  · obtain rfl := hu
    exact hce
  · obtain rfl := hu
    exact hce
/-- a def of the text, by its body -/
theorem okG {x qual : Str} {st : Stmt} {f : Addr} {fd : FuncData} {N ps : List Str} {k : Nat} {sp : Sp} (F : Fun K x qual st f fd) (S : FnScope N ps (defScope st))
    (len : ∀ vs H Q E, sp vs H Q E → vs.length = ps.length)
    (hbody : ∀ (cdv : Value) (A : Around) (outer : List Env) (s : Shared) (H : Hp) (vs : List V) (Q : VK) (E : XK),
      Quiet A → Room k (A.deeper (envOfC qual (defScope st) s.heap.objs.size f cdv)) → sp vs H Q E →
        ∃ t, PSs (cxOf CX0 P w K mg base N qual (defScope st) f cdv A outer s H E).nox (defBody st) t ∧ t { nx := fun _ H' => Q .non H', rt := Q } (start N vs) H) :
    FnG P w K mg base (k + 1) f fd ps sp := by
  obtain ⟨oc, od, kV, doc, pm, an, cdv, ct, osl, rfl, lk, hcd⟩ := F.ex
  exact fnG_of lk hcd S len fun A outer s H vs Q E => hbody cdv A outer s H vs Q E
end

section
variable {X : Cx} {k : Nat} {f : Addr} {fd : FuncData} {ps : List Str} {sp : Sp} {E : XK} {x : Str} {p pos : Pos} {e : Expr} {es : List Expr} {t : TA}
/-- a call of such a def -/
theorem pe_callG (hG : Quiet X.A) (F : FnG X.prog X.w X.K X.mg X.base k f fd ps sp) (hr : Room k X.A) (hg : Gl X x) (hm : X.mg x = some (.ref f)) (hk : PySem.W.keepIn X.K (.ref f) = true) (hb : Binds X.K fd ps [])
    (ha : PA X (e :: es) t) (hdb : (x == ("__debug__" : Str)) = false := by decide) (he : starEach (e :: es) X.env = (false, eval e X.env) :: starEach es X.env := by rfl)
    (hpl : (backTo pos (starEach es X.env)).any (·.1) = false := by rfl) :
    PE X (.Call (.Name x p) (e :: es) [] pos) (fun σ H Q => t σ H fun vs H1 => sp vs H1 Q E) := by
  refine ⟨fun pins s σ H Q I h => wpAny_Call_Name_kw (ld_glob I hg hm ?_ hdb)⟩
  refine PySem.W.callWith_K (h₀ := X.base) I.ok.mod.kin hk (thn (ha.run pos pins s σ H _ I h) ?_) he hpl
  rintro us s1 ⟨vs, H1, I1, r, q⟩
  refine ⟨I1.kIn, ?_⟩
  have hl : us.length = ps.length := r.length.symm.trans (F.len _ _ _ _ q)
  have hbt := hb s1 us I1.kIn (by rw [List.append_nil]; exact hl)
  rw [List.append_nil] at hbt
  refine wpAny_call (codeAny_mono (F.run X.A X.stack s1 H1 ⟨us, []⟩ us vs Q E hG hr I1.env0 hbt r q) ?_)
  intro r2 s2 hq
  match r2, hq with
  | .error e, hq => exact False.elim hq
  | .ok (.ret u), hq => exact I1.after hq
end

/-! ### repr -/
/-- the text of a value's data -/
def rRep (K : PySem.W.Frag) : List V → Hp → VK → Prop := fun xs H Q => ∃ x d, xs = [x] ∧ Dp K H x d ∧ d.showable = true ∧ d.hasDict = false ∧ d.depth ≤ 60 ∧ d.shown.length ≤ sizeLine ∧ Q (.str d.shown) H
theorem call_rep {X : Cx} (hG : Quiet X.A) (hu : X.A.units + 64 < cLine) : CallR X (.builtin "repr") (rRep X.K) := by
  intro pins s σ H xs us Q I r h
  obtain ⟨x, d, rfl, hD, hs, hd, hdep, hz, q⟩ := h
  obtain ⟨u, rfl, ru⟩ := vals1 r
  obtain ⟨as, hr⟩ := Dp.reads I d x u hD ru
  cases hD with
  | non =>
    cases ru
    exact PySem.P.repr_of_none ⟨.str _, H, I.tok _, ⟨_, rfl⟩, by simpa only [PyData.shown] using q⟩
  | bl b =>
    cases ru
    exact PySem.P.repr_of_bool ⟨.str _, H, I.tok _, ⟨_, rfl⟩, by simpa only [PyData.shown] using q⟩
  | int i =>
    obtain ⟨t, rfl⟩ := ru
    exact PySem.P.repr_of_int (by simpa [PyData.showable] using hs) ⟨.str _, H, I.tok _, ⟨_, rfl⟩, by simpa only [PyData.shown] using q⟩
  | str z =>
    obtain ⟨t, rfl⟩ := ru
    exact PySem.P.repr_of_str ⟨.str _, H, I.tok _, ⟨_, rfl⟩, by simpa only [PyData.shown] using q⟩ (by simpa only [PyData.shown] using hz)
  | lst h1 h2 =>
    cases ru
    exact repr_of_reads' hr hs (PyData.noDict_hsm hd) hG (by omega) (fun _ _ e => e) (fun h' u tk hk => ⟨.str _, H, I.kept hk, ⟨_, rfl⟩, q⟩) hz
  | tup h1 h2 =>
    cases ru
    exact repr_of_reads' hr hs (PyData.noDict_hsm hd) hG (by omega) (fun _ _ e => e) (fun h' u tk hk => ⟨.str _, H, I.kept hk, ⟨_, rfl⟩, q⟩) hz
end Vk

namespace Vk
open PySem PySem.Spec PyProof.Rows L2
/-! ### defs by their names -/
/-- the def of this name keeps the promise -/
def Cal (P : Program) (w : World) (K : PySem.W.Frag) (mg : Str → Option Value) (base : Heap) (k : Nat) (x : Str) (ps : List Str) (sp : Sp) : Prop :=
  ∃ f fd, FnOk P w K mg base CX0 k f fd ps sp ∧ mg x = some (.ref f) ∧ PySem.W.keepIn K (.ref f) = true ∧ Binds K fd ps []
def CalG (P : Program) (w : World) (K : PySem.W.Frag) (mg : Str → Option Value) (base : Heap) (k : Nat) (x : Str) (ps : List Str) (sp : Sp) : Prop :=
  ∃ f fd, FnG P w K mg base k f fd ps sp ∧ mg x = some (.ref f) ∧ PySem.W.keepIn K (.ref f) = true ∧ Binds K fd ps []
/-- the reading of a call -/
def tCal (sp : Sp) (t : TA) : TE := fun σ H Q => t σ H fun vs H1 => sp vs H1 Q E0
section
variable {X : Cx} {k : Nat} {ps : List Str} {sp : Sp} {x : Str} {p pos : Pos} {e : Expr} {es : List Expr} {t : TA}
theorem call_ (C : Cal X.prog X.w X.K X.mg X.base k x ps sp) (hr : Room k X.A) (hg : Gl X x) (ha : PA X (e :: es) t) (hdb : (x == ("__debug__" : Str)) = false := by decide)
    (he : starEach (e :: es) X.env = (false, eval e X.env) :: starEach es X.env := by rfl) (hpl : (backTo pos (starEach es X.env)).any (·.1) = false := by rfl) :
    PE X (.Call (.Name x p) (e :: es) [] pos) (tCal sp t) := by
  obtain ⟨f, fd, F, hm, hk, hb⟩ := C
  refine ⟨fun pins s σ H Q I h => ?_⟩
  refine (pe_call F hr hg hm hk hb .nil pass0 ha hdb he hpl).run pins s σ H Q I ?_
  show t σ H fun vs H1 => sp (vs ++ []) H1 Q E0
  have e0 : (fun vs H1 => sp (vs ++ []) H1 Q E0) = fun vs H1 => sp vs H1 Q E0 := by
    funext vs H1
    rw [List.append_nil]
  rw [e0]
  exact h
theorem callG (hG : Quiet X.A) (C : CalG X.prog X.w X.K X.mg X.base k x ps sp) (hr : Room k X.A) (hg : Gl X x) (ha : PA X (e :: es) t) (hdb : (x == ("__debug__" : Str)) = false := by decide)
    (he : starEach (e :: es) X.env = (false, eval e X.env) :: starEach es X.env := by rfl) (hpl : (backTo pos (starEach es X.env)).any (·.1) = false := by rfl) :
    PE X (.Call (.Name x p) (e :: es) [] pos) (tCal sp t) := by
  obtain ⟨f, fd, F, hm, hk, hb⟩ := C
  exact ⟨fun pins s σ H Q I h => (pe_callG hG F hr hg hm hk hb ha hdb he hpl).run pins s σ H Q I h⟩
end
/-! ### ints of any size -/
def CDivX (_ j : Int) : Prop := j ≠ 0 ∧ j.natAbs.log2 < 9000
theorem op_fdivX {X : Cx} : OpR X (binaryOp .FloorDiv) (rI CDivX fun i j => .int (i.fdiv j)) :=
  opI fun _ _ _ _ _ _ _ hc q => floordiv_int hc.1 q (.inl (PyProof.noPylong_of_log2 hc.2))
/-! ### heaps -/
/-- all but what stands at m stays -/
def SameBut (m : Addr) (H H' : Hp) : Prop := ∀ b o, b ≠ m → H b = some o → H' b = some o
theorem SameBut.refl (m : Addr) (H : Hp) : SameBut m H H := fun _ _ _ h => h
theorem SameBut.trans {m : Addr} {H H1 H2 : Hp} (a : SameBut m H H1) (b : SameBut m H1 H2) : SameBut m H H2 := fun c o n h => b c o n (a c o n h)
theorem SameBut.of {m : Addr} {H H1 : Hp} (a : Same H H1) : SameBut m H H1 := fun c o _ h => a c o h
theorem same_new {H : Hp} {p : Addr} {o : HO} (h : H p = none) : Same H (upd H p o) := fun b x e => by
  rw [upd_ne (ne_of_none e h)]
  exact e
theorem but_put {H : Hp} {m : Addr} {o : HO} : SameBut m H (upd H m o) := fun b x n e => by
  rw [upd_ne n]
  exact e
end Vk

namespace Vk
open PySem PySem.Spec PyProof.Rows L2
theorem same_put {H H1 : Hp} {q : Addr} {o : HO} (s : Same H H1) (hq : H q = none) : Same H (upd H1 q o) := fun b x e => by
  rw [upd_ne (ne_of_none e hq)]
  exact s b x e
theorem cut_ints (ns : List Int) (a b : Option Int) : ∃ l : List Int, cutV (ns.map V.int) a b = l.map V.int ∧ l.length ≤ ns.length := by
  refine ⟨(ns.drop (HT.sIx (ns.map V.int).length 0 a)).take (HT.sIx (ns.map V.int).length (ns.map V.int).length b - HT.sIx (ns.map V.int).length 0 a), ?_, ?_⟩
  · unfold cutV
    rw [← List.map_drop, ← List.map_take]
  · rw [List.length_take, List.length_drop]
    omega
/-- a list of ints as data -/
theorem dp_ints {K : PySem.W.Frag} {H : Hp} : ∀ ns : List Int, DpAll K H (ns.map V.int) (ns.map PyData.int)
  | [] => .nil
  | n :: r => .cons (.int n) (dp_ints r)
theorem lay_ints : ∀ ns : List Int, PyData.canLayAll0 (ns.map PyData.int) = true ∧ PyData.depthAll (ns.map PyData.int) = 0
  | [] => ⟨by simp [PyData.canLayAll0], by simp [PyData.depthAll]⟩
  | n :: r => by
    obtain ⟨h1, h2⟩ := lay_ints r
    exact ⟨by simp [PyData.canLayAll0, PyData.canLay0, h1], by simp [PyData.depthAll, PyData.depth, h2]⟩
theorem shaped_ints (ns : List Int) : SeqAt.shaped (.list (ns.map PyData.int)) = true := by
  obtain ⟨h1, h2⟩ := lay_ints ns
  simp [SeqAt.shaped, PyData.canLay0, PyData.depth, h1, h2]
end Vk

namespace Vk
open PySem PySem.Spec PyProof.Rows L2
/-- both ways of a conditional expression lead to what follows -/
theorem tif_both {c : Bool} {ta tb : TE} {σ : L2.St} {H : Hp} {Q : VK} (Good : V → Prop) (hQ : ∀ v, Good v → Q v H) (ha : c = true → (∀ v, Good v → Q v H) → ta σ H Q) (hb : c = false → (∀ v, Good v → Q v H) → tb σ H Q) :
    if c = true then ta σ H Q else tb σ H Q := by
  cases c with
  | true => exact iteT (ha rfl hQ)
  | false => exact iteF (hb rfl hQ)
end Vk
/-! The end of a law row for a promise of the quiet kind. -/
namespace Vk
open PySem PySem.Spec PyProof.Rows L2

section
variable {P : Program} {w : World} {K : PySem.W.Frag} {mg mb : Str → Option Value} {k : Nat} {fa a : Addr} {fd : FuncData} {x : Str} {sp : Sp} {s₁ : Shared} {vs : List Value} {ns : List Int}
/-- from one abstract heap that holds -/
theorem law_coreG (H : Hp) (KX : K.In s₁.heap) (hns : s₁.heap.Ns mainGlobals mg) (hb : s₁.heap.Ns builtinsNs mb) (hbb : ∀ x : Str, x ≠ "__name__" → mb x = bootBuiltins x) (hlim : s₁.heap.NoLimit) (hg : s₁.gens = #[])
    (ha : s₁.heap.get? a = some { cls := .type "list", data := .seq vs.toArray }) (hr : Room k callerA)
    (F : ∀ base : Heap, K.In base → base.Ns mainGlobals mg → FnG P w K mg base k fa fd [x] sp) (hbind : ∀ (s : Shared) (u : Value), BindsTo s fd ⟨[u], []⟩ [(x, u)])
    (hO : Only H) (hsp : sp [.ref a] H (fun v _ => v = .bl true) fun _ _ _ => False) (hok : HOk P w H s₁.heap) (hA : ∀ b u, H b = some u → b = a) (hK : ∀ u, H a = some u → K.lookup a = none) :
    codeAny (model P w) callerA (.call (.ref fa) ⟨[.ref a], []⟩) (fun r s' => r = .ok (.ret (.bool true)) ∧ OldK s₁.heap s'.heap ∧ s'.os = s₁.os ∧ AllBare s'.gens) s₁ := by
  have free : ∀ {b : Addr} {o : Obj}, s₁.heap.get? b = some o → (∀ n, o.data ≠ .seq vs.toArray n) → H b = none := fun {b o} e d => by
    cases q : H b with
    | none => rfl
    | some u =>
      obtain rfl := hA b u q
      rw [ha] at e
      exact absurd rfl (by have := Option.some.inj e; subst this; exact d _)
  have nsK : ∀ {b : Addr} {m : Str → Option Value}, s₁.heap.Ns b m → (hidT s₁.heap H).Ns b m := by
    rintro b m ⟨o, es, ep, e, d, r⟩
    exact ⟨o, es, ep, hidT_get e (free e fun n z => by rw [d] at z; cases z), d, r⟩
  have inB : K.In (hidT s₁.heap H) := fun b o e => by
    refine hidT_get (KX b o e) ?_
    cases q : H b with
    | none => rfl
    | some u =>
      obtain rfl := hA b u q
      rw [hK u q] at e
      cases e
  have lim : (hidT s₁.heap H).NoLimit := by
    obtain ⟨mc, h1, h2⟩ := hlim
    exact ⟨mc, nsK h1, h2⟩
  have M : Mod K mg (hidT s₁.heap H) := { kin := inB, glob := nsK hns, blt := ⟨mb, nsK hb, hbb⟩, nolimit := lim }
  have E : Env0 P w K mg (hidT s₁.heap H) callerA [] s₁ H := by
    refine { frames := rfl, mod := M, bs := fun b o e => of_hidT e, bsz := Nat.le_of_eq (hidT_size _ _), funs := trivial, frf := ?_, hok := hok, bare := .of_eq hg }
    intro b z
    cases (show b ∈ ([] : List Addr) from z)
  have R := (F _ inB (nsK hns)).run callerA [] s₁ H ⟨[.ref a], []⟩ [.ref a] [.ref a] _ _ rfl hr E (hbind s₁ (.ref a)) (.cons rfl .nil) hsp
  refine codeAny_mono R ?_
  intro r s' h
  match r, h with
  | .error e, h => exact False.elim h
  | .ok (.ret u), ⟨v, H', os, bare, un, hok', rv, q⟩ =>
    obtain rfl : v = .bl true := q
    obtain rfl : u = Value.bool true := rv
    refine ⟨rfl, OldK.of_keep fun b o e => ?_, os, bare⟩
    rcases hO b with z | ⟨ob, xs, z⟩
    · refine un.keep b o e z (fun m => ?_) (fun m => ?_)
      · cases (show b ∈ ([] : List Addr) from m)
      · cases m
    · have p1 := (hok b _ z).1
      have p2 := (hok' b _ (un.frzs b ob _ z)).1
      exact p2.trans (p1.symm.trans e)
/-- the law's promise, at the heap behind the top -/
theorem law_callG (KX : K.In s₁.heap) (hns : s₁.heap.Ns mainGlobals mg) (hb : s₁.heap.Ns builtinsNs mb) (hbb : ∀ x : Str, x ≠ "__name__" → mb x = bootBuiltins x) (hlim : s₁.heap.NoLimit) (hg : s₁.gens = #[])
    (ha : s₁.heap.get? a = some { cls := .type "list", data := .seq vs.toArray }) (hi : IntsAre vs ns) (hl : ns.length ≤ sizeLine) (hr : Room k callerA)
    (F : ∀ base : Heap, K.In base → base.Ns mainGlobals mg → FnG P w K mg base k fa fd [x] sp) (hbind : ∀ (s : Shared) (u : Value), BindsTo s fd ⟨[u], []⟩ [(x, u)])
    (hsp : ∀ H : Hp, Only H → SqL K H a (ns.map V.int) → sp [.ref a] H (fun v _ => v = .bl true) fun _ _ _ => False) :
    codeAny (model P w) callerA (.call (.ref fa) ⟨[.ref a], []⟩) (fun r s' => r = .ok (.ret (.bool true)) ∧ OldK s₁.heap s'.heap ∧ s'.os = s₁.os ∧ AllBare s'.gens) s₁ := by
  have rv := vals_ints hi
  cases hk : K.lookup a with
  | some o =>
    have e := (KX a o hk).symm.trans ha
    obtain rfl := Option.some.inj e
    have hO : Only (fun _ => none) := fun _ => .inl rfl
    refine law_coreG (fun _ => none) KX hns hb hbb hlim hg ha hr F hbind hO (hsp _ hO (.inr ⟨_, vs.toArray, _, hk, rfl, rfl, rfl, ?_, ?_⟩)) ?_ ?_ ?_
    · rw [List.size_toArray, hi.length]
      exact hl
    · simpa using rv
    · intro b u z
      cases (show (none : Option HO) = some u from z)
    · intro b u z
      cases (show (none : Option HO) = some u from z)
    · intro u z
      cases (show (none : Option HO) = some u from z)
  | none =>
    let fz : HO := .frz { cls := .type "list", data := .seq vs.toArray } (.lst (ns.map V.int))
    have only : ∀ b u, upd (fun _ => none) a fz b = some u → b = a ∧ u = fz := fun b u z => by
      by_cases e : b = a
      · subst e
        rw [upd_same] at z
        exact ⟨rfl, (Option.some.inj z).symm⟩
      · rw [upd_ne e] at z
        cases z
    have hO : Only (upd (fun _ => none) a fz) := fun b => by
      cases q : upd (fun _ => none) a fz b with
      | none => exact .inl rfl
      | some u =>
        obtain ⟨_, rfl⟩ := only b u q
        exact .inr ⟨_, _, rfl⟩
    refine law_coreG _ KX hns hb hbb hlim hg ha hr F hbind hO (hsp _ hO (.inl (.inr ⟨_, upd_same⟩))) ?_ (fun b u z => (only b u z).1) (fun _ _ => hk)
    intro b u z
    obtain ⟨rfl, rfl⟩ := only b u z
    refine ⟨ha, ?_, vs, _, rv, ha⟩
    rw [List.length_map]
    exact hl
end

/-- the end of the row -/
theorem walk_ofG {l : PySem.W.OpenLaw} {n k : Nat} {q : Program} {loose : List Str} {XP : (Str → Option Value) → Heap → Prop} {YP : World → Heap → Prop} {d : DefRec} {K : Params → PySem.W.Frag} {sp : PySem.W.Frag → Sp} {x : Str}
    (hn : l.most = some n) (hn2 : n ≤ sizeLine) (hdf : d.params.defaults = []) (hr : Room k callerA)
    (hY : ∀ (w : World) (h : Heap), YP w h → (K w.params).In h)
    (F : ∀ (w : World) (mg : Str → Option Value) (fa : Addr) (h : Heap), (K w.params).In h → h.Ns mainGlobals mg → mg d.name = some (.ref fa) →
      ∃ fd : FuncData, (∀ (s : Shared) (u : Value), BindsTo s fd ⟨[u], []⟩ [(x, u)]) ∧
        ∀ base : Heap, (K w.params).In base → base.Ns mainGlobals mg → FnG l.prog w (K w.params) mg base k fa fd [x] (sp (K w.params)))
    (hsp : ∀ (K : PySem.W.Frag) (H : Hp) (a : Addr) (ns : List Int), ns.length ≤ n → Only H → SqL K H a (ns.map V.int) → sp K [.ref a] H (fun v _ => v = .bl true) fun _ _ _ => False) :
    PySem.W.WalkO q loose XP YP l.row.toRowW d [] (fun f vs => PySem.call f vs) := by
  refine Att.attach_call hn hdf ?_
  intro w s₀ s₁ mg mb fa o pm cd doc a vs ns G Y ho hd hcd hmg hobj hints hlen hg
  obtain ⟨fd, hb, hF⟩ := F w mg fa _ (hY w _ Y) G.T.g hmg
  exact law_callG (hY w _ Y) G.T.g G.T.b G.T.builtins G.T.nolimit hg hobj hints (Nat.le_trans hlen hn2) hr hF hb fun H hO hS => hsp _ H a ns hlen hO hS
end Vk
namespace K08
open PySem PySem.Spec PyProof.Rows L2 Vk
def topS (i : Nat) : Stmt := PySem.Challenge.pw_pointtally_k08_whole_fractions.main.body.getD i (.Pass ⟨0, 0, 0, 0⟩)
/-! ### the state of the draws -/
def mkv (L sd : Int) (c : Addr) (sp : Int) : List (Key × V) := [(.inr "left", .int L), (.inr "seed", .int sd), (.inr "cells", .ref c), (.inr "spot", .int sp)]
theorem val_left {L sd sp : Int} {c : Addr} : valV (mkv L sd c sp) (.inr "left") = some (.int L) := by rfl
theorem val_seed {L sd sp : Int} {c : Addr} : valV (mkv L sd c sp) (.inr "seed") = some (.int sd) := by rfl
theorem val_cells {L sd sp : Int} {c : Addr} : valV (mkv L sd c sp) (.inr "cells") = some (.ref c) := by rfl
theorem val_spot {L sd sp : Int} {c : Addr} : valV (mkv L sd c sp) (.inr "spot") = some (.int sp) := by rfl
theorem put_left {L sd sp i : Int} {c : Addr} : putK (mkv L sd c sp) (.inr "left") (.int i) = mkv i sd c sp := by rfl
theorem put_spot {L sd sp i : Int} {c : Addr} : putK (mkv L sd c sp) (.inr "spot") (.int i) = mkv L sd c i := by rfl
theorem get_m {H : Hp} {m : Addr} {kvs : List (Key × V)} {x : Str} {v : V} (hm : H m = some (.dK kvs)) (h : valV kvs (.inr x) = some v) : DGet H m (.str x) (some v) := by
  have q := DGet.k (k := Sum.inr x) hm
  rw [h] at q
  exact q
theorem put_m {H : Hp} {m : Addr} {L sd sp : Int} {c : Addr} {kvs : List (Key × V)} {x : Str} {v : V} (hm : H m = some (.dK (mkv L sd c sp))) (h : putK (mkv L sd c sp) (.inr x) v = kvs) : DPut H m (.str x) v (upd H m (.dK kvs)) := by
  have q := DPut.k (k := Sum.inr x) (v := v) hm (small1000 (show 4 ≤ 1000 by decide))
  rw [h] at q
  exact q
/-- the state of the draws stands at m; at most n draws were made -/
def MOk (H : Hp) (m c : Addr) (n : Nat) : Prop := ∃ (L sd sp : Int) (cells : List Int), H m = some (.dK (mkv L sd c sp)) ∧ H c = some (.lst (cells.map V.int)) ∧ 0 < cells.length ∧ 0 ≤ sp ∧ sp ≤ n
theorem MOk.but {H H' : Hp} {m c q : Addr} {n : Nat} (h : MOk H m c n) (hq : q ≠ m) (hl : ∀ xs, H q ≠ some (.lst xs)) (s : SameBut q H H') : MOk H' m c n := by
  obtain ⟨L, sd, sp, cells, h1, h2, h3⟩ := h
  refine ⟨L, sd, sp, cells, s _ _ (Ne.symm hq) h1, s _ _ (fun z => hl _ (by rw [← z]; exact h2)) h2, h3⟩
theorem MOk.same {H H' : Hp} {m c : Addr} {n : Nat} (h : MOk H m c n) (s : Same H H') : MOk H' m c n := by
  obtain ⟨L, sd, sp, cells, h1, h2, h3⟩ := h
  exact ⟨L, sd, sp, cells, s _ _ h1, s _ _ h2, h3⟩
abbrev s_draw : Stmt := topS 19
theorem sc_draw : FnScope ["m", "bound", "found", "spot", "cells", "extra", "cell", "blend"] ["m", "bound"] (defScope s_draw) := ⟨rfl, rfl, rfl, by decide +kernel, rfl, by decide +kernel, by decide +kernel⟩
def spDraw : Sp := fun vs H Q _ => ∃ (m c : Addr) (n : Nat) (b : Int), vs = [.ref m, .int b] ∧ MOk H m c n ∧ n ≤ 100000 ∧ 0 < b ∧ b < 1073741824 ∧
  ∀ H' v, SameBut m H H' → MOk H' m c (n + 1) → 0 ≤ v → v < b → Q (.int v) H'
section
variable {P : Program} {w : World} {K : PySem.W.Frag} {mg : Str → Option Value} {base : Heap}
theorem ok_draw {f : Addr} {fd : FuncData} (F : Fun K "_law_draw" "_law_draw" s_draw f fd) (m_int : mg "int" = none) (m_len : mg "len" = none) : FnOk P w K mg base CX0 1 f fd ["m", "bound"] spDraw := by
  have sc := sc_draw
  refine F.ok sc (fun vs H Q E h => ?_) (fun cdv A outer s H vs Q E hr h => ?_)
  · obtain ⟨m, c, n, b, rfl, _⟩ := h
    rfl
  · obtain ⟨m, c, n, b, rfl, hM, hn, hb0, hb1, q⟩ := h
    refine ⟨_, (pss_cons (ps_if (pt_cmpR op_gt (pe_dget (hu_of hr) (pv 0) pe_str (fun _ _ => rfl)) pe_int (nomark _))
      (pss_cons (ps_set (i := 2) sc.nd rfl (Or.inl rfl) (pe_op op_modN (pe_callTy call_int1 (by rfl) m_int (by decide +kernel) (pa_cons (pe_dget (hu_of hr) (pv 0) pe_str (fun _ _ => rfl)) pa_nil)) (pv 1)))
    (pss_cons (ps_dput (hu_of hr) (pv 0) pe_str (pe_op op_fdivN (pe_dget (hu_of hr) (pv 0) pe_str (fun _ _ => rfl)) (pv 1)) rfl)
    (pss_one (ps_ret (pv 2)))))
      pss_nil)
    (pss_cons (ps_set (i := 3) sc.nd rfl (Or.inl rfl) (pe_dget (hu_of hr) (pv 0) pe_str (fun _ _ => rfl)))
    (pss_cons (ps_dput (hu_of hr) (pv 0) pe_str (pe_op op_add (pv 3) pe_int) rfl)
    (pss_cons (ps_par (i := 4) (j := 5) (by rfl) sc.nd rfl rfl (by decide) rfl rfl (pa_cons (pe_dget (hu_of hr) (pv 0) pe_str (fun _ _ => rfl)) (pa_cons (pe_op op_add (pe_dget (hu_of hr) (pv 0) pe_str (fun _ _ => rfl)) (pe_op op_mul (pe_op op_mul pe_int (pv 3)) (pv 3))) pa_nil)) (by rfl))
    (pss_cons (ps_set (i := 6) sc.nd rfl (Or.inl rfl) (pe_ix ix_list (pv 4) (pe_op op_modN (pe_callTy call_int1 (by rfl) m_int (by decide +kernel) (pa_cons (pv 3) pa_nil)) (pe_callB call_len_seq (by rfl) m_len (by decide +kernel) (pa_cons (pv 4) pa_nil))) (fun _ _ => rfl)))
    (pss_cons (ps_set (i := 7) sc.nd rfl (Or.inl rfl) (pe_op op_modN (pe_callTy call_int1 (by rfl) m_int (by decide +kernel) (pa_cons (pe_op op_add (pe_op op_mul (pv 6) (pe_op op_add (pe_op op_mul pe_int (pv 3)) pe_int)) (pv 5)) pa_nil)) pe_int))
    (pss_cons (ps_set (i := 7) sc.nd rfl (Or.inl rfl) (pe_op op_modN (pe_callTy call_int1 (by rfl) m_int (by decide +kernel) (pa_cons (pe_op op_add (pe_op op_add (pe_op op_mul (pv 7) (pv 7)) (pe_op op_mul pe_int (pv 3))) (pe_dget (hu_of hr) (pv 0) pe_str (fun _ _ => rfl))) pa_nil)) pe_int))
    (pss_one (ps_ret (pe_op op_modN (pe_op op_fdivN (pe_op op_modN (pe_callTy call_int1 (by rfl) m_int (by decide +kernel) (pa_cons (pe_op op_add (pe_op op_mul (pv 7) pe_int) (pv 3)) pa_nil)) pe_int) pe_int) (pv 1))))))))))), ?_⟩
    obtain ⟨L, sd, sp, cells, h1, h2, h3, h4, h5⟩ := hM
    have ncm : c ≠ m := ne_of h2 h1 (by intro z; cases z)
    refine ⟨.ref m, rfl, m, .int L, rfl, get_m h1 val_left, L, 0, rfl, rfl, _, rfl, ite2 (fun hL => ?_) (fun hL => ?_)⟩
    · -- the first way
      refine ⟨.ref m, rfl, m, .int L, rfl, get_m h1 val_left, .inl ⟨L, rfl, .int b, rfl, L, b, rfl, rfl, by omega, ?_⟩⟩
      refine ⟨.ref m, rfl, m, .int L, rfl, get_m h1 val_left, .int b, rfl, L, b, rfl, rfl, ⟨by omega, by omega⟩, .ref m, rfl, m, _, rfl, put_m h1 put_left, ?_⟩
      refine ⟨.int (L.fmod b), rfl, q _ _ but_put ⟨_, sd, sp, cells, upd_same, ?_, h3, h4, by omega⟩ (Int.fmod_nonneg_of_pos _ hb0) (Int.fmod_lt_of_pos _ hb0)⟩
      rw [upd_ne ncm]
      exact h2
    · -- the second way
      refine ⟨.ref m, rfl, m, .int sp, rfl, get_m h1 val_spot, ?_⟩
      refine ⟨.int sp, rfl, sp, 1, rfl, rfl, .ref m, rfl, m, _, rfl, put_m h1 put_spot, ?_⟩
      have g1 : (upd H m (.dK (mkv L sd c (sp + 1)))) m = some (.dK (mkv L sd c (sp + 1))) := upd_same
      have g2 : (upd H m (.dK (mkv L sd c (sp + 1)))) c = some (.lst (cells.map V.int)) := by
        rw [upd_ne ncm]
        exact h2
      refine ⟨.ref m, rfl, m, .ref c, rfl, get_m g1 val_cells, .ref m, rfl, m, .int sd, rfl, get_m g1 val_seed, .int sp, rfl, 40503, sp, rfl, rfl, .inl ⟨by decide, by decide⟩, .int sp, rfl, 40503 * sp, sp, rfl, rfl, .inr ⟨by omega, by omega⟩, sd, 40503 * sp * sp, rfl, rfl, .ref c, .int (sd + 40503 * sp * sp), rfl, ?_⟩
      have hj : (sp.toNat % cells.length) < cells.length := Nat.mod_lt _ h3
      have e1 : Int.fmod sp ((cells.map V.int).length : Int) = ((sp.toNat % cells.length : Nat) : Int) := by
        rw [List.length_map, Int.fmod_eq_emod_of_nonneg _ (by omega), Int.natCast_emod, Int.toNat_of_nonneg h4]
      have e2 : (cells.map V.int)[sp.toNat % cells.length]? = some (.int cells[sp.toNat % cells.length]) := by
        rw [List.getElem?_map, List.getElem?_eq_getElem hj]
        rfl
      refine ⟨.ref c, rfl, .int sp, rfl, .inl ⟨sp, rfl, .ref c, rfl, c, _, rfl, .inl (SqL.of g2), sp, _, rfl, rfl, ?_, c, _, _, .int cells[sp.toNat % cells.length], rfl, rfl, SqL.of g2, ?_, ?_⟩⟩
      · rw [List.length_map]
        omega
      · rw [e1]
        exact atI_nat e2
      refine ⟨_, rfl, .int sp, rfl, 2, sp, rfl, rfl, .inl ⟨by decide, by decide⟩, 2 * sp, 3, rfl, rfl, _, 2 * sp + 3, rfl, rfl, .inr ⟨by omega, by omega⟩, _, rfl, _, _, rfl, rfl, .inl ⟨_, rfl, _, 2147483647, rfl, rfl, (by show (2147483647 : Int) ≠ 0; decide), ?_⟩⟩
      dsimp only
      generalize hB : Int.fmod (cells[sp.toNat % cells.length] * (2 * sp + 3) + (sd + 40503 * sp * sp)) 2147483647 = B
      have b0 : 0 ≤ B := by
        rw [← hB]
        exact Int.fmod_nonneg_of_pos _ (by decide)
      have b1 : B < 2147483647 := by
        rw [← hB]
        exact Int.fmod_lt_of_pos _ (by decide)
      refine ⟨.int B, rfl, .int B, rfl, B, B, rfl, rfl, .inl ⟨by omega, by omega⟩, .int sp, rfl, 69621, sp, rfl, rfl, .inl ⟨by decide, by decide⟩, B * B, 69621 * sp, rfl, rfl, .ref m, rfl, m, .int sd, rfl, get_m g1 val_seed, _, sd, rfl, rfl, .inl ⟨_, rfl, _, 2147483629, rfl, rfl, (by show (2147483629 : Int) ≠ 0; decide), ?_⟩⟩
      dsimp only
      generalize hB2 : Int.fmod (B * B + 69621 * sp + sd) 2147483629 = B2
      have c0 : 0 ≤ B2 := by
        rw [← hB2]
        exact Int.fmod_nonneg_of_pos _ (by decide)
      have c1 : B2 < 2147483629 := by
        rw [← hB2]
        exact Int.fmod_lt_of_pos _ (by decide)
      refine ⟨.int B2, rfl, B2, 48271, rfl, rfl, .inl ⟨by omega, by omega⟩, .int sp, rfl, _, sp, rfl, rfl, .inl ⟨_, rfl, _, 2147483647, rfl, rfl, (by show (2147483647 : Int) ≠ 0; decide), _, 11, rfl, rfl, (by show (11 : Int) ≠ 0 ∧ (11 : Int).natAbs < 1073741824; decide), .int b, rfl, _, b, rfl, rfl, by omega, ?_⟩⟩
      exact q _ _ but_put ⟨L, sd, sp + 1, cells, g1, g2, h3, by omega, by omega⟩ (Int.fmod_nonneg_of_pos _ hb0) (Int.fmod_lt_of_pos _ hb0)
end
end K08
namespace K08
open PySem PySem.Spec PyProof.Rows L2 Vk
abbrev s_begun : Stmt := topS 18
theorem sc_begun : FnScope ["script", "k_so", "cells", "cell", "great", "seed"] ["script", "k_so"] (defScope s_begun) := ⟨rfl, rfl, rfl, by decide +kernel, rfl, by decide +kernel, by decide +kernel⟩
def spBegun (K : PySem.W.Frag) : Sp := fun vs H Q _ => ∃ (a : Addr) (k : Int) (ns : List Int), vs = [.ref a, .int k] ∧ SqL K H a (ns.map V.int) ∧ ns.length ≤ 63 ∧ 0 ≤ k ∧ k ≤ 100 ∧
  ∀ H' p r, Same H H' → H p = none → MOk H' p r 0 → Q (.ref p) H'
section
variable {P : Program} {w : World} {K : PySem.W.Frag} {mg : Str → Option Value} {base : Heap}
theorem ok_begun {f : Addr} {fd : FuncData} (F : Fun K "_law_begun" "_law_begun" s_begun f fd) (m_int : mg "int" = none) : FnOk P w K mg base CX0 1 f fd ["script", "k_so"] (spBegun K) := by
  have sc := sc_begun
  refine F.ok sc (fun vs H Q E h => ?_) (fun cdv A outer s H vs Q E hr h => ?_)
  · obtain ⟨a, k, ns, rfl, _⟩ := h
    rfl
  · obtain ⟨a, k, ns, rfl, hS, hl, hk0, hk1, q⟩ := h
    refine ⟨_, (pss_cons (ps_set (i := 2) sc.nd rfl (Or.inl rfl) (pe_op op_cat (pe_slice sl_list (pv 0) (po_some (pv 1)) po_none) (pe_slice sl_list (pv 0) po_none (po_some (pv 1)))))
    (pss_cons (ps_setLc (i := 4) (own := [("cell", 3)]) (g := gName 3) (by rfl) sc.nd rfl rfl (sw_true rfl rfl rfl (by decide +kernel)) (pi_list (pv 2)) (blkOk_by (own := [("cell", 3)]) (N := ["script", "k_so", "cells", "cell", "great", "seed"]) (sc := defScope s_begun) (by decide +kernel)) (fun _ _ _ _ _ => pg_name (i := 3) sc.nd rfl (Or.inl rfl)) (fun _ _ _ _ _ => (pts_one (pt_cmpR op_ge (pv 3) (pe_op op_pow pe_int pe_int) (nomark _)))) (fun _ _ _ _ _ => (pv 3)))
    (pss_cons (ps_set (i := 5) sc.nd rfl (Or.inl rfl) (pe_op op_add pe_int (pv 1)))
    (pss_cons (ps_for PassesOwn.never rfl (pi_list (pv 2)) (pg_name (i := 3) sc.nd rfl (Or.inl rfl))
      (pss_one (ps_set (i := 5) sc.nd rfl (Or.inl rfl) (pe_op op_modN (pe_callTy call_int1 (by rfl) m_int (by decide +kernel) (pa_cons (pe_op op_add (pe_op op_mul (pv 5) pe_int) (pv 3)) pa_nil)) pe_int))))
    (pss_one (ps_ret (pe_disp (pps_cons pe_str (pe_ifExp (pt_cmpR (op_neD hr.units) (pv 4) (pe_lst pa_nil) (nomark _)) (pe_ix ix_list (pv 4) pe_int (fun _ _ => rfl)) pe_int) (pps_cons pe_str (pv 5) (pps_cons pe_str (pe_op op_cat (pv 2) (pe_lst (pa_cons (pe_op op_add (pe_op op_mul pe_int (pv 1)) pe_int) pa_nil))) (pps_cons pe_str pe_int pps_nil)))) (by rfl) (by rfl) (fun z => by cases z) (by decide)))))))), ?_⟩
    obtain ⟨l1, e1, b1⟩ := cut_ints ns (some k) none
    obtain ⟨l2, e2, b2⟩ := cut_ints ns none (some k)
    refine ⟨.ref a, rfl, .int k, rfl, k, rfl, a, _, rfl, hS, fun p1 n1 => ?_⟩
    rw [e1]
    have s1 : Same H (upd H p1 (.lst (l1.map V.int))) := same_new n1
    refine ⟨.ref a, rfl, .int k, rfl, k, rfl, a, _, rfl, s1.seq hS, fun p2 n2 => ?_⟩
    rw [e2]
    have n12 : p1 ≠ p2 := fun z => by
      rw [← z, upd_same] at n2
      cases n2
    have h2 : H p2 = none := s1.free n2
    refine ⟨p1, p2, l1.map V.int, l2.map V.int, rfl, rfl, ?_, upd_same, ?_, fun p np => ?_⟩
    · rw [upd_ne n12, upd_same]
    · rw [List.length_map, List.length_map]
      exact Nat.le_of_lt (small1000 (by omega))
    rw [← List.map_append]
    have s2 : Same H (upd (upd H p1 (.lst (l1.map V.int))) p2 (.lst (l2.map V.int))) := same_put s1 h2
    have hp : H p = none := s2.free np
    have s3 := same_put (o := .lst ((l1 ++ l2).map V.int)) s2 hp
    have hH3 : upd (upd (upd H p1 (.lst (l1.map V.int))) p2 (.lst (l2.map V.int))) p (.lst ((l1 ++ l2).map V.int)) p = some (.lst ((l1 ++ l2).map V.int)) := upd_same
    generalize upd (upd (upd H p1 (.lst (l1.map V.int))) p2 (.lst (l2.map V.int))) p (.lst ((l1 ++ l2).map V.int)) = H3 at s3 hH3 ⊢
    have g3 : H3 p = some (.lst ((l1 ++ l2).map V.int)) := hH3
    generalize hcs : l1 ++ l2 = cs at g3
    have bcs : cs.length ≤ 126 := by
      rw [← hcs, List.length_append]
      omega
    refine ⟨.ref p, rfl, p, rfl, ⟨_, SqL.of g3⟩, fun D nD => ?_⟩
    have hD : H D = none := s3.free nD
    have nDp : p ≠ D := ne_of_none g3 nD
    refine lc_list (K := K) (a := p) (xs := cs.map V.int) (fun i H' => ∃ acc : List Int, H' = upd H3 D (.lst (acc.map V.int)) ∧ acc.length ≤ i) ⟨[], rfl, Nat.le_refl _⟩ ?_ ?_ ?_
    · rintro i H' _ ⟨acc, rfl, _⟩
      refine SqL.of ?_
      rw [upd_ne nDp]
      exact g3
    · rintro i x H' hx ⟨acc, rfl, hacc⟩
      obtain ⟨z, hz, rfl⟩ : ∃ z, cs[i]? = some z ∧ x = V.int z := by
        rw [List.getElem?_map] at hx
        cases hc : cs[i]? with
        | none => rw [hc] at hx; cases hx
        | some z => rw [hc] at hx; exact ⟨z, rfl, (Option.some.inj hx).symm⟩
      have hi : i < cs.length := (List.getElem?_eq_some_iff.mp hz).1
      refine ⟨rfl, .int z, rfl, 10, 18, rfl, rfl, ⟨by decide, by decide, by decide⟩, z, _, rfl, rfl, _, rfl, ite2 (fun h => ?_) (fun h => ?_)⟩
      · refine ⟨.int z, rfl, _, upd_same, ?_, acc ++ [z], ?_, ?_⟩
        · rw [List.length_map]
          exact small1000 (by omega)
        · rw [upd_upd, List.map_append]
          rfl
        · rw [List.length_append]
          show acc.length + 1 ≤ i + 1
          omega
      · exact ⟨acc, rfl, by omega⟩
    rintro H' ⟨acc, rfl, hacc⟩
    have s4 : Same H (upd H3 D (.lst (acc.map V.int))) := same_put s3 hD
    have g4 : upd H3 D (.lst (acc.map V.int)) p = some (.lst (cs.map V.int)) := by
      rw [upd_ne nDp]
      exact g3
    have d4 : upd H3 D (.lst (acc.map V.int)) D = some (.lst (acc.map V.int)) := upd_same
    generalize upd H3 D (.lst (acc.map V.int)) = H4 at s4 g4 d4
    refine ⟨.int k, rfl, 71, k, rfl, rfl, .ref p, rfl, p, rfl, ⟨_, SqL.of g4⟩, ?_⟩
    refine for_list (K := K) (a := p) (xs := cs.map V.int) (fun i σ H' => ∃ (sd : Int) (y : Option V), σ = [some (.ref a), some (.int k), some (.ref p), y, some (.ref D), some (.int sd)] ∧ H' = H4 ∧ 0 ≤ sd ∧ sd < 2147483648) ⟨71 + k, none, rfl, rfl, by omega, by omega⟩ ?_ ?_ ?_
    · rintro i σ H' _ ⟨sd, y, rfl, rfl, _⟩
      exact SqL.of g4
    · rintro i x σ H' hx ⟨sd, y, rfl, rfl, h0, h1⟩
      obtain ⟨z, hz, rfl⟩ : ∃ z, cs[i]? = some z ∧ x = V.int z := by
        rw [List.getElem?_map] at hx
        cases hc : cs[i]? with
        | none => rw [hc] at hx; cases hx
        | some z => rw [hc] at hx; exact ⟨z, rfl, (Option.some.inj hx).symm⟩
      refine ⟨.int sd, rfl, sd, 48271, rfl, rfl, .inl ⟨by omega, by omega⟩, .int z, rfl, _, z, rfl, rfl, .inl ⟨_, rfl, _, 2147483647, rfl, rfl, (by show (2147483647 : Int) ≠ 0; decide), ?_⟩⟩
      have q1 := Int.fmod_lt_of_pos (sd * 48271 + z) (show (0 : Int) < 2147483647 by decide)
      exact ⟨_, _, rfl, rfl, Int.fmod_nonneg_of_pos _ (by decide), by omega⟩
    rintro σ H' ⟨sd, y, rfl, rfl, h0, h1⟩
    intro r nr
    have hr0 : H r = none := s4.free nr
    have s5 : Same H (upd H' r (.dK [])) := same_put s4 hr0
    have prn : p ≠ r := ne_of_none g4 nr
    have drn : D ≠ r := ne_of_none d4 nr
    have g5 : upd H' r (.dK []) p = some (.lst (cs.map V.int)) := by
      rw [upd_ne prn]
      exact g4
    have d5 : upd H' r (.dK []) D = some (.lst (acc.map V.int)) := by
      rw [upd_ne drn]
      exact d4
    have r5 : upd H' r (.dK []) r = some (.dK []) := upd_same
    generalize upd H' r (.dK []) = H5 at s5 g5 d5 r5 ⊢
    refine ⟨.ref D, rfl, Nat.zero_le _, fun e0 ne0 => ?_⟩
    have p0 : p ≠ e0 := ne_of_none g5 ne0
    have d0 : D ≠ e0 := ne_of_none d5 ne0
    have r0 : r ≠ e0 := ne_of_none r5 ne0
    have s6 : Same H (upd H5 e0 (.lst [])) := same_put s5 (s5.free ne0)
    have g6 : upd H5 e0 (.lst []) p = some (.lst (cs.map V.int)) := by
      rw [upd_ne p0]
      exact g5
    have d6 : upd H5 e0 (.lst []) D = some (.lst (acc.map V.int)) := by
      rw [upd_ne d0]
      exact d5
    have r6 : upd H5 e0 (.lst []) r = some (.dK []) := by
      rw [upd_ne r0]
      exact r5
    have l6 : upd H5 e0 (.lst []) e0 = some (.lst ([] : List V)) := upd_same
    generalize upd H5 e0 (.lst []) = H6 at s6 g6 d6 r6 l6 ⊢
    refine ⟨.list (acc.map PyData.int), .list [], .lst (SqL.of d6) (dp_ints acc), .lst (SqL.of l6) .nil, shaped_ints acc, shaped_ints [], _, rfl, ?_⟩
    refine tif_both (fun v => ∃ L : Int, v = .int L) ?_ ?_ ?_
    · rintro _ ⟨L, rfl⟩
      refine ⟨.int sd, rfl, .ref p, rfl, .int k, rfl, 53, k, rfl, rfl, .inl ⟨by decide, by decide⟩, _, 11, rfl, rfl, (by show 1 ≤ sizeLine; decide), fun e1 ne1 => ?_⟩
      have p1' : p ≠ e1 := ne_of_none g6 ne1
      have r1' : r ≠ e1 := ne_of_none r6 ne1
      have s7 : Same H (upd H6 e1 (.lst [.int (53 * k + 11)])) := same_put s6 (s6.free ne1)
      refine ⟨p, e1, cs.map V.int, [.int (53 * k + 11)], rfl, rfl, ?_, upd_same, ?_, fun c nc => ?_⟩
      · rw [upd_ne p1']
        exact g6
      · rw [List.length_map]
        exact Nat.le_of_lt (small1000 (show cs.length + 1 ≤ 1000 by omega))
      have r7 : upd H6 e1 (.lst [.int (53 * k + 11)]) r = some (.dK []) := by
        rw [upd_ne r1']
        exact r6
      have rc : r ≠ c := ne_of_none r7 nc
      have s8 := same_put (o := .lst (cs.map V.int ++ [.int (53 * k + 11)])) s7 (s7.free nc)
      refine ⟨?_, mkv L sd c 0, rfl, (by show 4 ≤ 15; decide), ?_⟩
      · rw [upd_ne rc]
        exact r7
      refine q _ _ _ (same_put s8 hr0) hr0 ⟨L, sd, 0, cs ++ [53 * k + 11], upd_same, ?_, ?_, by omega, by omega⟩
      · rw [upd_ne (Ne.symm rc), upd_same, List.map_append]
        rfl
      · rw [List.length_append]
        exact Nat.succ_pos _
    · intro hc hQ
      cases acc with
      | nil => exact absurd hc (by decide)
      | cons z zs => exact ⟨.ref D, rfl, D, _, 0, .int z, rfl, rfl, SqL.of d6, atI_nat (j := 0) rfl, hQ _ ⟨z, rfl⟩⟩
    · intro hc hQ
      exact hQ _ ⟨0, rfl⟩
end
end K08
namespace K08
/-- the divisor that takes the common part out and puts the sign above -/
def prt (a b : Int) : Int := if 0 < b then (Int.gcd a b : Int) else -(Int.gcd a b : Int)
def low (a b : Int) : Int × Int := (a.fdiv (prt a b), b.fdiv (prt a b))
theorem prt_ne {a b : Int} (h : b ≠ 0) : prt a b ≠ 0 := by
  have g : Int.gcd a b ≠ 0 := fun z => h (Int.gcd_eq_zero_iff.mp z).2
  unfold prt
  split <;> omega
theorem prt_abs (a b : Int) : (prt a b).natAbs = Int.gcd a b := by
  unfold prt
  split <;> omega
theorem prt_dvd_left (a b : Int) : prt a b ∣ a := by
  rw [← Int.natAbs_dvd, prt_abs]
  exact Int.gcd_dvd_left _ _
theorem prt_dvd_right (a b : Int) : prt a b ∣ b := by
  rw [← Int.natAbs_dvd, prt_abs]
  exact Int.gcd_dvd_right _ _
theorem low_mul {a b : Int} (h : b ≠ 0) : a = prt a b * (low a b).1 ∧ b = prt a b * (low a b).2 := by
  have hp := prt_ne (a := a) h
  constructor
  · exact (Int.mul_fdiv_cancel' (prt_dvd_left a b)).symm
  · exact (Int.mul_fdiv_cancel' (prt_dvd_right a b)).symm
theorem low_pos {a b : Int} (h : b ≠ 0) : 0 < (low a b).2 := by
  obtain ⟨_, e⟩ := low_mul (a := a) h
  have hp := prt_ne (a := a) h
  by_cases hb : 0 < b
  · have p0 : 0 < prt a b := by
      have : prt a b = (Int.gcd a b : Int) := if_pos hb
      omega
    by_cases z : 0 < (low a b).2
    · exact z
    · have : prt a b * (low a b).2 ≤ 0 := Int.mul_nonpos_of_nonneg_of_nonpos (Int.le_of_lt p0) (by omega)
      omega
  · have p0 : prt a b < 0 := by
      have : prt a b = -(Int.gcd a b : Int) := if_neg hb
      omega
    by_cases z : 0 < (low a b).2
    · exact z
    · have : 0 ≤ prt a b * (low a b).2 := Int.mul_nonneg_of_nonpos_of_nonpos (Int.le_of_lt p0) (by omega)
      omega
theorem low_gcd {a b : Int} (h : b ≠ 0) : Int.gcd (low a b).1 (low a b).2 = 1 := by
  obtain ⟨e1, e2⟩ := low_mul (a := a) h
  have hp := prt_ne (a := a) h
  have g : Int.gcd a b = (prt a b).natAbs * Int.gcd (low a b).1 (low a b).2 := by
    have key := Int.gcd_mul_left (prt a b) (low a b).1 (low a b).2
    rw [← e1, ← e2] at key
    exact key
  rw [← prt_abs a b] at g
  have g0 : 0 < (prt a b).natAbs := by omega
  have z : (prt a b).natAbs * 1 = (prt a b).natAbs * Int.gcd (low a b).1 (low a b).2 := by omega
  exact (Nat.eq_of_mul_eq_mul_left g0 z).symm
theorem low_abs {a b : Int} (h : b ≠ 0) : (low a b).1.natAbs ≤ a.natAbs ∧ (low a b).2.natAbs ≤ b.natAbs := by
  obtain ⟨e1, e2⟩ := low_mul (a := a) h
  have g0 : 0 < (prt a b).natAbs := by have := prt_ne (a := a) h; omega
  have f : ∀ x : Int, x.natAbs ≤ (prt a b * x).natAbs := fun x => by
    rw [Int.natAbs_mul]
    exact Nat.le_mul_of_pos_left _ g0
  constructor
  · conv => rhs; rw [e1]
    exact f _
  · conv => rhs; rw [e2]
    exact f _
theorem low_self {x y : Int} (hy : 0 < y) (hg : Int.gcd x y = 1) : low x y = (x, y) := by
  unfold low prt
  rw [if_pos hy, hg]
  show (x.fdiv 1, y.fdiv 1) = _
  rw [Int.fdiv_one, Int.fdiv_one]
theorem low_zero {c : Int} (h : c ≠ 0) : low 0 c = (0, 1) := by
  unfold low prt
  rw [Int.zero_fdiv, Int.gcd_zero_left]
  by_cases hc : 0 < c
  · rw [if_pos hc]
    have e : (c.natAbs : Int) = c := by omega
    rw [e, Int.fdiv_self h]
  · rw [if_neg hc]
    have e : -(c.natAbs : Int) = c := by omega
    rw [e, Int.fdiv_self h]
theorem low_neg {u v : Int} (h : v ≠ 0) : low (-u) (-v) = low u v := by
  have e : prt (-u) (-v) = -prt u v := by
    unfold prt
    rw [Int.gcd_neg, Int.neg_gcd]
    by_cases hv : 0 < v
    · rw [if_neg (by omega), if_pos hv]
    · rw [if_pos (by omega), if_neg hv, Int.neg_neg]
  unfold low
  rw [e, Int.neg_fdiv_neg, Int.neg_fdiv_neg]
theorem low_floor {a c : Int} (h : c ≠ 0) : (low a c).1.fdiv (low a c).2 = a.fdiv c := by
  obtain ⟨e1, e2⟩ := low_mul (a := a) h
  have hp := prt_ne (a := a) h
  have y0 := low_pos (a := a) h
  have goal : ∀ p x y : Int, p ≠ 0 → 0 < y → x.fdiv y = (p * x).fdiv (p * y) := ?_
  · have z := goal _ (low a c).1 (low a c).2 hp y0
    rw [← e1, ← e2] at z
    exact z
  intro p x y hp y0
  by_cases hp0 : 0 < p
  · rw [Int.fdiv_eq_ediv_of_nonneg _ (Int.le_of_lt y0), Int.fdiv_eq_ediv_of_nonneg _ (Int.le_of_lt (Int.mul_pos hp0 y0)), Int.mul_ediv_mul_of_pos _ _ hp0]
  · have hq : 0 < -p := by omega
    have e : (p * x).fdiv (p * y) = (-p * x).fdiv (-p * y) := by
      rw [Int.neg_mul, Int.neg_mul, Int.neg_fdiv_neg]
    rw [e, Int.fdiv_eq_ediv_of_nonneg _ (Int.le_of_lt y0), Int.fdiv_eq_ediv_of_nonneg _ (Int.le_of_lt (Int.mul_pos hq y0)), Int.mul_ediv_mul_of_pos _ _ hq]
end K08
namespace Vk
open PySem PySem.Spec PyProof.Rows L2
/-- X(), X an own exception class without own __init__ -/
theorem pmk_own0 {X : Cx} {C : Addr} {bmB : List Value} {B newId initId : String} {x : Str} {p pos : Pos} (F : ExcBaseFacts B newId initId bmB) (q : PySem.W.excIn X.K C bmB newId = true) (gC : X.mg x = some (.ref C))
    (kC : PySem.W.keepIn X.K (.ref C) = true) (r : Raises X (.ref C)) (hg : Gl X x) (hdb : (x == ("__debug__" : Str)) = false := by decide) :
    PMk X (.Call (.Name x p) [] [] pos) (fun _ H Q => Q (.ref C) none H) := by
  intro pins s σ H Q I h
  obtain ⟨bm, N, nm, qn, bs, hd, sn, sub, ab, col, dd, k0, k1, k2, k3, k5, mN, hC, hN, hni, T⟩ := exc_obj I.kIn q
  refine wpAny_Call_Name_kw (ld_glob I hg gC (PySem.W.callWith_K0 I.kIn kC ?_) hdb)
  exact wpAny_call_exc_subT F T hC hN hni (fun h' e hm => mk_of I hm r h (I.hok.gone hm.new)) (Nat.zero_le _)
/-- what is known of an own exception class -/
structure ExcT (K : PySem.W.Frag) (mg : Str → Option Value) (x : Str) (C : Addr) : Prop where
  g : mg x = some (.ref C)
  ex : PySem.W.excIn K C [.type "ValueError", .type "Exception", .type "BaseException", .type "object"] "ValueError.__new__" = true
  k : PySem.W.keepIn K (.ref C) = true
  b : PySem.W.subIn K (.ref C) (.type "BaseException") = some true
  t : PySem.W.typeIn K (.ref C) = some (.type "type")
end Vk
namespace K08
open PySem PySem.Spec PyProof.Rows L2 Vk
/-! ### fractions -/
theorem prt_lt {a b : Int} {n : Nat} (h : b ≠ 0) (hb : b.natAbs < 2 ^ n) (hn : 0 < n) : (prt a b).natAbs.log2 < n := by
  have g : Int.gcd a b ≤ b.natAbs := Nat.le_of_dvd (by omega) (Nat.gcd_dvd_right _ _)
  have e : (prt a b).natAbs = Int.gcd a b := by
    unfold prt
    split <;> omega
  rw [e]
  exact PySem.Flt.log2_lt_of hn (by omega)
/-- a fraction stands at p -/
def Pr (H : Hp) (p : Addr) (x : Int × Int) : Prop := H p = some (.tup [.int x.1, .int x.2])
abbrev s_fraction : Stmt := topS 8
theorem sc_fraction : FnScope ["a", "b", "part"] ["a", "b"] (defScope s_fraction) := ⟨rfl, rfl, rfl, by decide +kernel, rfl, by decide +kernel, by decide +kernel⟩
def spFrac : Sp := fun vs H Q _ => ∃ a b : Int, vs = [.int a, .int b] ∧ b ≠ 0 ∧ b.natAbs < 2 ^ 8000 ∧ ∀ H' p, Same H H' → H p = none → Pr H' p (low a b) → Q (.ref p) H'
def spFracX (C : Addr) : Sp := fun vs H Q E => ∃ a b : Int, vs = [.int a, .int b] ∧ b.natAbs < 2 ^ 8000 ∧ (b = 0 → E (.ref C) none H) ∧ (b ≠ 0 → ∀ H' p, Same H H' → H p = none → Pr H' p (low a b) → Q (.ref p) H')
section
variable {P : Program} {w : World} {K : PySem.W.Frag} {mg : Str → Option Value} {base : Heap}
theorem ok_fraction {f : Addr} {fd : FuncData} (F : Fun K "fraction" "fraction" s_fraction f fd) (g_gcd : mg "gcd" = some (.builtin "math.gcd")) : FnOk P w K mg base CX0 1 f fd ["a", "b"] spFrac := by
  have sc := sc_fraction
  refine F.ok sc (fun vs H Q E h => ?_) (fun cdv A outer s H vs Q E hr h => ?_)
  · obtain ⟨a, b, rfl, _⟩ := h
    rfl
  · obtain ⟨a, b, rfl, hb, hz, q⟩ := h
    refine ⟨_, (pss_cons (ps_if (pt_cmpR op_eq (pv 1) pe_int (nomark _))
      (pss_one ps_never)
      pss_nil)
    (pss_cons (ps_set (i := 2) sc.nd rfl (Or.inl rfl) (pe_ifExp (pt_cmpR op_gt (pv 1) pe_int (nomark _)) (pe_callBfun cr_gcd rfl g_gcd (pa_cons (pv 0) (pa_cons (pv 1) pa_nil))) (pe_un un_neg (pe_callBfun cr_gcd rfl g_gcd (pa_cons (pv 0) (pa_cons (pv 1) pa_nil))))))
    (pss_one (ps_ret (pe_tup (pa_cons (pe_op op_fdivX (pv 0) (pv 2)) (pa_cons (pe_op op_fdivX (pv 1) (pv 2)) pa_nil))))))), ?_⟩
    refine ⟨.int b, rfl, rfl, _, rfl, ite2 (fun e => ?_) (fun _ => ?_)⟩
    · exact absurd (V.int.inj (of_decide_eq_true e)) hb
    have c1 := prt_ne (a := a) hb
    have c2 : (prt a b).natAbs.log2 < 9000 := Nat.lt_trans (prt_lt hb hz (by decide)) (by decide)
    refine ⟨.int b, rfl, b, 0, rfl, rfl, _, rfl, tif_both (fun v => v = .int (prt a b)) ?_ ?_ ?_⟩
    · rintro _ rfl
      refine ⟨.int a, rfl, .int (prt a b), rfl, a, _, rfl, rfl, ⟨c1, c2⟩, .int b, rfl, .int (prt a b), rfl, b, _, rfl, rfl, ⟨c1, c2⟩, by show 2 ≤ sizeLine; decide, fun p np => ?_⟩
      exact q _ p (same_new np) np upd_same
    · intro c hQ
      refine ⟨.int a, rfl, .int b, rfl, a, b, rfl, hQ _ ?_⟩
      unfold prt
      rw [if_pos (of_decide_eq_true c)]
      rfl
    · intro c hQ
      refine ⟨.int a, rfl, .int b, rfl, a, b, rfl, _, rfl, hQ _ ?_⟩
      unfold prt
      rw [if_neg (of_decide_eq_false c)]
      rfl
end
end K08
namespace K08
open PySem PySem.Spec PyProof.Rows L2 Vk
/-- a number of few bits -/
def Sm (n : Nat) (x : Int) : Prop := x.natAbs < 2 ^ n
theorem Sm.mul {a b : Int} {n m : Nat} (ha : Sm n a) (hb : Sm m b) : Sm (n + m) (a * b) := wide_lt ha hb
theorem Sm.add {a b : Int} {n : Nat} (ha : Sm n a) (hb : Sm n b) : Sm (n + 1) (a + b) := by
  unfold Sm at ha hb ⊢
  have h : 2 ^ (n + 1) = 2 ^ n + 2 ^ n := by rw [Nat.pow_succ, Nat.mul_two]
  omega
theorem Sm.sub {a b : Int} {n : Nat} (ha : Sm n a) (hb : Sm n b) : Sm (n + 1) (a - b) := by
  unfold Sm at ha hb ⊢
  have h : 2 ^ (n + 1) = 2 ^ n + 2 ^ n := by rw [Nat.pow_succ, Nat.mul_two]
  omega
theorem Sm.mono {a : Int} {n m : Nat} (ha : Sm n a) (h : n ≤ m) : Sm m a := Nat.lt_of_lt_of_le ha (Nat.pow_le_pow_right (by decide) h)
theorem Sm.w {a b : Int} {n m : Nat} (ha : Sm n a) (hb : Sm m b) (h : n + m ≤ 900000) : CMulW a b := by
  exact wide_mul (ha.mono (Nat.le_succ n)) (hb.mono (Nat.le_succ m)) (Nat.succ_pos _) (Nat.succ_pos _) (by omega)
section
variable {P : Program} {w : World} {K : PySem.W.Frag} {mg : Str → Option Value} {base : Heap}
theorem ok_fractionX {f C : Addr} {fd : FuncData} (F : Fun K "fraction" "fraction" s_fraction f fd) (g_gcd : mg "gcd" = some (.builtin "math.gcd")) (T : ExcT K mg "ByNought" C) : FnOk P w K mg base (L2.CX P w) 1 f fd ["a", "b"] (spFracX C) := by
  have sc := sc_fraction
  refine F.okX sc (fun vs H Q E h => ?_) (fun cdv A outer s H vs Q E hr h => ?_)
  · obtain ⟨a, b, rfl, _⟩ := h
    rfl
  · obtain ⟨a, b, rfl, hz, hE, q⟩ := h
    refine ⟨_, (pss_cons (ps_if (pt_cmpR op_eq (pv 1) pe_int (nomark _))
      (pss_one (ps_raise rfl (takes_of rfl rfl rfl rfl) (pmk_own0 PySem.F.excBase_ValueError T.ex T.g T.k (raises_own T.b T.t) rfl)))
      pss_nil)
    (pss_cons (ps_set (i := 2) sc.nd rfl (Or.inl rfl) (pe_ifExp (pt_cmpR op_gt (pv 1) pe_int (nomark _)) (pe_callBfun cr_gcd rfl g_gcd (pa_cons (pv 0) (pa_cons (pv 1) pa_nil))) (pe_un un_neg (pe_callBfun cr_gcd rfl g_gcd (pa_cons (pv 0) (pa_cons (pv 1) pa_nil))))))
    (pss_one (ps_ret (pe_tup (pa_cons (pe_op op_fdivX (pv 0) (pv 2)) (pa_cons (pe_op op_fdivX (pv 1) (pv 2)) pa_nil))))))), ?_⟩
    refine ⟨.int b, rfl, rfl, _, rfl, ite2 (fun e => ?_) (fun e => ?_)⟩
    · exact hE (V.int.inj (of_decide_eq_true e))
    have hb : b ≠ 0 := fun z => e (decide_eq_true (by rw [z]))
    have c1 := prt_ne (a := a) hb
    have c2 : (prt a b).natAbs.log2 < 9000 := Nat.lt_trans (prt_lt hb hz (by decide)) (by decide)
    refine ⟨.int b, rfl, b, 0, rfl, rfl, _, rfl, tif_both (fun v => v = .int (prt a b)) ?_ ?_ ?_⟩
    · rintro _ rfl
      refine ⟨.int a, rfl, .int (prt a b), rfl, a, _, rfl, rfl, ⟨c1, c2⟩, .int b, rfl, .int (prt a b), rfl, b, _, rfl, rfl, ⟨c1, c2⟩, by show 2 ≤ sizeLine; decide, fun p np => ?_⟩
      exact q hb _ p (same_new np) np upd_same
    · intro c hQ
      refine ⟨.int a, rfl, .int b, rfl, a, b, rfl, hQ _ ?_⟩
      unfold prt
      rw [if_pos (of_decide_eq_true c)]
      rfl
    · intro c hQ
      refine ⟨.int a, rfl, .int b, rfl, a, b, rfl, _, rfl, hQ _ ?_⟩
      unfold prt
      rw [if_neg (of_decide_eq_false c)]
      rfl
/-! ### sums, products .. of two fractions -/
abbrev s_plus : Stmt := topS 9
abbrev s_minus : Stmt := topS 10
abbrev s_times : Stmt := topS 11
abbrev s_over : Stmt := topS 12
theorem sc_plus : FnScope ["f", "g"] ["f", "g"] (defScope s_plus) := ⟨rfl, rfl, rfl, by decide +kernel, rfl, by decide +kernel, by decide +kernel⟩
theorem sc_minus : FnScope ["f", "g"] ["f", "g"] (defScope s_minus) := ⟨rfl, rfl, rfl, by decide +kernel, rfl, by decide +kernel, by decide +kernel⟩
theorem sc_times : FnScope ["f", "g"] ["f", "g"] (defScope s_times) := ⟨rfl, rfl, rfl, by decide +kernel, rfl, by decide +kernel, by decide +kernel⟩
theorem sc_over : FnScope ["f", "g"] ["f", "g"] (defScope s_over) := ⟨rfl, rfl, rfl, by decide +kernel, rfl, by decide +kernel, by decide +kernel⟩
/-- two fractions in, a fraction out: up and down tell its parts -/
def spTwo (up down : Int → Int → Int → Int → Int) : Sp := fun vs H Q _ => ∃ (p q : Addr) (a c u v : Int), vs = [.ref p, .ref q] ∧ Pr H p (a, c) ∧ Pr H q (u, v) ∧ Sm 1000 a ∧ Sm 1000 c ∧ Sm 1000 u ∧ Sm 1000 v ∧ down a c u v ≠ 0 ∧
  ∀ H' r, Same H H' → H r = none → Pr H' r (low (up a c u v) (down a c u v)) → Q (.ref r) H'
def spOverX (C : Addr) : Sp := fun vs H Q E => ∃ (p q : Addr) (a c u v : Int), vs = [.ref p, .ref q] ∧ Pr H p (a, c) ∧ Pr H q (u, v) ∧ Sm 1000 a ∧ Sm 1000 c ∧ Sm 1000 u ∧ Sm 1000 v ∧ (c * u = 0 → E (.ref C) none H) ∧
  (c * u ≠ 0 → ∀ H' r, Same H H' → H r = none → Pr H' r (low (a * v) (c * u)) → Q (.ref r) H')
theorem at0 {x y : V} : atI [x, y] 0 = some x := rfl
theorem at1 {x y : V} : atI [x, y] 1 = some y := rfl
theorem ok_plus {f : Addr} {fd : FuncData} (F : Fun K "plus" "plus" s_plus f fd) (C_fraction : Cal P w K mg base 1 "fraction" ["a", "b"] spFrac) : FnOk P w K mg base CX0 2 f fd ["f", "g"] (spTwo (fun a c u v => a * v + u * c) (fun _ c _ v => c * v)) := by
  have sc := sc_plus
  refine F.ok sc (fun vs H Q E h => ?_) (fun cdv A outer s H vs Q E hr h => ?_)
  · obtain ⟨p, q, a, c, u, v, rfl, _⟩ := h
    rfl
  · obtain ⟨p, q, a, c, u, v, rfl, hp, hq, za, zc, zu, zv, hd, k⟩ := h
    refine ⟨_, (pss_one (ps_ret (call_ C_fraction (hr.mono (by decide)) (by rfl) (pa_cons (pe_op op_add (pe_op op_mulW (pe_ix ix_tup (pv 0) pe_int (fun _ _ => rfl)) (pe_ix ix_tup (pv 1) pe_int (fun _ _ => rfl))) (pe_op op_mulW (pe_ix ix_tup (pv 1) pe_int (fun _ _ => rfl)) (pe_ix ix_tup (pv 0) pe_int (fun _ _ => rfl)))) (pa_cons (pe_op op_mulW (pe_ix ix_tup (pv 0) pe_int (fun _ _ => rfl)) (pe_ix ix_tup (pv 1) pe_int (fun _ _ => rfl))) pa_nil))))), ?_⟩
    refine ⟨.ref p, rfl, p, _, 0, _, rfl, rfl, SqT.of hp, at0, .ref q, rfl, q, _, 1, _, rfl, rfl, SqT.of hq, at1, a, v, rfl, rfl, za.w zv (by decide), ?_⟩
    refine ⟨.ref q, rfl, q, _, 0, _, rfl, rfl, SqT.of hq, at0, .ref p, rfl, p, _, 1, _, rfl, rfl, SqT.of hp, at1, u, c, rfl, rfl, zu.w zc (by decide), _, _, rfl, rfl, ?_⟩
    refine ⟨.ref p, rfl, p, _, 1, _, rfl, rfl, SqT.of hp, at1, .ref q, rfl, q, _, 1, _, rfl, rfl, SqT.of hq, at1, c, v, rfl, rfl, zc.w zv (by decide), ?_⟩
    exact ⟨_, _, rfl, hd, (zc.mul zv).mono (by decide), k⟩
theorem ok_minus {f : Addr} {fd : FuncData} (F : Fun K "minus" "minus" s_minus f fd) (C_fraction : Cal P w K mg base 1 "fraction" ["a", "b"] spFrac) : FnOk P w K mg base CX0 2 f fd ["f", "g"] (spTwo (fun a c u v => a * v - u * c) (fun _ c _ v => c * v)) := by
  have sc := sc_minus
  refine F.ok sc (fun vs H Q E h => ?_) (fun cdv A outer s H vs Q E hr h => ?_)
  · obtain ⟨p, q, a, c, u, v, rfl, _⟩ := h
    rfl
  · obtain ⟨p, q, a, c, u, v, rfl, hp, hq, za, zc, zu, zv, hd, k⟩ := h
    refine ⟨_, (pss_one (ps_ret (call_ C_fraction (hr.mono (by decide)) (by rfl) (pa_cons (pe_op op_sub (pe_op op_mulW (pe_ix ix_tup (pv 0) pe_int (fun _ _ => rfl)) (pe_ix ix_tup (pv 1) pe_int (fun _ _ => rfl))) (pe_op op_mulW (pe_ix ix_tup (pv 1) pe_int (fun _ _ => rfl)) (pe_ix ix_tup (pv 0) pe_int (fun _ _ => rfl)))) (pa_cons (pe_op op_mulW (pe_ix ix_tup (pv 0) pe_int (fun _ _ => rfl)) (pe_ix ix_tup (pv 1) pe_int (fun _ _ => rfl))) pa_nil))))), ?_⟩
    refine ⟨.ref p, rfl, p, _, 0, _, rfl, rfl, SqT.of hp, at0, .ref q, rfl, q, _, 1, _, rfl, rfl, SqT.of hq, at1, a, v, rfl, rfl, za.w zv (by decide), ?_⟩
    refine ⟨.ref q, rfl, q, _, 0, _, rfl, rfl, SqT.of hq, at0, .ref p, rfl, p, _, 1, _, rfl, rfl, SqT.of hp, at1, u, c, rfl, rfl, zu.w zc (by decide), _, _, rfl, rfl, ?_⟩
    refine ⟨.ref p, rfl, p, _, 1, _, rfl, rfl, SqT.of hp, at1, .ref q, rfl, q, _, 1, _, rfl, rfl, SqT.of hq, at1, c, v, rfl, rfl, zc.w zv (by decide), ?_⟩
    exact ⟨_, _, rfl, hd, (zc.mul zv).mono (by decide), k⟩
theorem ok_times {f : Addr} {fd : FuncData} (F : Fun K "times" "times" s_times f fd) (C_fraction : Cal P w K mg base 1 "fraction" ["a", "b"] spFrac) : FnOk P w K mg base CX0 2 f fd ["f", "g"] (spTwo (fun a _ u _ => a * u) (fun _ c _ v => c * v)) := by
  have sc := sc_times
  refine F.ok sc (fun vs H Q E h => ?_) (fun cdv A outer s H vs Q E hr h => ?_)
  · obtain ⟨p, q, a, c, u, v, rfl, _⟩ := h
    rfl
  · obtain ⟨p, q, a, c, u, v, rfl, hp, hq, za, zc, zu, zv, hd, k⟩ := h
    refine ⟨_, (pss_one (ps_ret (call_ C_fraction (hr.mono (by decide)) (by rfl) (pa_cons (pe_op op_mulW (pe_ix ix_tup (pv 0) pe_int (fun _ _ => rfl)) (pe_ix ix_tup (pv 1) pe_int (fun _ _ => rfl))) (pa_cons (pe_op op_mulW (pe_ix ix_tup (pv 0) pe_int (fun _ _ => rfl)) (pe_ix ix_tup (pv 1) pe_int (fun _ _ => rfl))) pa_nil))))), ?_⟩
    refine ⟨.ref p, rfl, p, _, 0, _, rfl, rfl, SqT.of hp, at0, .ref q, rfl, q, _, 0, _, rfl, rfl, SqT.of hq, at0, a, u, rfl, rfl, za.w zu (by decide), ?_⟩
    refine ⟨.ref p, rfl, p, _, 1, _, rfl, rfl, SqT.of hp, at1, .ref q, rfl, q, _, 1, _, rfl, rfl, SqT.of hq, at1, c, v, rfl, rfl, zc.w zv (by decide), ?_⟩
    exact ⟨_, _, rfl, hd, (zc.mul zv).mono (by decide), k⟩
theorem ok_over {f : Addr} {fd : FuncData} (F : Fun K "over" "over" s_over f fd) (C_fraction : Cal P w K mg base 1 "fraction" ["a", "b"] spFrac) : FnOk P w K mg base CX0 2 f fd ["f", "g"] (spTwo (fun a _ _ v => a * v) (fun _ c u _ => c * u)) := by
  have sc := sc_over
  refine F.ok sc (fun vs H Q E h => ?_) (fun cdv A outer s H vs Q E hr h => ?_)
  · obtain ⟨p, q, a, c, u, v, rfl, _⟩ := h
    rfl
  · obtain ⟨p, q, a, c, u, v, rfl, hp, hq, za, zc, zu, zv, hd, k⟩ := h
    refine ⟨_, (pss_one (ps_ret (call_ C_fraction (hr.mono (by decide)) (by rfl) (pa_cons (pe_op op_mulW (pe_ix ix_tup (pv 0) pe_int (fun _ _ => rfl)) (pe_ix ix_tup (pv 1) pe_int (fun _ _ => rfl))) (pa_cons (pe_op op_mulW (pe_ix ix_tup (pv 0) pe_int (fun _ _ => rfl)) (pe_ix ix_tup (pv 1) pe_int (fun _ _ => rfl))) pa_nil))))), ?_⟩
    refine ⟨.ref p, rfl, p, _, 0, _, rfl, rfl, SqT.of hp, at0, .ref q, rfl, q, _, 1, _, rfl, rfl, SqT.of hq, at1, a, v, rfl, rfl, za.w zv (by decide), ?_⟩
    refine ⟨.ref p, rfl, p, _, 1, _, rfl, rfl, SqT.of hp, at1, .ref q, rfl, q, _, 0, _, rfl, rfl, SqT.of hq, at0, c, u, rfl, rfl, zc.w zu (by decide), ?_⟩
    exact ⟨_, _, rfl, hd, (zc.mul zu).mono (by decide), k⟩
theorem ok_overX {f fF C : Addr} {fd fdF : FuncData} (F : Fun K "over" "over" s_over f fd) (G : FnOk P w K mg base (L2.CX P w) 1 fF fdF ["a", "b"] (spFracX C)) (gF : mg "fraction" = some (.ref fF)) (kF : PySem.W.keepIn K (.ref fF) = true) (bF : Binds K fdF ["a", "b"] []) :
    FnOk P w K mg base (L2.CX P w) 2 f fd ["f", "g"] (spOverX C) := by
  have sc := sc_over
  refine F.okX sc (fun vs H Q E h => ?_) (fun cdv A outer s H vs Q E hr h => ?_)
  · obtain ⟨p, q, a, c, u, v, rfl, _⟩ := h
    rfl
  · obtain ⟨p, q, a, c, u, v, rfl, hp, hq, za, zc, zu, zv, hE, k⟩ := h
    refine ⟨_, (pss_one (ps_ret (pe_call G (hr.mono (by decide)) (by rfl) gF kF bF .nil (passes_call (takes_of rfl rfl rfl rfl) (fun _ _ _ _ z => z)) (pa_cons (pe_op op_mulW (pe_ix ix_tup (pv 0) pe_int (fun _ _ => rfl)) (pe_ix ix_tup (pv 1) pe_int (fun _ _ => rfl))) (pa_cons (pe_op op_mulW (pe_ix ix_tup (pv 0) pe_int (fun _ _ => rfl)) (pe_ix ix_tup (pv 1) pe_int (fun _ _ => rfl))) pa_nil))))), ?_⟩
    refine ⟨.ref p, rfl, p, _, 0, _, rfl, rfl, SqT.of hp, at0, .ref q, rfl, q, _, 1, _, rfl, rfl, SqT.of hq, at1, a, v, rfl, rfl, za.w zv (by decide), ?_⟩
    refine ⟨.ref p, rfl, p, _, 1, _, rfl, rfl, SqT.of hp, at1, .ref q, rfl, q, _, 0, _, rfl, rfl, SqT.of hq, at0, c, u, rfl, rfl, zc.w zu (by decide), ?_⟩
    exact ⟨_, _, rfl, (zc.mul zu).mono (by decide), hE, k⟩
end
end K08
namespace Vk
open PySem PySem.Spec PyProof.Rows L2
/-- a value of one of seven kinds -/
inductive Oky (H : Hp) : V → String → Prop where
  | non : Oky H .non "NoneType"
  | bl (b : Bool) : Oky H (.bl b) "bool"
  | int (i : Int) : Oky H (.int i) "int"
  | str (x : Str) : Oky H (.str x) "str"
  | lst {a : Addr} {xs : List V} (e : H a = some (.lst xs)) : Oky H (.ref a) "list"
  | tup {a : Addr} {xs : List V} (e : H a = some (.tup xs)) : Oky H (.ref a) "tuple"
  | dK {a : Addr} {kvs : List (Key × V)} (e : H a = some (.dK kvs)) : Oky H (.ref a) "dict"
theorem Oky.ty {K : PySem.W.Frag} {H : Hp} {x : V} {t : String} (h : Oky H x t) : TyX K H x (.type t) := by
  cases h with
  | non => exact .base .non
  | bl b => exact .base (.bl b)
  | int i => exact .base (.int i)
  | str x => exact .base (.str x)
  | lst e => exact .base (.lst e)
  | tup e => exact .base (.tup e)
  | dK e => exact .base (.dK e)
theorem Oky.same {H H' : Hp} {x : V} {t : String} (h : Oky H x t) (s : Same H H') : Oky H' x t := by
  cases h with
  | non => exact .non
  | bl b => exact .bl b
  | int i => exact .int i
  | str x => exact .str x
  | lst e => exact .lst (s _ _ e)
  | tup e => exact .tup (s _ _ e)
  | dK e => exact .dK (s _ _ e)
theorem Oky.kTup {H : Hp} {x : V} {t : String} (h : Oky H x t) : kitB t "tuple" = some (decide (t = "tuple")) := by
  cases h <;> decide +kernel
theorem Oky.kInt {H : Hp} {x : V} {t : String} (h : Oky H x t) : kitB t "int" = some (decide (t = "int" ∨ t = "bool")) := by
  cases h <;> decide +kernel
theorem Oky.kBool {H : Hp} {x : V} {t : String} (h : Oky H x t) : kitB t "bool" = some (decide (t = "bool")) := by
  cases h <;> decide +kernel
def isInt : V → Bool
  | .int _ => true
  | _ => false
theorem Oky.isInt {H : Hp} {x : V} {t : String} (h : Oky H x t) : isInt x = decide (t = "int") := by
  cases h <;> simp [Vk.isInt]
/-- the reading of isinstance(x, T) -/
theorem isi_ {K : PySem.W.Frag} {H : Hp} {x : V} {t T : String} {b : Bool} {Q : VK} (h : Oky H x t) (k : kitB t T = some b) (q : Q (.bl b) H) : rIsi K [x, .ty T] H Q :=
  ⟨x, .ty T, _, _, b, rfl, .ty T, h.ty, kit_ty k, q⟩
end Vk
namespace K08
open PySem PySem.Spec PyProof.Rows L2 Vk
def frV : List V → Bool
  | [.int a, .int b] => decide (0 < b) && decide (Int.gcd a b = 1)
  | _ => false
/-- a value of any kind is judged -/
def spIs : Sp := fun vs H Q _ => ∃ x, vs = [x] ∧ ((∃ t, Oky H x t ∧ t ≠ "tuple" ∧ Q (.bl false) H) ∨ ∃ a xs, x = .ref a ∧ H a = some (.tup xs) ∧ (∀ e ∈ xs, ∃ t, Oky H e t) ∧ Q (.bl (frV xs)) H)
abbrev s_isn : Stmt := topS 6
abbrev s_isf : Stmt := topS 16
theorem sc_isn : FnScope ["value"] ["value"] (defScope s_isn) := ⟨rfl, rfl, rfl, by decide +kernel, rfl, by decide +kernel, by decide +kernel⟩
theorem sc_isf : FnScope ["value", "a", "b"] ["value"] (defScope s_isf) := ⟨rfl, rfl, rfl, by decide +kernel, rfl, by decide +kernel, by decide +kernel⟩
def spIsn : Sp := fun vs H Q _ => ∃ x t, vs = [x] ∧ Oky H x t ∧ Q (.bl (isInt x)) H
section
variable {P : Program} {w : World} {K : PySem.W.Frag} {mg : Str → Option Value} {base : Heap}
theorem ok_isn {f : Addr} {fd : FuncData} (F : Fun K "is_number" "is_number" s_isn f fd) (m_isinstance : mg "isinstance" = none) (m_int : mg "int" = none) (m_bool : mg "bool" = none) : FnOk P w K mg base CX0 1 f fd ["value"] spIsn := by
  have sc := sc_isn
  refine F.ok sc (fun vs H Q E h => ?_) (fun cdv A outer s H vs Q E hr h => ?_)
  · obtain ⟨x, t, rfl, _⟩ := h
    rfl
  · obtain ⟨x, t, rfl, hx, q⟩ := h
    refine ⟨_, (pss_one (ps_ret (pe_and (pe_callB call_isi (by rfl) m_isinstance (by decide +kernel) (pa_cons (pv 0) (pa_cons (pe_bltn (v := .ty "int") (by rfl) m_int (by decide +kernel) rfl) pa_nil))) (pe_one (pe_not (pe_callB call_isi (by rfl) m_isinstance (by decide +kernel) (pa_cons (pv 0) (pa_cons (pe_bltn (v := .ty "bool") (by rfl) m_bool (by decide +kernel) rfl) pa_nil)))))))), ?_⟩
    refine ⟨x, rfl, x, .ty "int", _, _, _, rfl, .ty _, hx.ty, kit_ty hx.kInt, _, rfl, ite2 (fun h => ?_) (fun h => ?_)⟩
    · refine ⟨x, rfl, x, .ty "bool", _, _, _, rfl, .ty _, hx.ty, kit_ty hx.kBool, _, rfl, ?_⟩
      rw [hx.isInt] at q
      have e : decide (t = "int") = !decide (t = "bool") := by
        cases hx <;> revert h <;> decide
      rw [e] at q
      exact q
    · rw [hx.isInt] at q
      have e : decide (t = "int") = false := by
        cases hx <;> revert h <;> decide
      rw [e] at q
      exact q
theorem ok_isf {f : Addr} {fd : FuncData} (F : Fun K "is_fraction" "is_fraction" s_isf f fd) (C_is_number : Cal P w K mg base 1 "is_number" ["value"] spIsn) (m_isinstance : mg "isinstance" = none) (m_tuple : mg "tuple" = none) (m_len : mg "len" = none) (g_gcd : mg "gcd" = some (.builtin "math.gcd")) : FnOk P w K mg base CX0 2 f fd ["value"] spIs := by
  have sc := sc_isf
  refine F.ok sc (fun vs H Q E h => ?_) (fun cdv A outer s H vs Q E hr h => ?_)
  · obtain ⟨x, rfl, _⟩ := h
    rfl
  · obtain ⟨x, rfl, h⟩ := h
    refine ⟨_, (pss_cons (ps_if (PW.pt (pw_or (pt_not (pt_val (pe_callB call_isi (by rfl) m_isinstance (by decide +kernel) (pa_cons (pv 0) (pa_cons (pe_bltn (v := .ty "tuple") (by rfl) m_tuple (by decide +kernel) rfl) pa_nil))))) (pw_or1 (pt_cmpR op_ne (pe_callB call_len_seq (by rfl) m_len (by decide +kernel) (pa_cons (pv 0) pa_nil)) pe_int (nomark _)))))
      (pss_one (ps_ret pe_bl))
      pss_nil)
    (pss_cons (ps_asg (pv 0) (pg_tup (by rfl) (pgs_cons (pg_name (i := 1) sc.nd rfl (Or.inl rfl)) (pgs_cons (pg_name (i := 2) sc.nd rfl (Or.inl rfl)) pgs_nil))))
    (pss_one (ps_ret (pe_and (call_ C_is_number (hr.mono (by decide)) (by rfl) (pa_cons (pv 1) pa_nil)) (pe_and (call_ C_is_number (hr.mono (by decide)) (by rfl) (pa_cons (pv 2) pa_nil)) (pe_and (pe_cmpR op_gt (pv 2) pe_int (nomark _)) (pe_one (pe_cmpR op_eq (pe_callBfun cr_gcd rfl g_gcd (pa_cons (pv 1) (pa_cons (pv 2) pa_nil))) pe_int (nomark _)))))))))), ?_⟩
    rcases h with ⟨t, hx, ht, q⟩ | ⟨a, xs, rfl, ha, hes, q⟩
    · refine ⟨x, rfl, x, .ty "tuple", _, _, _, rfl, .ty _, hx.ty, kit_ty hx.kTup, _, rfl, ?_⟩
      rw [decide_eq_false ht]
      exact iteT (iteT q)
    · have hx : Oky H (.ref a) "tuple" := .tup ha
      refine ⟨.ref a, rfl, .ref a, .ty "tuple", _, _, _, rfl, .ty _, hx.ty, kit_ty hx.kTup, _, rfl, iteF ?_⟩
      refine ⟨.ref a, rfl, a, xs, rfl, .inr (SqT.of ha), rfl, _, rfl, ite2 (fun hl => ?_) (fun hl => ?_)⟩
      · have e : frV xs = false := by
          have n2 : xs.length ≠ 2 := fun z => by
            rw [z] at hl
            exact absurd hl (by decide)
          unfold frV
          split
          · exact absurd rfl n2
          · rfl
        rw [e] at q
        exact q
      · have n2 : xs.length = 2 := by
          by_cases z : (xs.length : Int) = 2
          · omega
          · exact absurd (by rw [decide_eq_false (fun y => z (V.int.inj y))]; rfl) hl
        obtain ⟨x, y, rfl⟩ : ∃ x y, xs = [x, y] := by
          match xs, n2 with
          | [x, y], _ => exact ⟨x, y, rfl⟩
        obtain ⟨tx, ox⟩ := hes x (by simp)
        obtain ⟨ty, oy⟩ := hes y (by simp)
        refine ⟨.ref a, rfl, a, [x, y], rfl, SqT.of ha, rfl, x, [y], rfl, y, [], rfl, rfl, ?_⟩
        refine ⟨x, rfl, x, tx, rfl, ox, _, rfl, ite2 (fun hi => ?_) (fun hi => ?_)⟩
        · refine ⟨y, rfl, y, ty, rfl, oy, _, rfl, ite2 (fun hj => ?_) (fun hj => ?_)⟩
          · cases ox <;> first | exact absurd (show false = true from hi) Bool.false_ne_true | skip
            cases oy <;> first | exact absurd (show false = true from hj) Bool.false_ne_true | skip
            rename_i i j
            refine ⟨.int j, rfl, j, 0, rfl, rfl, _, rfl, ite2 (fun h0 => ?_) (fun h0 => ?_)⟩
            · refine ⟨.int i, rfl, .int j, rfl, i, j, rfl, rfl, ?_⟩
              have e : frV [.int i, .int j] = decide (V.int ((Nat.gcd i.natAbs j.natAbs : Nat) : Int) = V.int 1) := by
                show (decide (0 < j) && decide (Int.gcd i j = 1)) = _
                rw [h0, Bool.true_and]
                by_cases z : Int.gcd i j = 1
                · rw [decide_eq_true z, decide_eq_true]
                  have z' : Nat.gcd i.natAbs j.natAbs = 1 := z
                  rw [z']
                  rfl
                · rw [decide_eq_false z, decide_eq_false]
                  intro y
                  have y' := V.int.inj y
                  exact z (by have : ((Nat.gcd i.natAbs j.natAbs : Nat) : Int) = ((1 : Nat) : Int) := y'; exact Int.ofNat.inj this)
              rw [e] at q
              exact q
            · have e : frV [.int i, .int j] = false := by
                show (decide (0 < j) && decide (Int.gcd i j = 1)) = _
                rw [Bool.eq_false_iff.mpr h0, Bool.false_and]
              rw [e] at q
              exact q
          · have e : frV [x, y] = false := by
              unfold frV
              split
              · rename_i z
                injection z with z1 z2
                injection z2 with z2 _
                subst z2
                exact absurd rfl hj
              · rfl
            rw [e] at q
            exact q
        · have e : frV [x, y] = false := by
            unfold frV
            split
            · rename_i z
              injection z with z1 z2
              subst z1
              exact absurd rfl hi
            · rfl
          rw [e] at q
          exact q
/-! ### the law's own readings of them -/
abbrev s_gcd : Stmt := topS 22
theorem sc_gcd : FnScope ["a", "c"] ["a", "c"] (defScope s_gcd) := ⟨rfl, rfl, rfl, by decide +kernel, rfl, by decide +kernel, by decide +kernel⟩
def spGcd : Sp := fun vs H Q _ => ∃ a c : Int, vs = [.int a, .int c] ∧ Q (.int (Int.gcd a c)) H
theorem ok_gcd {f : Addr} {fd : FuncData} (F : Fun K "_law_gcd" "_law_gcd" s_gcd f fd) (m_abs : mg "abs" = none) (m_int : mg "int" = none) : FnOk P w K mg base CX0 1 f fd ["a", "c"] spGcd := by
  have sc := sc_gcd
  refine F.ok sc (fun vs H Q E h => ?_) (fun cdv A outer s H vs Q E hr h => ?_)
  · obtain ⟨a, c, rfl, _⟩ := h
    rfl
  · obtain ⟨a, c, rfl, q⟩ := h
    refine ⟨_, (pss_cons (ps_par (i := 0) (j := 1) (by rfl) sc.nd rfl rfl (by decide) rfl rfl (pa_cons (pe_callB call_abs (by rfl) m_abs (by decide +kernel) (pa_cons (pv 0) pa_nil)) (pa_cons (pe_callB call_abs (by rfl) m_abs (by decide +kernel) (pa_cons (pv 1) pa_nil)) pa_nil)) (by rfl))
    (pss_cons (ps_while PassesOwn.never (pt_cmpR op_ne (pv 1) pe_int (nomark _))
      (pss_one (ps_par (i := 0) (j := 1) (by rfl) sc.nd rfl rfl (by decide) rfl rfl (pa_cons (pv 1) (pa_cons (pe_op op_modN (pe_callTy call_int1 (by rfl) m_int (by decide +kernel) (pa_cons (pv 0) pa_nil)) (pv 1)) pa_nil)) (by rfl))))
    (pss_one (ps_ret (pv 0))))), ?_⟩
    have ab : ∀ x : Int, (if x < 0 then -x else x) = (x.natAbs : Int) := fun x => by split <;> omega
    refine ⟨.int a, rfl, a, rfl, .int c, rfl, c, rfl, _, _, rfl, ?_⟩
    rw [ab a, ab c]
    refine while_by (fun σ H' => ∃ x y : Nat, σ = [some (.int x), some (.int y)] ∧ H' = H ∧ Nat.gcd x y = Int.gcd a c) (fun σ _ => match σ with | [_, some (.int y)] => y.toNat | _ => 0) ⟨_, _, rfl, rfl, rfl⟩ ?_ (fun σ H Q Q' hq ⟨v, e1, e2, k, e3, q⟩ => ⟨v, e1, e2, k, e3, hq _ _ q⟩)
    rintro σ H' ⟨x, y, rfl, rfl, hg⟩
    refine ⟨.int y, rfl, rfl, _, rfl, ite2 (fun h => ?_) (fun h => ?_)⟩
    · have hy : y ≠ 0 := fun z => by
        rw [z] at h
        exact absurd h (by decide)
      refine ⟨.int y, rfl, .int x, rfl, .inl ⟨x, rfl, .int y, rfl, x, y, rfl, rfl, by omega, _, _, rfl, ?_⟩⟩
      have e : Int.fmod (x : Int) (y : Int) = ((x % y : Nat) : Int) := by
        rw [Int.fmod_eq_emod_of_nonneg _ (by omega), Int.natCast_emod]
      have e2 : ([some (V.int y), some (V.int (Int.fmod (x : Int) (y : Int)))] : List (Option V)) = [some (V.int y), some (V.int ((x % y : Nat) : Int))] := by rw [e]
      refine ⟨⟨y, x % y, e2, rfl, ?_⟩, ?_⟩
      · rw [← hg, Nat.gcd_comm x y, Nat.gcd_rec y x, Nat.gcd_comm]
      · show (Int.fmod (x : Int) (y : Int)).toNat < (y : Int).toNat
        rw [e, Int.toNat_natCast, Int.toNat_natCast]
        exact Nat.mod_lt _ (by omega)
    · have hy : y = 0 := by
        by_cases z : (y : Int) = 0
        · omega
        · exact absurd (by rw [decide_eq_false (fun w => z (V.int.inj w))]; rfl) h
      subst hy
      refine ⟨.int x, rfl, ?_⟩
      rw [← hg, Nat.gcd_zero_right] at q
      exact q
end
end K08
/-! Data that is shown by a short text. -/
namespace Vk
open PySem PySem.Spec PyProof.Rows L2
/-- levels at most k, items at most n, each int of few bits -/
structure FitN (k n : Nat) (d : PyData) : Prop where
  s : d.showable = true
  h : d.hasDict = false
  dp : d.depth ≤ k
  l : d.leavesShort 2000 = true
  b : d.bulk ≤ n
structure FitLN (k n : Nat) (ds : List PyData) : Prop where
  s : PyData.showableAll ds = true
  h : PyData.hasDictAll ds = false
  dp : PyData.depthAll ds ≤ k
  l : PyData.leavesShortAll 2000 ds = true
  b : PyData.bulkAll ds ≤ n
theorem FitLN.nil {k n : Nat} : FitLN k n [] := ⟨by simp [PyData.showableAll], by simp [PyData.hasDictAll], by simp [PyData.depthAll], by simp [PyData.leavesShortAll], by simp [PyData.bulkAll]⟩
theorem FitLN.cons {k a b n : Nat} {d : PyData} {ds : List PyData} (x : FitN k a d) (y : FitLN k b ds) (hn : a + 1 + b ≤ n) : FitLN k n (d :: ds) :=
  ⟨by simp [PyData.showableAll, x.s, y.s], by simp [PyData.hasDictAll, x.h, y.h], by have := x.dp; have := y.dp; simp only [PyData.depthAll]; omega, by simp [PyData.leavesShortAll, x.l, y.l], by have := x.b; have := y.b; simp only [PyData.bulkAll]; omega⟩
theorem FitN.list {k n : Nat} {ds : List PyData} (y : FitLN k n ds) : FitN (k + 1) n (.list ds) :=
  ⟨by simp [PyData.showable, y.s], by simp [PyData.hasDict, y.h], by have := y.dp; simp only [PyData.depth]; omega, by simp [PyData.leavesShort, y.l], by have := y.b; simp only [PyData.bulk]; omega⟩
theorem FitN.tup {k n : Nat} {ds : List PyData} (y : FitLN k n ds) : FitN (k + 1) n (.tuple ds) :=
  ⟨by simp [PyData.showable, y.s], by simp [PyData.hasDict, y.h], by have := y.dp; simp only [PyData.depth]; omega, by simp [PyData.leavesShort, y.l], by have := y.b; simp only [PyData.bulk]; omega⟩
theorem FitN.non {k n : Nat} : FitN k n .none := ⟨by simp [PyData.showable], by simp [PyData.hasDict], by simp [PyData.depth], by simp [PyData.leavesShort], by simp [PyData.bulk]⟩
theorem FitN.bl {k n : Nat} (b : Bool) : FitN k n (.bool b) := ⟨by simp [PyData.showable], by simp [PyData.hasDict], by simp [PyData.depth], by simp [PyData.leavesShort], by simp [PyData.bulk]⟩
theorem FitN.int {k n : Nat} {i : Int} (hi : i.natAbs < 2 ^ 1900) : FitN k n (.int i) := by
  have lg : i.natAbs.log2 < 1900 := PySem.Flt.log2_lt_of (by decide) hi
  refine ⟨by simp only [PyData.showable, decide_eq_true_eq]; omega, by simp [PyData.hasDict], by simp [PyData.depth], ?_, by simp [PyData.bulk]⟩
  have h1 := int_text_length_le (by decide) lg
  have h2 : (PyData.shown (.int i)).length = (Str.ofString (toString i)).length := by simp only [PyData.shown]
  rw [PySem.ofString_length] at h2
  have h3 : (PyData.shown (.int i)).length ≤ 2000 := by omega
  simpa only [PyData.leavesShort, decide_eq_true_eq] using h3
theorem FitN.str {k n : Nat} (x : Str) (h : (x.cps.toList.all fun c => decide (c < 16 ^ 8)) = true) (hn : x.cps.size ≤ n) : FitN k n (.str x) :=
  ⟨by simp [PyData.showable], by simp [PyData.hasDict], by simp [PyData.depth], by simpa only [PyData.leavesShort] using h, by simp only [PyData.bulk]; omega⟩
theorem FitN.mono {k n k' n' : Nat} {d : PyData} (x : FitN k n d) (h1 : k ≤ k') (h2 : n ≤ n') : FitN k' n' d := ⟨x.s, x.h, Nat.le_trans x.dp h1, x.l, Nat.le_trans x.b h2⟩
/-- the text is not too long -/
theorem FitN.len {k n : Nat} {d : PyData} (x : FitN k n d) (hn : n ≤ 8000) : d.shown.length ≤ sizeLine := by
  have h := PyData.shown_le_bulk 2000 (by decide) d x.l
  have h2 : (2000 + 2) * d.bulk ≤ 2002 * 8000 := Nat.mul_le_mul_left _ (Nat.le_trans x.b hn)
  rw [sizeLine_eq]
  omega
/-- the text of a short value -/
def Fit (d : PyData) : Prop := FitN 60 8000 d
theorem rep_ {K : PySem.W.Frag} {H : Hp} {x : V} {d : PyData} {Q : VK} (hD : Dp K H x d) (f : Fit d) (q : Q (.str d.shown) H) : rRep K [x] H Q := ⟨x, d, rfl, hD, f.s, f.h, f.dp, f.len (Nat.le_refl _), q⟩
end Vk
namespace Vk
open PySem PySem.Spec PyProof.Rows L2
/-- both ways of an if lead to what follows -/
theorem tifs_both {c : Bool} {t u : TS} {D : Ends} {σ : L2.St} {H : Hp} (Good : L2.St → Hp → Prop) (hQ : ∀ σ' H', Good σ' H' → D.nx σ' H') (ht : c = true → (∀ σ' H', Good σ' H' → D.nx σ' H') → t D σ H)
    (hu : c = false → (∀ σ' H', Good σ' H' → D.nx σ' H') → u D σ H) : if c = true then t D σ H else u D σ H := by
  cases c with
  | true => exact iteT (ht rfl hQ)
  | false => exact iteF (hu rfl hQ)
theorem SameBut.free {m p : Addr} {H H' : Hp} (s : SameBut m H H') (hm : ∃ o, H' m = some o) (h : H' p = none) : H p = none := by
  cases q : H p with
  | none => rfl
  | some o =>
    by_cases e : p = m
    · subst e
      obtain ⟨o', z⟩ := hm
      rw [h] at z
      cases z
    · have z := s p o e q
      rw [h] at z
      cases z
end Vk
namespace Vk
open PySem PySem.Spec PyProof.Rows L2
/-- both ways of a conditional expression lead to what follows, where they make things -/
theorem tif_bothH {c : Bool} {ta tb : TE} {σ : L2.St} {H : Hp} {Q : VK} (Good : V → Hp → Prop) (hQ : ∀ v H', Good v H' → Q v H') (ha : c = true → (∀ v H', Good v H' → Q v H') → ta σ H Q) (hb : c = false → (∀ v H', Good v H' → Q v H') → tb σ H Q) :
    if c = true then ta σ H Q else tb σ H Q := by
  cases c with
  | true => exact iteT (ha rfl hQ)
  | false => exact iteF (hb rfl hQ)
end Vk
namespace K08
open PySem PySem.Spec PyProof.Rows L2 Vk
theorem MOk.there {H : Hp} {m r : Addr} {n : Nat} (h : MOk H m r n) : ∃ o, H m = some o := by
  obtain ⟨L, sd, sp, cells, h1, _⟩ := h
  exact ⟨_, h1⟩
theorem MOk.mono {H : Hp} {m r : Addr} {n n' : Nat} (h : MOk H m r n) (l : n ≤ n') : MOk H m r n' := by
  obtain ⟨L, sd, sp, cells, h1, h2, h3, h4, h5⟩ := h
  exact ⟨L, sd, sp, cells, h1, h2, h3, h4, by omega⟩
/-- what is no dict stays -/
theorem MOk.ne {H : Hp} {m r p : Addr} {n : Nat} {xs : List V} (h : MOk H m r n) (e : H p = some (.tup xs)) : p ≠ m := by
  obtain ⟨L, sd, sp, cells, h1, _⟩ := h
  exact ne_of e h1 (by intro z; cases z)
abbrev s_like : Stmt := topS 21
abbrev s_lowest : Stmt := topS 25
abbrev s_signed : Stmt := topS 23
abbrev s_pair : Stmt := topS 26
abbrev s_is : Stmt := topS 27
abbrev s_sign : Stmt := topS 13
abbrev s_compare : Stmt := topS 14
abbrev s_floor : Stmt := topS 15
theorem sc_like : FnScope ["got", "due"] ["got", "due"] (defScope s_like) := ⟨rfl, rfl, rfl, by decide +kernel, rfl, by decide +kernel, by decide +kernel⟩
theorem sc_lowest : FnScope ["a", "c", "part"] ["a", "c"] (defScope s_lowest) := ⟨rfl, rfl, rfl, by decide +kernel, rfl, by decide +kernel, by decide +kernel⟩
theorem sc_signed : FnScope ["m", "most", "number"] ["m", "most"] (defScope s_signed) := ⟨rfl, rfl, rfl, by decide +kernel, rfl, by decide +kernel, by decide +kernel⟩
theorem sc_pair : FnScope ["m", "word", "most", "a", "c", "many"] ["m"] (defScope s_pair) := ⟨rfl, rfl, rfl, by decide +kernel, rfl, by decide +kernel, by decide +kernel⟩
theorem sc_is : FnScope ["value_so", "one"] ["value_so"] (defScope s_is) := ⟨rfl, rfl, rfl, by decide +kernel, rfl, by decide +kernel, by decide +kernel⟩
theorem sc_sign : FnScope ["number"] ["number"] (defScope s_sign) := ⟨rfl, rfl, rfl, by decide +kernel, rfl, by decide +kernel, by decide +kernel⟩
theorem sc_compare : FnScope ["f", "g"] ["f", "g"] (defScope s_compare) := ⟨rfl, rfl, rfl, by decide +kernel, rfl, by decide +kernel, by decide +kernel⟩
theorem sc_floor : FnScope ["f"] ["f"] (defScope s_floor) := ⟨rfl, rfl, rfl, by decide +kernel, rfl, by decide +kernel, by decide +kernel⟩
/-- two values of the same data -/
def spLike (K : PySem.W.Frag) : Sp := fun vs H Q _ => ∃ x y d, vs = [x, y] ∧ Dp K H x d ∧ Dp K H y d ∧ Fit d ∧ Q (.bl true) H
def spSigned : Sp := fun vs H Q _ => ∃ (m r : Addr) (n : Nat) (b : Int), vs = [.ref m, .int b] ∧ MOk H m r n ∧ n ≤ 90000 ∧ 0 ≤ b ∧ b < 1000000000 ∧
  ∀ H' v, SameBut m H H' → MOk H' m r (n + 2) → -b ≤ v → v ≤ b → Q (.int v) H'
def spPair : Sp := fun vs H Q _ => ∃ (m r : Addr) (n : Nat), vs = [.ref m] ∧ MOk H m r n ∧ n ≤ 80000 ∧
  ∀ H' p a c, SameBut m H H' → H p = none → Pr H' p (a, c) → MOk H' m r (n + 10) → c ≠ 0 → Sm 300 a → Sm 300 c → Q (.ref p) H'
def sg (n : Int) : Int := (if 0 < n then 1 else 0) - (if n < 0 then 1 else 0)
def spSign : Sp := fun vs H Q _ => ∃ n : Int, vs = [.int n] ∧ Q (.int (sg n)) H
def spCompare : Sp := fun vs H Q _ => ∃ (p q : Addr) (a c u v : Int), vs = [.ref p, .ref q] ∧ Pr H p (a, c) ∧ Pr H q (u, v) ∧ Sm 1000 a ∧ Sm 1000 c ∧ Sm 1000 u ∧ Sm 1000 v ∧ Q (.int (sg (a * v - u * c))) H
def spFloor : Sp := fun vs H Q _ => ∃ (p : Addr) (a c : Int), vs = [.ref p] ∧ Pr H p (a, c) ∧ c ≠ 0 ∧ Sm 1000 c ∧ Q (.int (a.fdiv c)) H
section
variable {P : Program} {w : World} {K : PySem.W.Frag} {mg : Str → Option Value} {base : Heap}
theorem ok_like {f : Addr} {fd : FuncData} (F : Fun K "_law_like" "_law_like" s_like f fd) (m_repr : mg "repr" = none) : FnG P w K mg base 1 f fd ["got", "due"] (spLike K) := by
  have sc := sc_like
  refine okG F sc (fun vs H Q E h => ?_) (fun cdv A outer s H vs Q E hG hr h => ?_)
  · obtain ⟨x, y, d, rfl, _⟩ := h
    rfl
  · obtain ⟨x, y, d, rfl, h1, h2, hf, q⟩ := h
    have hG' : Quiet (cxOf CX0 P w K mg base ["got", "due"] "_law_like" (defScope s_like) f cdv A outer s H E).nox.A := hG.deeper _
    refine ⟨_, (pss_one (ps_ret (pe_cmpR op_eq (pe_callB (call_rep hG' hr.units) (by rfl) m_repr (by decide +kernel) (pa_cons (pv 0) pa_nil)) (pe_callB (call_rep hG' hr.units) (by rfl) m_repr (by decide +kernel) (pa_cons (pv 1) pa_nil)) (nomark _)))), ?_⟩
    refine ⟨x, rfl, x, d, rfl, h1, hf.s, hf.h, hf.dp, hf.len (Nat.le_refl _), y, rfl, y, d, rfl, h2, hf.s, hf.h, hf.dp, hf.len (Nat.le_refl _), rfl, ?_⟩
    rw [decide_eq_true rfl]
    exact q
theorem ok_lowest {f : Addr} {fd : FuncData} (F : Fun K "_law_lowest" "_law_lowest" s_lowest f fd) (C__law_gcd : Cal P w K mg base 1 "_law_gcd" ["a", "c"] spGcd) : FnOk P w K mg base CX0 2 f fd ["a", "c"] spFrac := by
  have sc := sc_lowest
  refine F.ok sc (fun vs H Q E h => ?_) (fun cdv A outer s H vs Q E hr h => ?_)
  · obtain ⟨a, b, rfl, _⟩ := h
    rfl
  · obtain ⟨a, b, rfl, hb, hz, q⟩ := h
    refine ⟨_, (pss_cons (ps_set (i := 2) sc.nd rfl (Or.inl rfl) (pe_ifExp (pt_cmpR op_gt (pv 1) pe_int (nomark _)) (call_ C__law_gcd (hr.mono (by decide)) (by rfl) (pa_cons (pv 0) (pa_cons (pv 1) pa_nil))) (pe_un un_neg (call_ C__law_gcd (hr.mono (by decide)) (by rfl) (pa_cons (pv 0) (pa_cons (pv 1) pa_nil))))))
    (pss_one (ps_ret (pe_tup (pa_cons (pe_op op_fdivX (pv 0) (pv 2)) (pa_cons (pe_op op_fdivX (pv 1) (pv 2)) pa_nil)))))), ?_⟩
    have c1 := prt_ne (a := a) hb
    have c2 : (prt a b).natAbs.log2 < 9000 := Nat.lt_trans (prt_lt hb hz (by decide)) (by decide)
    refine ⟨.int b, rfl, b, 0, rfl, rfl, _, rfl, tif_both (fun v => v = .int (prt a b)) ?_ ?_ ?_⟩
    · rintro _ rfl
      refine ⟨.int a, rfl, .int (prt a b), rfl, a, _, rfl, rfl, ⟨c1, c2⟩, .int b, rfl, .int (prt a b), rfl, b, _, rfl, rfl, ⟨c1, c2⟩, by show 2 ≤ sizeLine; decide, fun p np => ?_⟩
      exact q _ p (same_new np) np upd_same
    · intro c hQ
      refine ⟨.int a, rfl, .int b, rfl, a, b, rfl, hQ _ ?_⟩
      unfold prt
      rw [if_pos (of_decide_eq_true c)]
    · intro c hQ
      refine ⟨.int a, rfl, .int b, rfl, a, b, rfl, _, rfl, hQ _ ?_⟩
      unfold prt
      rw [if_neg (of_decide_eq_false c)]
theorem ok_signed {f : Addr} {fd : FuncData} (F : Fun K "_law_signed" "_law_signed" s_signed f fd) (C__law_draw : Cal P w K mg base 1 "_law_draw" ["m", "bound"] spDraw) : FnOk P w K mg base CX0 2 f fd ["m", "most"] spSigned := by
  have sc := sc_signed
  refine F.ok sc (fun vs H Q E h => ?_) (fun cdv A outer s H vs Q E hr h => ?_)
  · obtain ⟨m, r, n, b, rfl, _⟩ := h
    rfl
  · obtain ⟨m, r, n, b, rfl, hM, hn, h0, h1, q⟩ := h
    refine ⟨_, (pss_cons (ps_set (i := 2) sc.nd rfl (Or.inl rfl) (call_ C__law_draw (hr.mono (by decide)) (by rfl) (pa_cons (pv 0) (pa_cons (pe_op op_add (pv 1) pe_int) pa_nil))))
    (pss_one (ps_ret (pe_ifExp (pt_cmpR op_eq (call_ C__law_draw (hr.mono (by decide)) (by rfl) (pa_cons (pv 0) (pa_cons pe_int pa_nil))) pe_int (nomark _)) (pv 2) (pe_un un_neg (pv 2)))))), ?_⟩
    refine ⟨.ref m, rfl, .int b, rfl, b, 1, rfl, rfl, m, r, n, b + 1, rfl, hM, by omega, by omega, by omega, fun H1 v s1 M1 v0 v1 => ?_⟩
    refine ⟨.ref m, rfl, m, r, n + 1, 2, rfl, M1, by omega, by omega, by omega, fun H2 z s2 M2 z0 z1 => ?_⟩
    have s3 := s1.trans s2
    refine ⟨rfl, _, rfl, tif_both (fun x => ∃ y : Int, x = .int y ∧ -b ≤ y ∧ y ≤ b) ?_ ?_ ?_⟩
    · rintro _ ⟨y, rfl, y0, y1⟩
      exact q H2 y s3 M2 y0 y1
    · intro _ hQ
      exact ⟨.int v, rfl, hQ _ ⟨v, rfl, by omega, by omega⟩⟩
    · intro _ hQ
      exact ⟨.int v, rfl, v, rfl, hQ _ ⟨-v, rfl, by omega, by omega⟩⟩
theorem ok_sign {f : Addr} {fd : FuncData} (F : Fun K "sign_of" "sign_of" s_sign f fd) (m_int : mg "int" = none) : FnOk P w K mg base CX0 1 f fd ["number"] spSign := by
  have sc := sc_sign
  refine F.ok sc (fun vs H Q E h => ?_) (fun cdv A outer s H vs Q E hr h => ?_)
  · obtain ⟨n, rfl, _⟩ := h
    rfl
  · obtain ⟨n, rfl, q⟩ := h
    refine ⟨_, (pss_one (ps_ret (pe_op op_sub (pe_callTy call_int1 (by rfl) m_int (by decide +kernel) (pa_cons (pe_cmpR op_gt (pv 0) pe_int (nomark _)) pa_nil)) (pe_callTy call_int1 (by rfl) m_int (by decide +kernel) (pa_cons (pe_cmpR op_lt (pv 0) pe_int (nomark _)) pa_nil))))), ?_⟩
    refine ⟨.int n, rfl, n, 0, rfl, rfl, .inr ⟨_, rfl, .int n, rfl, n, 0, rfl, rfl, .inr ⟨_, rfl, _, _, rfl, rfl, ?_⟩⟩⟩
    have e : sg n = (if decide (0 < n) = true then 1 else 0) - (if decide (n < 0) = true then 1 else 0) := by
      unfold sg
      simp only [decide_eq_true_eq]
    rw [e] at q
    exact q
theorem ok_compare {f : Addr} {fd : FuncData} (F : Fun K "compare" "compare" s_compare f fd) (C_sign_of : Cal P w K mg base 1 "sign_of" ["number"] spSign) : FnOk P w K mg base CX0 2 f fd ["f", "g"] spCompare := by
  have sc := sc_compare
  refine F.ok sc (fun vs H Q E h => ?_) (fun cdv A outer s H vs Q E hr h => ?_)
  · obtain ⟨p, q, a, c, u, v, rfl, _⟩ := h
    rfl
  · obtain ⟨p, q, a, c, u, v, rfl, hp, hq, za, zc, zu, zv, k⟩ := h
    refine ⟨_, (pss_one (ps_ret (call_ C_sign_of (hr.mono (by decide)) (by rfl) (pa_cons (pe_op op_sub (pe_op op_mulW (pe_ix ix_tup (pv 0) pe_int (fun _ _ => rfl)) (pe_ix ix_tup (pv 1) pe_int (fun _ _ => rfl))) (pe_op op_mulW (pe_ix ix_tup (pv 1) pe_int (fun _ _ => rfl)) (pe_ix ix_tup (pv 0) pe_int (fun _ _ => rfl)))) pa_nil)))), ?_⟩
    refine ⟨.ref p, rfl, p, _, 0, _, rfl, rfl, SqT.of hp, at0, .ref q, rfl, q, _, 1, _, rfl, rfl, SqT.of hq, at1, a, v, rfl, rfl, za.w zv (by decide), ?_⟩
    refine ⟨.ref q, rfl, q, _, 0, _, rfl, rfl, SqT.of hq, at0, .ref p, rfl, p, _, 1, _, rfl, rfl, SqT.of hp, at1, u, c, rfl, rfl, zu.w zc (by decide), _, _, rfl, rfl, ?_⟩
    exact ⟨_, rfl, k⟩
theorem ok_floor {f : Addr} {fd : FuncData} (F : Fun K "floor_of" "floor_of" s_floor f fd) : FnOk P w K mg base CX0 1 f fd ["f"] spFloor := by
  have sc := sc_floor
  refine F.ok sc (fun vs H Q E h => ?_) (fun cdv A outer s H vs Q E hr h => ?_)
  · obtain ⟨p, a, c, rfl, _⟩ := h
    rfl
  · obtain ⟨p, a, c, rfl, hp, hc, zc, k⟩ := h
    refine ⟨_, (pss_one (ps_ret (pe_op op_fdivX (pe_ix ix_tup (pv 0) pe_int (fun _ _ => rfl)) (pe_ix ix_tup (pv 0) pe_int (fun _ _ => rfl))))), ?_⟩
    refine ⟨.ref p, rfl, p, _, 0, _, rfl, rfl, SqT.of hp, at0, .ref p, rfl, p, _, 1, _, rfl, rfl, SqT.of hp, at1, a, c, rfl, rfl, ⟨hc, ?_⟩, k⟩
    exact Nat.lt_trans (PySem.Flt.log2_lt_of (by decide) zc) (by decide)
end
end K08
namespace K08
open PySem PySem.Spec PyProof.Rows L2 Vk
theorem Sm.of {x : Int} {n : Nat} {b : Int} (h0 : -b ≤ x) (h1 : x ≤ b) (h : b < 2 ^ n) : Sm n x := by
  unfold Sm
  have e : ((2 ^ n : Nat) : Int) = 2 ^ n := by simp
  omega
section
variable {P : Program} {w : World} {K : PySem.W.Frag} {mg : Str → Option Value} {base : Heap}
theorem ok_pair {f : Addr} {fd : FuncData} (F : Fun K "_law_drawn_pair" "_law_drawn_pair" s_pair f fd) (C__law_draw : Cal P w K mg base 1 "_law_draw" ["m", "bound"] spDraw) (C__law_signed : Cal P w K mg base 2 "_law_signed" ["m", "most"] spSigned) : FnOk P w K mg base CX0 3 f fd ["m"] spPair := by
  have sc := sc_pair
  refine F.ok sc (fun vs H Q E h => ?_) (fun cdv A outer s H vs Q E hr h => ?_)
  · obtain ⟨m, r, n, rfl, _⟩ := h
    rfl
  · obtain ⟨m, r, n, rfl, hM, hn, q⟩ := h
    refine ⟨_, (pss_cons (ps_set (i := 1) sc.nd rfl (Or.inl rfl) (call_ C__law_draw (hr.mono (by decide)) (by rfl) (pa_cons (pv 0) (pa_cons pe_int pa_nil))))
    (pss_cons (ps_set (i := 2) sc.nd rfl (Or.inl rfl) (pe_ifExp (pt_cmpR op_lt (pv 1) pe_int (nomark _)) pe_int pe_int))
    (pss_cons (ps_par (i := 3) (j := 4) (by rfl) sc.nd rfl rfl (by decide) rfl rfl (pa_cons (call_ C__law_signed (hr.mono (by decide)) (by rfl) (pa_cons (pv 0) (pa_cons (pv 2) pa_nil))) (pa_cons (call_ C__law_signed (hr.mono (by decide)) (by rfl) (pa_cons (pv 0) (pa_cons (pv 2) pa_nil))) pa_nil)) (by rfl))
    (pss_cons (ps_if (pt_cmpR op_eq (pv 1) pe_int (nomark _))
      (pss_one (ps_par (i := 3) (j := 4) (by rfl) sc.nd rfl rfl (by decide) rfl rfl (pa_cons (pe_op op_add (pe_op op_mul (pv 3) (pe_op op_pow pe_int pe_int)) (call_ C__law_draw (hr.mono (by decide)) (by rfl) (pa_cons (pv 0) (pa_cons (pe_op op_pow pe_int pe_int) pa_nil)))) (pa_cons (pe_op op_add (pe_op op_mul (pv 4) (pe_op op_pow pe_int pe_int)) (call_ C__law_draw (hr.mono (by decide)) (by rfl) (pa_cons (pv 0) (pa_cons (pe_op op_pow pe_int pe_int) pa_nil)))) pa_nil)) (by rfl)))
      pss_nil)
    (pss_cons (ps_set (i := 5) sc.nd rfl (Or.inl rfl) (pe_op op_add pe_int (call_ C__law_draw (hr.mono (by decide)) (by rfl) (pa_cons (pv 0) (pa_cons pe_int pa_nil)))))
    (pss_one (ps_ret (pe_tup (pa_cons (pe_op op_mul (pv 3) (pv 5)) (pa_cons (pe_op op_mul (pe_ifExp (pt_cmpR op_ne (pv 4) pe_int (nomark _)) (pv 4) pe_int) (pv 5)) pa_nil)))))))))), ?_⟩
    refine ⟨.ref m, rfl, m, r, n, 5, rfl, hM, by omega, by omega, by omega, fun H1 wd s1 M1 w0 w1 => ?_⟩
    refine ⟨.int wd, rfl, wd, 3, rfl, rfl, _, rfl, tif_both (fun v => ∃ b : Int, v = .int b ∧ 0 ≤ b ∧ b ≤ 1000) ?_ (fun _ hQ => hQ _ ⟨1000, rfl, by decide, by decide⟩) (fun _ hQ => hQ _ ⟨12, rfl, by decide, by decide⟩)⟩
    rintro _ ⟨b, rfl, b0, b1⟩
    refine ⟨.ref m, rfl, .int b, rfl, m, r, n + 1, b, rfl, M1, by omega, b0, by omega, fun H2 a s2 M2 a0 a1 => ?_⟩
    refine ⟨.ref m, rfl, .int b, rfl, m, r, n + 1 + 2, b, rfl, M2, by omega, b0, by omega, fun H3 c s3 M3 c0 c1 => ?_⟩
    have s03 := (s1.trans s2).trans s3
    refine ⟨.int a, .int c, rfl, .int wd, rfl, rfl, _, rfl, tifs_both (fun σ H' => ∃ (a c : Int), σ = [some (.ref m), some (.int wd), some (.int b), some (.int a), some (.int c), none] ∧ SameBut m H H' ∧ MOk H' m r (n + 7) ∧ Sm 200 a ∧ Sm 200 c) ?_ ?_ ?_⟩
    · rintro σ H5 ⟨a, c, rfl, s5, M5, za, zc⟩
      refine ⟨.ref m, rfl, m, r, n + 7, 60, rfl, M5, by omega, by decide, by decide, fun H6 k s6 M6 k0 k1 => ?_⟩
      refine ⟨1, k, rfl, rfl, .int a, rfl, .int (1 + k), rfl, a, 1 + k, rfl, rfl, .inr ⟨by omega, by omega⟩, .int c, rfl, rfl, _, rfl, tif_both (fun v => ∃ c' : Int, v = .int c' ∧ c' ≠ 0 ∧ Sm 200 c') ?_ ?_ ?_⟩
      · rintro _ ⟨c', rfl, cn, zc'⟩
        have hk : Sm 20 (1 + k) := Sm.of (b := 100) (by omega) (by omega) (by decide)
        refine ⟨.int (1 + k), rfl, c', 1 + k, rfl, rfl, .inr ⟨by omega, by omega⟩, by show 2 ≤ sizeLine; decide, fun p np => ?_⟩
        have hM6 := M6.there
        have hp : H p = none := (s5.trans s6).free hM6 np
        refine q _ p _ _ ((s5.trans s6).trans (SameBut.of (same_new np))) hp upd_same ((M6.same (same_new np)).mono (by omega)) ?_ ((za.mul hk).mono (by decide)) ((zc'.mul hk).mono (by decide))
        exact Int.mul_ne_zero cn (by omega)
      · intro hc hQ
        refine ⟨.int c, rfl, hQ _ ⟨c, rfl, fun z => ?_, zc⟩⟩
        rw [z] at hc
        exact absurd hc (by decide)
      · intro hc hQ
        exact hQ _ ⟨1, rfl, by decide, Sm.of (b := 1) (by decide) (by decide) (by decide)⟩
    · intro _ hQ
      have e50 : (10 : Int) ^ (50 : Int).toNat = 100000000000000000000000000000000000000000000000000 := by decide
      have e30 : (10 : Int) ^ (30 : Int).toNat = 1000000000000000000000000000000 := by decide
      have e9 : (10 : Int) ^ (9 : Int).toNat = 1000000000 := by decide
      refine ⟨.int a, rfl, 10, 50, rfl, rfl, ⟨by decide, by decide, by decide⟩, a, _, rfl, rfl, .inl ⟨by omega, by omega⟩, .ref m, rfl, 10, 9, rfl, rfl, ⟨by decide, by decide, by decide⟩, m, r, n + 5, 1000000000, by dsimp only; rw [e9], M3, by omega, by decide, by decide, fun H4 x s4 M4 x0 x1 => ?_⟩
      refine ⟨_, x, rfl, rfl, .int c, rfl, 10, 30, rfl, rfl, ⟨by decide, by decide, by decide⟩, c, _, rfl, rfl, .inl ⟨by omega, by omega⟩, .ref m, rfl, 10, 9, rfl, rfl, ⟨by decide, by decide, by decide⟩, m, r, n + 6, 1000000000, by dsimp only; rw [e9], M4, by omega, by decide, by decide, fun H5 y s5 M5 y0 y1 => ?_⟩
      refine ⟨_, y, rfl, rfl, _, _, rfl, hQ _ _ ⟨a * 10 ^ (50 : Int).toNat + x, c * 10 ^ (30 : Int).toNat + y, rfl, (s03.trans s4).trans s5, M5, ?_, ?_⟩⟩
      · rw [e50]
        exact Sm.of (b := 1000000000000000000000000000000000000000000000000000000) (by omega) (by omega) (by decide)
      · rw [e30]
        exact Sm.of (b := 1000000000000000000000000000000000000000000000000000000) (by omega) (by omega) (by decide)
    · intro _ hQ
      exact hQ _ _ ⟨a, c, rfl, s03, M3.mono (by omega), Sm.of (b := 1000) (by omega) (by omega) (by decide), Sm.of (b := 1000) (by omega) (by omega) (by decide)⟩
theorem ok_is {f : Addr} {fd : FuncData} (F : Fun K "_law_is" "_law_is" s_is f fd) (C__law_gcd : Cal P w K mg base 1 "_law_gcd" ["a", "c"] spGcd) (m_isinstance : mg "isinstance" = none) (m_tuple : mg "tuple" = none) (m_len : mg "len" = none) (m_int : mg "int" = none) (m_bool : mg "bool" = none) : FnOk P w K mg base CX0 2 f fd ["value_so"] spIs := by
  have sc := sc_is
  refine F.ok sc (fun vs H Q E h => ?_) (fun cdv A outer s H vs Q E hr h => ?_)
  · obtain ⟨x, rfl, _⟩ := h
    rfl
  · obtain ⟨x, rfl, h⟩ := h
    refine ⟨_, (pss_cons (ps_if (PW.pt (pw_or (pt_not (pt_val (pe_callB call_isi (by rfl) m_isinstance (by decide +kernel) (pa_cons (pv 0) (pa_cons (pe_bltn (v := .ty "tuple") (by rfl) m_tuple (by decide +kernel) rfl) pa_nil))))) (pw_or1 (pt_cmpR op_ne (pe_callB call_len_seq (by rfl) m_len (by decide +kernel) (pa_cons (pv 0) pa_nil)) pe_int (nomark _)))))
      (pss_one (ps_ret pe_bl))
      pss_nil)
    (pss_cons (ps_for PassesOwn.never rfl (pi_tup (pv 0)) (pg_name (i := 1) sc.nd rfl (Or.inl rfl))
      (pss_one (ps_if (PW.pt (pw_or (pt_not (pt_val (pe_callB call_isi (by rfl) m_isinstance (by decide +kernel) (pa_cons (pv 1) (pa_cons (pe_bltn (v := .ty "int") (by rfl) m_int (by decide +kernel) rfl) pa_nil))))) (pw_or1 (pt_val (pe_callB call_isi (by rfl) m_isinstance (by decide +kernel) (pa_cons (pv 1) (pa_cons (pe_bltn (v := .ty "bool") (by rfl) m_bool (by decide +kernel) rfl) pa_nil)))))))
      (pss_one (ps_ret pe_bl))
      pss_nil)))
    (pss_one (ps_ret (pe_and (pe_cmpR op_ge (pe_ix ix_tup (pv 0) pe_int (fun _ _ => rfl)) pe_int (nomark _)) (pe_one (pe_cmpR op_eq (call_ C__law_gcd (hr.mono (by decide)) (by rfl) (pa_cons (pe_ix ix_tup (pv 0) pe_int (fun _ _ => rfl)) (pa_cons (pe_ix ix_tup (pv 0) pe_int (fun _ _ => rfl)) pa_nil))) pe_int (nomark _)))))))), ?_⟩
    rcases h with ⟨t, hx, ht, q⟩ | ⟨a, xs, rfl, ha, hes, q⟩
    · refine ⟨x, rfl, x, .ty "tuple", _, _, _, rfl, .ty _, hx.ty, kit_ty hx.kTup, _, rfl, ?_⟩
      rw [decide_eq_false ht]
      exact iteT (iteT q)
    · have ho : Oky H (.ref a) "tuple" := .tup ha
      refine ⟨.ref a, rfl, .ref a, .ty "tuple", _, _, _, rfl, .ty _, ho.ty, kit_ty ho.kTup, _, rfl, iteF ?_⟩
      refine ⟨.ref a, rfl, a, xs, rfl, .inr (SqT.of ha), rfl, _, rfl, ite2 (fun hl => ?_) (fun hl => ?_)⟩
      · have e : frV xs = false := by
          have n2 : xs.length ≠ 2 := fun z => by
            rw [z] at hl
            exact absurd hl (by decide)
          unfold frV
          split
          · exact absurd rfl n2
          · rfl
        rw [e] at q
        exact q
      · have n2 : xs.length = 2 := by
          by_cases z : (xs.length : Int) = 2
          · omega
          · exact absurd (by rw [decide_eq_false (fun y => z (V.int.inj y))]; rfl) hl
        have frInt : ∀ x ∈ xs, isInt x = false → frV xs = false := fun x hx hi => by
          unfold frV
          split
          · rename_i i j
            rcases List.mem_cons.mp hx with rfl | hx
            · cases hi
            · rcases List.mem_cons.mp hx with rfl | hx
              · cases hi
              · cases hx
          · rfl
        refine ⟨.ref a, rfl, a, rfl, ⟨_, SqT.of ha⟩, ?_⟩
        refine for_tup (K := K) (a := a) (xs := xs) (fun i σ H' => (∃ y, σ = [some (.ref a), y]) ∧ H' = H ∧ ∀ j x, j < i → xs[j]? = some x → isInt x = true) ⟨⟨none, rfl⟩, rfl, fun j x h => absurd h (Nat.not_lt_zero j)⟩ ?_ ?_ ?_
        · rintro i σ H' _ ⟨⟨y, rfl⟩, rfl, _⟩
          exact SqT.of ha
        · rintro i x σ H' hx ⟨⟨y, rfl⟩, rfl, hall⟩
          obtain ⟨t, ox⟩ := hes x (List.mem_of_getElem? hx)
          refine ⟨x, rfl, x, .ty "int", _, _, _, rfl, .ty _, ox.ty, kit_ty ox.kInt, _, rfl, ?_⟩
          have bad : isInt x = false → Q (.bl false) H' := fun hi => by
            have z := frInt x (List.mem_of_getElem? hx) hi
            rw [z] at q
            exact q
          by_cases h1 : t = "int" ∨ t = "bool"
          · rw [decide_eq_true h1]
            refine iteF ⟨x, rfl, x, .ty "bool", _, _, _, rfl, .ty _, ox.ty, kit_ty ox.kBool, _, rfl, ?_⟩
            by_cases h2 : t = "bool"
            · rw [decide_eq_true h2]
              refine iteT (bad ?_)
              rw [ox.isInt, h2]
              decide
            · rw [decide_eq_false h2]
              refine iteF ⟨⟨_, rfl⟩, rfl, fun j z hj hz => ?_⟩
              by_cases e : j = i
              · subst e
                rw [hx] at hz
                cases hz
                rw [ox.isInt]
                rcases h1 with h1 | h1
                · exact decide_eq_true h1
                · exact absurd h1 h2
              · exact hall j z (by omega) hz
          · rw [decide_eq_false h1]
            refine iteT (iteT (bad ?_))
            rw [ox.isInt]
            exact decide_eq_false fun z => h1 (.inl z)
        · rintro σ H' ⟨⟨y, rfl⟩, rfl, hall⟩
          obtain ⟨x, y', rfl⟩ : ∃ x y, xs = [x, y] := by
            match xs, n2 with
            | [x, y], _ => exact ⟨x, y, rfl⟩
          have hx := hall 0 x (by show 0 < 2; decide) rfl
          have hy := hall 1 y' (by show 1 < 2; decide) rfl
          obtain ⟨i, rfl⟩ : ∃ i, x = .int i := by
            cases x <;> first | exact ⟨_, rfl⟩ | cases hx
          obtain ⟨j, rfl⟩ : ∃ j, y' = .int j := by
            cases y' <;> first | exact ⟨_, rfl⟩ | cases hy
          refine ⟨.ref a, rfl, a, _, 1, _, rfl, rfl, SqT.of ha, at1, j, 1, rfl, rfl, _, rfl, ?_⟩
          have e : frV [.int i, .int j] = (decide (0 < j) && decide (Int.gcd i j = 1)) := rfl
          rw [e] at q
          by_cases h0 : 1 ≤ j
          · rw [decide_eq_true h0]
            rw [decide_eq_true (show 0 < j by omega), Bool.true_and] at q
            refine iteT ⟨.ref a, rfl, a, _, 0, _, rfl, rfl, SqT.of ha, at0, .ref a, rfl, a, _, 1, _, rfl, rfl, SqT.of ha, at1, i, j, rfl, rfl, ?_⟩
            have e2 : decide (V.int ((Int.gcd i j : Nat) : Int) = V.int 1) = decide (Int.gcd i j = 1) := by
              by_cases z : Int.gcd i j = 1
              · rw [z]
                rfl
              · rw [decide_eq_false z, decide_eq_false]
                intro y
                have y2 := V.int.inj y
                omega
            rw [e2]
            exact q
          · rw [decide_eq_false h0]
            rw [decide_eq_false (show ¬ 0 < j by omega), Bool.false_and] at q
            exact iteF q
end
end K08
/-! An exception that is caught and kept in a local. -/
namespace Vk
open PySem PySem.Spec PyProof.Rows L2
/-- an exception of the class cls, own dict d, that was caught -/
def ExK (cls : Value) (d : Option Addr) (a : Addr) : HO := .ext fun h => ∃ oe : Obj, h.get? a = some oe ∧ Zc cls d oe ∧ ∃ vs, oe.data = .fields vs
section
variable {X : Cx} {pins : List (Addr × Obj)} {σ : L2.St} {H : Hp} {s : Shared}
/-- what is pinned is tracked from now on -/
theorem keep_pinned {a : Addr} {oe : Obj} {cls : Value} {d : Option Addr} (I : Inv X ((a, oe) :: pins) σ H s) (hz : Zc cls d oe) (hf : ∃ vs, oe.data = .fields vs) (n0 : X.s_0.heap.get? a = none) (np : ∀ p ∈ X.pn ++ pins, p.1 ≠ a) :
    Inv X pins σ (upd H a (ExK cls d a)) s := by
  obtain ⟨ga, na, nL, nF, nc⟩ := I.pin (a, oe) (List.mem_append_right _ List.mem_cons_self)
  have ga : s.heap.get? a = some oe := ga
  have na : H a = none := na
  have nC : ∀ x c, X.env.cells.lookup x = some c → c ≠ a := by
    rintro x c e rfl
    obtain ⟨v, o, ho, hd⟩ := I.cell x c e
    obtain rfl := Option.some.inj (ho.symm.trans ga)
    exact nc v hd
  have off : ∀ b, b ≠ a → upd H a (ExK cls d a) b = H b := fun b hb => upd_ne hb
  have some_ne : ∀ b u, H b = some u → b ≠ a := fun b u e z => by
    rw [z, na] at e
    cases e
  refine { ok := I.ok, os := I.os, bare := I.bare, base := ?_, loc := I.loc, cell := I.cell, free := ?_, freeC := ?_, pin := ?_, hok := ?_, len := I.len }
  · have old : ∀ b o, X.s_0.heap.get? b = some o → b ≠ a := fun b o e z => by
      rw [z, n0] at e
      cases e
    refine { keep := I.base.keep, slot := I.base.slot, free := ?_, there := I.base.there, tups := ?_, frzs := ?_, tbls := ?_ }
    · intro b o e n hx
      rw [off b (old b o e)]
      exact I.base.free b o e n hx
    · intro b xs e
      have q := I.base.tups b xs e
      rw [off b (some_ne b _ q)]
      exact q
    · intro b o u e
      have q := I.base.frzs b o u e
      rw [off b (some_ne b _ q)]
      exact q
    · intro b ps e
      obtain ⟨more, q⟩ := I.base.tbls b ps e
      refine ⟨more, ?_⟩
      rw [off b (some_ne b _ q)]
      exact q
  · rw [off _ (Ne.symm nL)]
    exact I.free
  · intro x c e
    rw [off c (nC x c e)]
    exact I.freeC x c e
  · intro p hp
    have hp' : p ∈ X.pn ++ (a, oe) :: pins := by
      rcases List.mem_append.mp hp with z | z
      · exact List.mem_append_left _ z
      · exact List.mem_append_right _ (List.mem_cons_of_mem _ z)
    obtain ⟨e1, e2, e3, e4, e5⟩ := I.pin p hp'
    refine ⟨e1, ?_, e3, e4, e5⟩
    rw [off p.1 (np p hp)]
    exact e2
  · intro b u e
    by_cases hb : b = a
    · subst hb
      rw [upd_same] at e
      obtain rfl := Option.some.inj e
      exact ⟨⟨oe, ga, hz, hf⟩, ⟨oe, ga⟩, fun h1 h2 ⟨o, q1, q2, q3⟩ st => ⟨o, st o q1, q2, q3⟩⟩
    · rw [off b hb] at e
      refine (I.hok b u e).stay (fun c v _ q => q) (fun c q => ?_) (fun c xs q => ?_)
      · rw [off c (some_ne c _ q)]
        exact q
      · rw [off c (some_ne c _ q)]
        exact q
end
/-- the wish of an except clause that keeps what it caught: the exception is known behind it -/
def wKp (K : PySem.W.Frag) (len : Nat) (c : Value) (i : Nat) (ts : Addr → Value → Option Addr → TS) (D : Ends) : WX := fun cls d σ H =>
  PySem.W.exmOne K cls c = some true ∧ (σ.length = len → ∀ a, H a = none →
    ts a cls d { nx := fun σ' H' => D.nx (σ'.set i none) (upd H' a (ExK cls d a)), rt := fun _ _ => False, bk := fun _ _ => False, ct := fun _ _ => False } (σ.set i (some (.ref a))) H)
section
variable {X : Cx} {x n : Str} {c : Value} {i : Nat} {body suite : List Stmt} {b₀ : Stmt} {np pos pos' : Pos} {tb : WX → TS} {ts : Addr → Value → Option Addr → TS}
/-- what is wanted of an exception of the body: the clauses look at it -/
def landing (X : Cx) (hs : List ExceptHandler) (R : Flow → Shared → Prop) : Value → Shared → Prop := fun e s0 =>
  wpAny (model X.prog X.w) X.A (noteFrame e X.env) (fun _ s1 => wpAny (model X.prog X.w) X.A (setFlight e none)
    (fun _ s2 => wpAny (model X.prog X.w) X.A (handleBy e X.env hs) R X.xe s2) X.xe s1) X.xe s0
/-- try: .. except x as n: suite (the suite runs through) -/
theorem ps_try_keep (hs : X.stack = X.env :: X.outer) (hf : X.env.frame = some X.env.locals) (hex : X.ex = []) (hN : X.N.Nodup) (hi : X.N[i]? = some n) (hln : X.env.kindOf n = some .local) (hc : Names X x c)
    (hb : ∀ (W : WX) (pn : List (Addr × Obj)) (xe : Value → Shared → Prop), Takes (X.tr pn xe) W → PassesOwn (model X.prog X.w) X.A X.env xe → PSs (X.tr pn xe) body (tb W))
    (hsu : ∀ (a : Addr) (oe : Obj) (cls : Value) (d : Option Addr) (pn : List (Addr × Obj)), Zc cls d oe → (∃ vs, oe.data = .fields vs) → PSs (X.suite a ((a, oe) :: pn)) (b₀ :: suite) (ts a cls d)) :
    PS X (.Try body [.ExceptHandler (some (.Name x np)) (some n) (b₀ :: suite) pos'] [] [] pos) (fun D σ H => tb (wKp X.K X.N.length c i ts D) D σ H) := by
  refine ⟨fun pins s σ H D I h => wpAny_Try_except ?_⟩
  have ok := I.ok
  have frm : X.A.frames = some (X.env :: X.outer) := by rw [ok.frames, hs]
  have run := (hb (wKp X.K X.N.length c i ts D) (X.pn ++ pins) (landing X [.ExceptHandler (some (.Name x np)) (some n) (b₀ :: suite) pos'] (SP X pins D)) (fun u s' xx => ?_) PassesOwn.looking).run [] s σ H D (I.toTry _) h
  · refine wpAny_mono run (fun fl s1 hsp => ?_) (fun e s1 he => he)
    match fl, hsp with
    | .next, ⟨σ', H', J, q⟩ => exact wpAny_execs_nil ⟨σ', H', J.ofTry ok, q⟩
    | .brk, ⟨σ', H', J, q⟩ => exact ⟨σ', H', J.ofTry ok, q⟩
    | .cont, ⟨σ', H', J, q⟩ => exact ⟨σ', H', J.ofTry ok, q⟩
    | .ret u, ⟨v, σ', H', J, r, q⟩ => exact ⟨v, σ', H', J.ofTry ok, r, q⟩
  · -- what was raised lands here
    obtain ⟨a, B, sI, pins', σ', H', cls, d, rfl, J', nb, up, sky, na, os, ag, hyes, hgo⟩ := xx
    have J : Inv X pins σ' H' sI := J'.ofTry ok
    have air : Sky B (X.env :: X.outer) a (Zc cls d) X.env.locals s'.heap := by
      rw [← hs]
      exact sky
    show wpAny (model X.prog X.w) X.A (noteFrame (.ref a) X.env) _ _ _
    refine Sky.land Zc.steady frm hf air fun h3 fl3 up3 => ?_
    have J3 : Inv X pins σ' H' { s' with heap := h3 } := J.landed nb fl3.1 (up.trans up3) os ag
    obtain ⟨oe3, vs3, he3, hz3, hd3⟩ := fl3.there
    have nB : B.get? a = none := fl3.2.1
    have nfr : a ∉ frs (X.env :: X.outer) := fun hm => by
      obtain ⟨_, o', e', hnf⟩ := fl3.2.2.1.mem hm
      obtain rfl := Option.some.inj (he3.symm.trans e')
      exact hnf _ hd3
    have nL : a ≠ X.env.locals := fun z => nfr (List.mem_filterMap.mpr ⟨X.env, List.mem_cons_self, by rw [hf, z]⟩)
    have nF : a ∉ X.fs := fun hm => by
      obtain ⟨e, he, q⟩ := List.mem_filterMap.mp hm
      exact nfr (List.mem_filterMap.mpr ⟨e, List.mem_cons_of_mem _ he, q⟩)
    have fresh : ∀ b o, sI.heap.get? b = some o → b ≠ a := by
      rintro b o e rfl
      have z := nb b o e (by rw [hs]; exact nfr)
      rw [nB] at z
      cases z
    have n0 : X.s_0.heap.get? a = none := by
      cases q : X.s_0.heap.get? a with
      | none => rfl
      | some o =>
        obtain ⟨o', z⟩ := J.base.there a o q (by rw [hex]; exact List.not_mem_nil)
        exact absurd rfl (fresh a o' z)
    have npp : ∀ p ∈ X.pn ++ pins, p.1 ≠ a := fun p hp => fresh p.1 p.2 (J.pin p hp).1
    have S3 := J3.suite he3 hd3 na nL nF
    refine wpAny_handleBy_cons (codeAny_handlers_test ?_) (by intro q; cases q)
    have seen : PySem.W.Looks (model X.prog X.w) h3 (typeOf (.ref a)) cls := fun A Q E s k q => wpAny_typeOf_ref (k _ _ he3) (by
      rw [hz3.1]
      exact q)
    have fits := PySem.W.exm_one (M := model X.prog X.w) J3.kIn seen hyes
    have look : ∀ {Q : Value → Shared → Prop} {E : Value → Shared → Prop}, Q c { s' with heap := h3 } → wpAny (model X.prog X.w) (X.A.mark (some (.ref a))) (eval (.Name x np) X.env) Q E { s' with heap := h3 } := by
      intro Q E q
      obtain ⟨hg, hdbg, hm | ⟨hm, hv, hnn⟩⟩ := hc
      · exact ld_glob (X := X.suite a ((a, oe3) :: (X.pn ++ pins))) S3 hg hm q hdbg
      · exact ld_blt (X := X.suite a ((a, oe3) :: (X.pn ++ pins))) S3 hg hm hv q hnn hdbg
    refine look (fits.here (codeAny_handlers_suite_as ?_))
    refine HandSPX.lands_againZ fl3 fun h4 fl4 up4 => ?_
    have J4 : Inv X pins σ' H' { s' with heap := h4 } := J.landed nb fl4.1 ((up.trans up3).trans up4) os ag
    obtain ⟨oe4, vs4, he4, hz4, hd4⟩ := fl4.there
    have S4 := J4.suite he4 hd4 na nL nF
    refine store_ok (X := X.suite a ((a, oe4) :: (X.pn ++ pins))) (v := .ref a) S4 hN hi (.inl hln) rfl (fun s5 S5 => ?_) (.inr hln)
    refine wpAny_mono ((hsu a oe4 cls d (X.pn ++ pins) hz4 ⟨_, hd4⟩).run [] s5 _ H' _ S5 (hgo J.len a na)) (fun fl s6 hsp => ?_) (fun _ _ z => False.elim z)
    match fl, hsp with
    | .brk, ⟨_, _, _, q⟩ => exact False.elim q
    | .cont, ⟨_, _, _, q⟩ => exact False.elim q
    | .ret u, ⟨_, _, _, _, _, q⟩ => exact False.elim q
    | .next, ⟨σ6, H6, S6, q6⟩ =>
      obtain ⟨g6, n6, _⟩ := S6.pin (a, oe4) (List.mem_append_left _ List.mem_cons_self)
      have J6 : Inv X ((a, oe4) :: pins) σ6 H6 s6 := (S6.unsuite ok).pins_of fun p hp => by
        rcases List.mem_cons.mp hp with e | hp
        · rw [e]
          exact ⟨g6, n6, nL, nF, fun v z => by
            have z' : oe4.data = .cell v := z
            rw [hd4] at z'
            cases z'⟩
        · exact (S6.unsuite ok).pin p (List.mem_append_right _ hp)
      exact gone_ok J6 hN hi hln fun s7 J7 => ⟨_, _, keep_pinned J7 hz4 ⟨_, hd4⟩ n0 npp, q6⟩
end
/-- isinstance(e, c), e such an exception -/
def rIsK (K : PySem.W.Frag) (D : Addr) : List V → Hp → VK → Prop := fun xs H Q => ∃ (a : Addr) (c : V) (cv : Value) (b : Bool), xs = [.ref a, c] ∧ H a = some (ExK (.ref D) none a) ∧ ClsV c cv ∧ PySem.W.kitOne K (.ref D) cv = some b ∧ Q (.bl b) H
theorem call_isK {X : Cx} {D : Addr} (C : ExcC X.K D) : CallR X (.builtin "isinstance") (rIsK X.K D) := by
  intro pins s σ H xs us Q I r h
  obtain ⟨a, c, cv, b, rfl, ha, hcv, e, q⟩ := h
  obtain ⟨u1, u2, rfl, r1, r2⟩ := vals2 r
  obtain rfl : u1 = Value.ref a := r1
  obtain rfl := hcv.eq r2
  obtain ⟨⟨oe, g, hz, vs, hv⟩, _, _⟩ := I.hok a _ ha
  have J : PySem.W.InstAt s.heap a oe D none := by
    obtain ⟨oc, od, oda, osl⟩ := oe
    obtain ⟨h1, h2⟩ := hz
    dsimp only at h1 h2 hv
    subst h1 h2 hv
    exact ⟨g, rfl, rfl, trivial⟩
  exact PySem.W.kia_one (PySem.W.handS_kitx_exc C.hg C.hk C.hs C.hd C.ha C.hn C.ht C.hm) I.kIn J e (fun z => nomatch z) fun tk => ⟨.bl b, H, I.kept (t' := tk) fun _ _ z => z, rfl, q⟩
end Vk
namespace K08
open PySem PySem.Spec PyProof.Rows L2 Vk
abbrev s_heard : Stmt := topS 24
theorem sc_heard : FnScope ["call", "found", "error", "e"] ["call"] (defScope s_heard) := ⟨rfl, rfl, rfl, by decide +kernel, rfl, by decide +kernel, by decide +kernel⟩
/-- what is known of the classes -/
structure Exs (K : PySem.W.Frag) (mg : Str → Option Value) (CT CB CN : Addr) : Prop where
  gT : mg "TallyError" = some (.ref CT)
  gN : mg "NotFit" = some (.ref CN)
  B : ExcT K mg "ByNought" CB
  C : ExcC K CB
  e : PySem.W.exmOne K (.ref CB) (.ref CT) = some true
  kV : PySem.W.kitOne K (.ref CB) (.type "ValueError") = some true
  kB : PySem.W.kitOne K (.ref CB) (.ref CB) = some true
  kN : PySem.W.kitOne K (.ref CB) (.ref CN) = some false
/-- heard: the value alone in a new list, or the text of the refusal -/
def THeard (CB : Addr) : (XK → Hp → VK → Prop) → Hp → VK → Prop := fun tl H Q => ∀ (H1 : Hp) (Q' : VK), Same H H1 → (∀ v H', (∀ p, H' p = none → Q (.ref p) (upd H' p (.lst [v]))) → Q' v H') →
  tl (fun cls d H' => cls = .ref CB ∧ d = none ∧ ∀ a, H' a = none → Q (.str "nought") (upd H' a (ExK (.ref CB) none a))) H1 Q'
theorem heard_gives {X : Cx} {g CT CB CN : Addr} {cdg : Value} {q : Str} (T : Exs X.K X.mg CT CB CN) (m_isinstance : X.mg "isinstance" = none) (m_ValueError : X.mg "ValueError" = none) :
    LamX.GivesTo X ["call", "found", "error", "e"] "_law_heard" (defScope s_heard) g cdg (defBody s_heard) "call" q (THeard CB) := by
  have sc := sc_heard
  intro f c' s H Q tl act hc h
  refine ⟨_, (pss_cons (ps_asg (pe_tup (pa_cons pe_non (pa_cons pe_non pa_nil))) (pg_tup (by rfl) (pgs_cons (pg_name (i := 1) sc.nd rfl (Or.inl rfl)) (pgs_cons (pg_name (i := 2) sc.nd rfl (Or.inl rfl)) pgs_nil))))
    (pss_cons (ps_try_keep (i := 3) (c := .ref CT)
      (tb := fun W D σ H => ∃ Ech : XK, (∀ cls d σ' H', Ech cls d H' → W cls d σ' H') ∧ σ[0]? = some (some (.ref f)) ∧ H c' = some (LamX.CodeO c' q) ∧ tl Ech H (fun v H' => D.nx (σ.set 1 (some v)) H'))
      (ts := fun _ _ _ => tAsg (tVar 3) (gName 2))
      rfl rfl rfl sc.nd rfl rfl ⟨rfl, by decide, .inl T.gT⟩
      (fun W pn xe tk _ => ⟨fun pins s' σ H' D I h' => by
        obtain ⟨Ech, hW, h1, h2, h3⟩ := h'
        exact (pss_one (ps_set (i := 1) sc.nd rfl (Or.inl rfl) (act W pn xe Ech _ _ tk hW))).run pins s' σ H' D I ⟨h1, h2, h3⟩⟩)
      (fun a oe cls d pn _ _ => pss_one (ps_set (i := 2) sc.nd rfl (Or.inl rfl) (pv 3))))
    (pss_cons (ps_if (pt_cmpR op_isN (pv 2) pe_non (nomark _))
      (pss_one (ps_ret (pe_lst (pa_cons (pv 1) pa_nil))))
      pss_nil)
    (pss_cons (ps_if (pt_not (pt_val (pe_callB (call_isK T.C) (by rfl) m_isinstance (by decide +kernel) (pa_cons (pv 2) (pa_cons (pe_bltn (v := .ty "ValueError") (by rfl) m_ValueError (by decide +kernel) rfl) pa_nil)))))
      (pss_one (ps_ret pe_str))
      pss_nil)
    (pss_cons (ps_if (PW.pt (pw_and (pt_val (pe_callB (call_isK T.C) (by rfl) m_isinstance (by decide +kernel) (pa_cons (pv 2) (pa_cons (pe_glob (v := .ref CB) rfl T.B.g rfl) pa_nil)))) (pw_and1 (pt_not (pt_val (pe_callB (call_isK T.C) (by rfl) m_isinstance (by decide +kernel) (pa_cons (pv 2) (pa_cons (pe_glob (v := .ref CN) rfl T.gN rfl) pa_nil))))))))
      (pss_one (ps_ret pe_str))
      pss_nil)
    (pss_one (ps_ret pe_str))))))), ?_⟩
  refine ⟨by show 2 ≤ sizeLine; decide, fun p0 np0 => ⟨p0, [.non, .non], rfl, SqT.of upd_same, rfl, .non, [.non], rfl, .non, [], rfl, rfl, ?_⟩⟩
  have s0 : Same H (upd H p0 (.tup [.non, .non])) := same_new np0
  refine ⟨fun cls d H' => cls = .ref CB ∧ d = none ∧ ∀ a, H' a = none → Q (.str "nought") (upd H' a (ExK (.ref CB) none a)), ?_, rfl, s0 _ _ hc, ?_⟩
  · -- refused
    rintro _ _ σ' H' ⟨rfl, rfl, q1⟩
    refine ⟨T.e, fun hl a na => ⟨.ref a, ?_, ?_⟩⟩
    · rw [List.getElem?_set_self (by rw [hl]; exact (by decide : 3 < 4))]
    have q2 := q1 a na
    have hσ : ((((σ'.set 3 (some (V.ref a))).set 2 (some (V.ref a))).set 3 none)[2]? : Option (Option V)) = some (some (.ref a)) := by
      rw [List.getElem?_set_ne (by decide), List.getElem?_set_self (by rw [List.length_set, hl]; exact (by decide : 2 < 4))]
    have gE : upd H' a (ExK (.ref CB) none a) a = some (ExK (.ref CB) none a) := upd_same
    refine ⟨.ref a, hσ, rfl, _, rfl, ?_⟩
    rw [decide_eq_false (show ¬ V.ref a = V.non from fun z => by cases z)]
    refine iteF ⟨.ref a, hσ, a, .ty "ValueError", _, true, rfl, gE, .ty _, T.kV, _, rfl, iteF ?_⟩
    refine ⟨.ref a, hσ, a, .ref CB, _, true, rfl, gE, .own _, T.kB, _, rfl, iteT ?_⟩
    exact ⟨.ref a, hσ, a, .ref CN, _, false, rfl, gE, .own _, T.kN, _, rfl, iteT q2⟩
  · -- told
    refine h _ _ s0 fun v H' q1 => ?_
    refine ⟨.non, rfl, rfl, _, rfl, iteT ⟨v, rfl, by show 1 ≤ sizeLine; decide, fun p np => q1 p np⟩⟩
end K08
namespace K08
open PySem PySem.Spec PyProof.Rows L2 Vk
/-- the def that hears -/
def HeardF (K : PySem.W.Frag) (mg : Str → Option Value) (g : Addr) : Prop := mg "_law_heard" = some (.ref g) ∧ PySem.W.keepIn K (.ref g) = true ∧
  ∃ (oc kV doc pm cdv ct : Value) (od an : Option Addr) (osl : Array (Option Value)), K.lookup g = some ⟨oc, od, .func (PySem.W.fnOf "_law_heard" "_law_heard" (defArgs s_heard) (defBody s_heard) (defScope s_heard) .none kV doc pm an cdv ct), osl⟩ ∧
    PySem.W.codeIn K cdv "_law_heard" = true ∧ Binds K (PySem.W.fnOf "_law_heard" "_law_heard" (defArgs s_heard) (defBody s_heard) (defScope s_heard) .none kV doc pm an cdv ct) ["call"] []
/-- the def that may refuse, by its name -/
def CalX (P : Program) (w : World) (K : PySem.W.Frag) (mg : Str → Option Value) (base : Heap) (k : Nat) (x : Str) (ps : List Str) (sp : Sp) : Prop :=
  ∃ f fd, FnOk P w K mg base (L2.CX P w) k f fd ps sp ∧ mg x = some (.ref f) ∧ PySem.W.keepIn K (.ref f) = true ∧ Binds K fd ps []
abbrev s_two : Stmt := topS 28
theorem sc_two : FnScope ["f", "g", "a", "c", "u", "v", "due", "told", "side"] ["f", "g"] (defScope s_two) := ⟨rfl, rfl, rfl, by decide +kernel, rfl, by decide +kernel, by decide +kernel⟩
def spRight (T : List (Addr × Str)) : Sp := fun vs H Q _ => ∃ (p q : Addr) (a c u v : Int), vs = [.ref p, .ref q] ∧ Pr H p (a, c) ∧ Pr H q (u, v) ∧ Sm 400 a ∧ Sm 400 c ∧ Sm 400 u ∧ Sm 400 v ∧ c ≠ 0 ∧ v ≠ 0 ∧ LamX.Tabs T H ∧
  ∀ H', LamX.ExtN H H' → LamX.Tabs T H' → Q (.bl true) H'
theorem Pr.ext {H H' : Hp} {p : Addr} {x : Int × Int} (h : Pr H p x) (e : LamX.ExtN H H') : Pr H' p x := e _ _ h fun ps z => by cases z
theorem Pr.same {H H' : Hp} {p : Addr} {x : Int × Int} (h : Pr H p x) (e : Same H H') : Pr H' p x := e _ _ h
/-- a fraction's data -/
def dPr (x : Int × Int) : PyData := .tuple [.int x.1, .int x.2]
theorem Pr.dp {K : PySem.W.Frag} {H : Hp} {p : Addr} {x : Int × Int} (h : Pr H p x) : Dp K H (.ref p) (dPr x) := .tup (SqT.of h) (.cons (.int _) (.cons (.int _) .nil))
theorem fit_dPr {x : Int × Int} {k : Nat} (h1 : Sm 1900 x.1) (h2 : Sm 1900 x.2) : FitN (k + 1) 2 (dPr x) := .tup (.cons (.int (n := 0) h1) (.cons (.int (n := 0) h2) (.nil (n := 0)) (Nat.le_refl _)) (Nat.le_refl _))
theorem Sm.low1 {a b : Int} {n : Nat} (h : b ≠ 0) (z : Sm n a) : Sm n (low a b).1 := Nat.lt_of_le_of_lt (low_abs h).1 z
theorem Sm.low2 {a b : Int} {n : Nat} (h : b ≠ 0) (z : Sm n b) : Sm n (low a b).2 := Nat.lt_of_le_of_lt (low_abs (a := a) h).2 z
theorem ext_same {H H1 H2 : Hp} (a : LamX.ExtN H H1) (b : Same H1 H2) : LamX.ExtN H H2 := a.trans (LamX.ExtN.of b)
/-- the reading of a call of the def that hears: refused, or told -/
theorem heard_read {T : List (Addr × Str)} {CB : Addr} {t : XK → TE} {σ : L2.St} {H : Hp} {Q : VK} (hT : LamX.Tabs T H) (Good : V → Hp → Prop) (hQ : ∀ x H', Good x H' → Q x H')
    (hb : ∀ (H1 : Hp) (E' : XK) (Q' : VK), LamX.ExtN H H1 → LamX.Tabs T H1 → (∀ H', Same H1 H' → (∀ e, H' e = none → Good (.str "nought") (upd H' e (ExK (.ref CB) none e))) → E' (.ref CB) none H') →
      (∀ v H', (∀ r, H' r = none → Good (.ref r) (upd H' r (.lst [v]))) → Q' v H') → t E' σ H1 Q') : LamX.tLam T (THeard CB) t σ H Q :=
  ⟨hT, fun H1 e1 T1 H2 Q' s2 hq => hb H2 _ Q' (ext_same e1 s2) (T1.ext s2) (fun H' s' g => ⟨rfl, rfl, fun a na => hQ _ _ (g a na)⟩) (fun v H' g => hq v H' fun p np => hQ _ _ (g p np))⟩
theorem fit_str (x : Str) (h : (x.cps.toList.all fun c => decide (c < 16 ^ 8)) = true) (hn : x.cps.size ≤ 8000) : Fit (.str x) := FitN.str x h hn
section
variable {P : Program} {w : World} {K : PySem.W.Frag} {mg : Str → Option Value} {base : Heap}
theorem ok_two {f c2 P2 gH CT CB CN : Addr} {T : List (Addr × Str)} {oc kV doc pm ct : Value} {od an : Option Addr} {osl : Array (Option Value)}
    (lk : K.lookup f = some ⟨oc, od, .func (PySem.W.fnOf "_law_two_right" "_law_two_right" (defArgs s_two) (defBody s_two) (defScope s_two) .none kV doc pm an (.ref c2) ct), osl⟩) (hcd : PySem.W.codeIn K (.ref c2) "_law_two_right" = true)
    (TB : LamX.TabB base mg c2 P2) (hT : (P2, ("_law_two_right.<locals>.<lambda>" : Str)) ∈ T) (hu : ∀ p ∈ T, p.1 = P2 → p.2 = "_law_two_right.<locals>.<lambda>") (HF : HeardF K mg gH) (X : Exs K mg CT CB CN)
    (C__law_lowest : Cal P w K mg base 2 "_law_lowest" ["a", "c"] spFrac) (C_plus : Cal P w K mg base 2 "plus" ["f", "g"] (spTwo (fun a c u v => a * v + u * c) (fun _ c _ v => c * v)))
    (C_minus : Cal P w K mg base 2 "minus" ["f", "g"] (spTwo (fun a c u v => a * v - u * c) (fun _ c _ v => c * v))) (C_times : Cal P w K mg base 2 "times" ["f", "g"] (spTwo (fun a _ u _ => a * u) (fun _ c _ v => c * v)))
    (C_compare : Cal P w K mg base 2 "compare" ["f", "g"] spCompare) (C__law_like : CalG P w K mg base 1 "_law_like" ["got", "due"] (spLike K)) (C_over : CalX P w K mg base 2 "over" ["f", "g"] (spOverX CB))
    (m_isinstance : mg "isinstance" = none) (m_ValueError : mg "ValueError" = none) (m_int : mg "int" = none) :
    FnG P w K mg base 6 f (PySem.W.fnOf "_law_two_right" "_law_two_right" (defArgs s_two) (defBody s_two) (defScope s_two) .none kV doc pm an (.ref c2) ct) ["f", "g"] (spRight T) := by
  have sc := sc_two
  refine fnG_of lk hcd sc (fun vs H Q E h => ?_) (fun A outer s H vs Q E hG0 hr h => ?_)
  · obtain ⟨p, q, a, c, u, v, rfl, _⟩ := h
    rfl
  · obtain ⟨p, q, a, c, u, v, rfl, hp, hq, za, zc, zu, zv, c0, v0, hTab, k⟩ := h
    have hG : Quiet (cxOf CX0 P w K mg base ["f", "g", "a", "c", "u", "v", "due", "told", "side"] "_law_two_right" (defScope s_two) f (.ref c2) A outer s H E).nox.A := hG0.deeper _
    obtain ⟨gH1, gH2, ocH, kVH, docH, pmH, cdvH, ctH, odH, anH, oslH, lkH, hcH, bH⟩ := HF
    obtain ⟨fO, fdO, FO, gO, kO, bO⟩ := C_over
    refine ⟨_, (pss_cons (ps_asg (pe_tup (pa_cons (pe_ix ix_tup (pv 0) pe_int (fun _ _ => rfl)) (pa_cons (pe_ix ix_tup (pv 0) pe_int (fun _ _ => rfl)) (pa_cons (pe_ix ix_tup (pv 1) pe_int (fun _ _ => rfl)) (pa_cons (pe_ix ix_tup (pv 1) pe_int (fun _ _ => rfl)) pa_nil))))) (pg_tup (by rfl) (pgs_cons (pg_name (i := 2) sc.nd rfl (Or.inl rfl)) (pgs_cons (pg_name (i := 3) sc.nd rfl (Or.inl rfl)) (pgs_cons (pg_name (i := 4) sc.nd rfl (Or.inl rfl)) (pgs_cons (pg_name (i := 5) sc.nd rfl (Or.inl rfl)) pgs_nil))))))
    (pss_cons (ps_set (i := 6) sc.nd rfl (Or.inl rfl) (pe_lst (pa_cons (call_ C__law_lowest (hr.mono (by decide)) (by rfl) (pa_cons (pe_op op_add (pe_op op_mulW (pv 2) (pv 5)) (pe_op op_mulW (pv 4) (pv 3))) (pa_cons (pe_op op_mulW (pv 3) (pv 5)) pa_nil))) (pa_cons (call_ C__law_lowest (hr.mono (by decide)) (by rfl) (pa_cons (pe_op op_sub (pe_op op_mulW (pv 2) (pv 5)) (pe_op op_mulW (pv 4) (pv 3))) (pa_cons (pe_op op_mulW (pv 3) (pv 5)) pa_nil))) (pa_cons (call_ C__law_lowest (hr.mono (by decide)) (by rfl) (pa_cons (pe_op op_mulW (pv 2) (pv 4)) (pa_cons (pe_op op_mulW (pv 3) (pv 5)) pa_nil))) pa_nil)))))
    (pss_cons (ps_if (pt_not (pt_val (callG hG C__law_like (hr.mono (by decide)) (by rfl) (pa_cons (pe_lst (pa_cons (call_ C_plus (hr.mono (by decide)) (by rfl) (pa_cons (pv 0) (pa_cons (pv 1) pa_nil))) (pa_cons (call_ C_minus (hr.mono (by decide)) (by rfl) (pa_cons (pv 0) (pa_cons (pv 1) pa_nil))) (pa_cons (call_ C_times (hr.mono (by decide)) (by rfl) (pa_cons (pv 0) (pa_cons (pv 1) pa_nil))) pa_nil)))) (pa_cons (pv 6) pa_nil)))))
      (pss_one (ps_ret pe_bl))
      pss_nil)
    (pss_cons (ps_set (i := 7) sc.nd rfl (Or.inl rfl) (LamX.pe_lamcall (T := T) (k := 3) (TT := THeard CB) (t := fun E => tCall (spOverX CB) [] E (tCons (tVar 0) (tCons (tVar 1) tNil))) rfl gH1 gH2 lkH hcH bH sc_heard rfl (Or.inl rfl) (heard_gives X m_isinstance m_ValueError) TB rfl hT hu (hr.mono (by decide)) (LamX.lamS_by (sc := defScope s_two) (by decide +kernel)) rfl (fun _ _ _ _ _ => rfl)
      (fun A' outer' s' H' E' f' c' hr' => pe_call FO (hr'.mono (by decide)) (by rfl) gO kO bO .nil (passes_call (takes_of rfl rfl rfl rfl) (fun _ _ _ _ z => z)) (pa_cons (pv 0) (pa_cons (pv 1) pa_nil)))))
    (pss_cons (ps_if (pt_not (pt_val (callG hG C__law_like (hr.mono (by decide)) (by rfl) (pa_cons (pv 7) (pa_cons (pe_ifExp (pt_cmpR op_ne (pv 4) pe_int (nomark _)) (pe_lst (pa_cons (call_ C__law_lowest (hr.mono (by decide)) (by rfl) (pa_cons (pe_op op_mulW (pv 2) (pv 5)) (pa_cons (pe_op op_mulW (pv 3) (pv 4)) pa_nil))) pa_nil)) pe_str) pa_nil)))))
      (pss_one (ps_ret pe_bl))
      pss_nil)
    (pss_cons (ps_set (i := 8) sc.nd rfl (Or.inl rfl) (pe_op op_sub (pe_callTy call_int1 (by rfl) m_int (by decide +kernel) (pa_cons (pe_cmpR op_gt (pe_op op_mulW (pv 2) (pv 5)) (pe_op op_mulW (pv 4) (pv 3)) (nomark _)) pa_nil)) (pe_callTy call_int1 (by rfl) m_int (by decide +kernel) (pa_cons (pe_cmpR op_lt (pe_op op_mulW (pv 2) (pv 5)) (pe_op op_mulW (pv 4) (pv 3)) (nomark _)) pa_nil))))
    (pss_one (ps_ret (callG hG C__law_like (hr.mono (by decide)) (by rfl) (pa_cons (pe_lst (pa_cons (call_ C_compare (hr.mono (by decide)) (by rfl) (pa_cons (pv 0) (pa_cons (pv 1) pa_nil))) (pa_cons (call_ C_compare (hr.mono (by decide)) (by rfl) (pa_cons (pv 1) (pa_cons (pv 0) pa_nil))) (pa_cons (call_ C_compare (hr.mono (by decide)) (by rfl) (pa_cons (pv 0) (pa_cons (pv 0) pa_nil))) pa_nil)))) (pa_cons (pe_lst (pa_cons (pv 8) (pa_cons (pe_un un_neg (pv 8)) (pa_cons pe_int pa_nil)))) pa_nil))))))))))), ?_⟩
    have cv0 : c * v ≠ 0 := Int.mul_ne_zero c0 v0
    have zcv : Sm 8000 (c * v) := (zc.mul zv).mono (by decide)
    refine ⟨.ref p, rfl, p, _, 0, _, rfl, rfl, SqT.of hp, at0, .ref p, rfl, p, _, 1, _, rfl, rfl, SqT.of hp, at1, .ref q, rfl, q, _, 0, _, rfl, rfl, SqT.of hq, at0, .ref q, rfl, q, _, 1, _, rfl, rfl, SqT.of hq, at1, by show 4 ≤ sizeLine; decide, fun t nt => ?_⟩
    have s0 : Same H (upd H t (.tup [.int a, .int c, .int u, .int v])) := same_new nt
    refine ⟨t, [.int a, .int c, .int u, .int v], rfl, SqT.of upd_same, rfl, .int a, _, rfl, .int c, _, rfl, .int u, _, rfl, .int v, [], rfl, rfl, ?_⟩
    generalize upd H t (.tup [.int a, .int c, .int u, .int v]) = H0 at s0 ⊢
    refine ⟨.int a, rfl, .int v, rfl, a, v, rfl, rfl, za.w zv (by decide), .int u, rfl, .int c, rfl, u, c, rfl, rfl, zu.w zc (by decide), _, _, rfl, rfl, .int c, rfl, .int v, rfl, c, v, rfl, rfl, zc.w zv (by decide), _, _, rfl, cv0, zcv, fun H1 r1 s1 n1 k1 => ?_⟩
    refine ⟨.int a, rfl, .int v, rfl, a, v, rfl, rfl, za.w zv (by decide), .int u, rfl, .int c, rfl, u, c, rfl, rfl, zu.w zc (by decide), _, _, rfl, rfl, .int c, rfl, .int v, rfl, c, v, rfl, rfl, zc.w zv (by decide), _, _, rfl, cv0, zcv, fun H2 r2 s2 n2 k2 => ?_⟩
    refine ⟨.int a, rfl, .int u, rfl, a, u, rfl, rfl, za.w zu (by decide), .int c, rfl, .int v, rfl, c, v, rfl, rfl, zc.w zv (by decide), _, _, rfl, cv0, zcv, fun H3 r3 s3 n3 k3 => ?_⟩
    refine ⟨by show 3 ≤ sizeLine; decide, fun L nL => ?_⟩
    have s4 : Same H3 (upd H3 L (.lst [.ref r1, .ref r2, .ref r3])) := same_new nL
    have gL : upd H3 L (.lst [.ref r1, .ref r2, .ref r3]) L = some (.lst [.ref r1, .ref r2, .ref r3]) := upd_same
    generalize upd H3 L (.lst [.ref r1, .ref r2, .ref r3]) = H4 at s4 gL ⊢
    have s04 : Same H H4 := (((s0.trans s1).trans s2).trans s3).trans s4
    have k1 := ((k1.same s2).same s3).same s4
    have k2 := (k2.same s3).same s4
    have k3 := k3.same s4
    refine ⟨.ref p, rfl, .ref q, rfl, p, q, a, c, u, v, rfl, hp.same s04, hq.same s04, za.mono (by decide), zc.mono (by decide), zu.mono (by decide), zv.mono (by decide), cv0, fun H5 t1 s5 n5 j1 => ?_⟩
    have s05 := s04.trans s5
    refine ⟨.ref p, rfl, .ref q, rfl, p, q, a, c, u, v, rfl, hp.same s05, hq.same s05, za.mono (by decide), zc.mono (by decide), zu.mono (by decide), zv.mono (by decide), cv0, fun H6 t2 s6 n6 j2 => ?_⟩
    have s06 := s05.trans s6
    refine ⟨.ref p, rfl, .ref q, rfl, p, q, a, c, u, v, rfl, hp.same s06, hq.same s06, za.mono (by decide), zc.mono (by decide), zu.mono (by decide), zv.mono (by decide), cv0, fun H7 t3 s7 n7 j3 => ?_⟩
    have s07 := s06.trans s7
    refine ⟨by show 3 ≤ sizeLine; decide, fun M nM => ?_⟩
    have s8 : Same H7 (upd H7 M (.lst [.ref t1, .ref t2, .ref t3])) := same_new nM
    have gM : upd H7 M (.lst [.ref t1, .ref t2, .ref t3]) M = some (.lst [.ref t1, .ref t2, .ref t3]) := upd_same
    generalize upd H7 M (.lst [.ref t1, .ref t2, .ref t3]) = H8 at s8 gM ⊢
    have s48 := ((s5.trans s6).trans s7).trans s8
    have s08 := s04.trans s48
    have j1 := ((j1.same s6).same s7).same s8
    have j2 := (j2.same s7).same s8
    have j3 := j3.same s8
    have D : ∀ x y z : Addr, Pr H8 x (low (a * v + u * c) (c * v)) → Pr H8 y (low (a * v - u * c) (c * v)) → Pr H8 z (low (a * u) (c * v)) → DpAll K H8 [.ref x, .ref y, .ref z] [dPr (low (a * v + u * c) (c * v)), dPr (low (a * v - u * c) (c * v)), dPr (low (a * u) (c * v))] :=
      fun x y z h1 h2 h3 => .cons h1.dp (.cons h2.dp (.cons h3.dp .nil))
    have fd : Fit (.list [dPr (low (a * v + u * c) (c * v)), dPr (low (a * v - u * c) (c * v)), dPr (low (a * u) (c * v))]) := by
      have zs : Sm 1900 (low (a * v + u * c) (c * v)).1 := (((za.mul zv).add ((zu.mul zc).mono (by decide))).low1 cv0).mono (by decide)
      have zd : Sm 1900 (low (a * v - u * c) (c * v)).1 := (((za.mul zv).sub ((zu.mul zc).mono (by decide))).low1 cv0).mono (by decide)
      have zp : Sm 1900 (low (a * u) (c * v)).1 := ((za.mul zu).low1 cv0).mono (by decide)
      have z2 : ∀ x, Sm 1900 (low x (c * v)).2 := fun x => ((zc.mul zv).low2 cv0).mono (by decide)
      exact FitN.mono (FitN.list (k := 1) (n := 9) (.cons (fit_dPr (k := 0) zs (z2 _)) (.cons (fit_dPr (k := 0) zd (z2 _)) (.cons (fit_dPr (k := 0) zp (z2 _)) (.nil (n := 0)) (Nat.le_refl _)) (Nat.le_refl _)) (Nat.le_refl _))) (by decide) (by decide)
    refine ⟨.ref L, rfl, .ref M, .ref L, _, rfl, .lst (SqL.of gM) (D t1 t2 t3 j1 j2 j3), .lst (SqL.of (s48 _ _ gL)) (D r1 r2 r3 (k1.same s48) (k2.same s48) (k3.same s48)), fd, _, rfl, iteF ?_⟩
    refine heard_read (hTab.ext s08) (fun x H' => LamX.ExtN H8 H' ∧ LamX.Tabs T H' ∧ ((u = 0 ∧ x = .str "nought") ∨ (u ≠ 0 ∧ ∃ e r, x = .ref e ∧ H' e = some (.lst [.ref r]) ∧ Pr H' r (low (a * v) (c * u))))) ?_ ?_
    · rintro x H11 ⟨e11, T11, hx⟩
      have e011 : LamX.ExtN H H11 := (LamX.ExtN.of s08).trans e11
      have cu : u ≠ 0 → c * u ≠ 0 := fun h => Int.mul_ne_zero c0 h
      have fo : u ≠ 0 → Fit (.list [dPr (low (a * v) (c * u))]) := fun h => by
        have z1 : Sm 1900 (low (a * v) (c * u)).1 := ((za.mul zv).low1 (cu h)).mono (by decide)
        have z2 : Sm 1900 (low (a * v) (c * u)).2 := ((zc.mul zu).low2 (cu h)).mono (by decide)
        exact FitN.mono (FitN.list (k := 1) (n := 3) (.cons (fit_dPr (k := 0) z1 z2) (.nil (n := 0)) (Nat.le_refl _))) (by decide) (by decide)
      refine ⟨x, rfl, .int u, rfl, rfl, _, rfl, tif_bothH (fun y H' => Same H11 H' ∧ ∃ d, Dp K H' x d ∧ Dp K H' y d ∧ Fit d) ?_ ?_ ?_⟩
      · rintro y H12 ⟨s12, d, dx, dy, fd2⟩
        refine ⟨x, y, d, rfl, dx, dy, fd2, _, rfl, iteF ?_⟩
        refine ⟨.int a, rfl, .int v, rfl, a, v, rfl, rfl, za.w zv (by decide), .int u, rfl, .int c, rfl, u, c, rfl, rfl, zu.w zc (by decide), a * v, u * c, rfl, rfl, .inr ⟨_, rfl, ?_⟩⟩
        refine ⟨.int a, rfl, .int v, rfl, a, v, rfl, rfl, za.w zv (by decide), .int u, rfl, .int c, rfl, u, c, rfl, rfl, zu.w zc (by decide), a * v, u * c, rfl, rfl, .inr ⟨_, rfl, _, _, rfl, rfl, ?_⟩⟩
        have p12 : Pr H12 p (a, c) := (hp.ext e011).same s12
        have q12 : Pr H12 q (u, v) := (hq.ext e011).same s12
        refine ⟨.ref p, rfl, .ref q, rfl, p, q, a, c, u, v, rfl, p12, q12, za.mono (by decide), zc.mono (by decide), zu.mono (by decide), zv.mono (by decide), ?_⟩
        refine ⟨.ref q, rfl, .ref p, rfl, q, p, u, v, a, c, rfl, q12, p12, zu.mono (by decide), zv.mono (by decide), za.mono (by decide), zc.mono (by decide), ?_⟩
        refine ⟨.ref p, rfl, .ref p, rfl, p, p, a, c, a, c, rfl, p12, p12, za.mono (by decide), zc.mono (by decide), za.mono (by decide), zc.mono (by decide), ?_⟩
        refine ⟨by show 3 ≤ sizeLine; decide, fun L2 nL2 => ⟨_, rfl, _, rfl, _, rfl, by show 3 ≤ sizeLine; decide, fun L3 nL3 => ?_⟩⟩
        have sd : (if decide (u * c < a * v) = true then (1 : Int) else 0) - (if decide (a * v < u * c) = true then 1 else 0) = sg (a * v - u * c) := by
          unfold sg
          simp only [decide_eq_true_eq]
          split <;> split <;> split <;> split <;> omega
        have sn : sg (u * c - a * v) = -sg (a * v - u * c) := by
          unfold sg
          split <;> split <;> split <;> split <;> omega
        have sz : sg (a * c - a * c) = 0 := by
          rw [Int.sub_self]
          rfl
        have sb : ∀ n : Int, Sm 1900 (sg n) := fun n => by
          unfold sg
          split <;> split <;> exact Sm.of (b := 1) (by decide) (by decide) (by decide)
        have sbn : ∀ n : Int, Sm 1900 (-sg n) := fun n => by
          unfold sg
          split <;> split <;> exact Sm.of (b := 1) (by decide) (by decide) (by decide)
        have nLL : L2 ≠ L3 := fun z => by
          rw [← z, upd_same] at nL3
          cases nL3
        have fs : Fit (.list [.int (sg (a * v - u * c)), .int (-sg (a * v - u * c)), .int 0]) :=
          FitN.mono (FitN.list (k := 0) (n := 3) (.cons (.int (n := 0) (sb _)) (.cons (.int (n := 0) (sbn _)) (.cons (.int (n := 0) (Sm.of (b := 1) (by decide) (by decide) (by decide))) (.nil (n := 0)) (Nat.le_refl _)) (Nat.le_refl _)) (Nat.le_refl _))) (by decide) (by decide)
        refine ⟨.ref L2, .ref L3, .list [.int (sg (a * v - u * c)), .int (-sg (a * v - u * c)), .int 0], rfl, .lst (xs := [.int (sg (a * v - u * c)), .int (-sg (a * v - u * c)), .int 0]) (SqL.of ?_) (.cons (.int _) (.cons (.int _) (.cons (.int _) .nil))),
          .lst (xs := [.int (sg (a * v - u * c)), .int (-sg (a * v - u * c)), .int 0]) (SqL.of ?_) (.cons (.int _) (.cons (.int _) (.cons (.int _) .nil))), fs, ?_⟩
        · rw [upd_ne nLL, upd_same, sn, sz]
        · rw [upd_same]
          dsimp only
          rw [sd]
        · exact k _ (ext_same (ext_same e011 s12) ((same_new nL2).trans (same_new nL3))) ((T11.ext s12).ext ((same_new nL2).trans (same_new nL3)))
      · intro hc hQ
        have hu0 : u ≠ 0 := fun z => by
          rw [z] at hc
          exact absurd hc (by decide)
        rcases hx with ⟨z, _⟩ | ⟨_, e, r, rfl, he, hr'⟩
        · exact absurd z hu0
        refine ⟨.int a, rfl, .int v, rfl, a, v, rfl, rfl, za.w zv (by decide), .int c, rfl, .int u, rfl, c, u, rfl, rfl, zc.w zu (by decide), _, _, rfl, cu hu0, (zc.mul zu).mono (by decide), fun H12 y s12 n12 k12 => ?_⟩
        refine ⟨by show 1 ≤ sizeLine; decide, fun Y nY => hQ _ _ ⟨s12.trans (same_new nY), .list [dPr (low (a * v) (c * u))], ?_, ?_, fo hu0⟩⟩
        · exact .lst (SqL.of (same_new nY _ _ (s12 _ _ he))) (.cons ((hr'.same s12).same (same_new nY)).dp .nil)
        · exact .lst (SqL.of upd_same) (.cons (k12.same (same_new nY)).dp .nil)
      · intro hc hQ
        have hu0 : u = 0 := by
          by_cases z : u = 0
          · exact z
          · exact absurd (by rw [decide_eq_false (fun w => z (V.int.inj w))]; rfl) (Bool.eq_false_iff.mp hc)
        rcases hx with ⟨_, rfl⟩ | ⟨z, _⟩
        · exact hQ _ _ ⟨Same.refl _, .str "nought", .str _, .str _, fit_str _ (by decide +kernel) (by decide +kernel)⟩
        · exact absurd hu0 z
    · intro H10 E' Q' e10 T10 hE hQ
      have p10 : Pr H10 p (a, c) := (hp.same s08).ext e10
      have q10 : Pr H10 q (u, v) := (hq.same s08).ext e10
      refine ⟨.ref p, rfl, .ref q, rfl, p, q, a, c, u, v, rfl, p10, q10, za.mono (by decide), zc.mono (by decide), zu.mono (by decide), zv.mono (by decide), fun z => hE H10 (Same.refl _) fun e ne => ?_, fun z H' r s' n' k' => hQ _ _ fun e ne => ?_⟩
      · have hu0 : u = 0 := by
          rcases Int.mul_eq_zero.mp z with z | z
          · exact absurd z c0
          · exact z
        exact ⟨ext_same e10 (same_new ne), T10.ext (same_new ne), .inl ⟨hu0, rfl⟩⟩
      · have hu0 : u ≠ 0 := fun y => z (by rw [y, Int.mul_zero])
        exact ⟨ext_same (ext_same e10 s') (same_new ne), (T10.ext s').ext (same_new ne), .inr ⟨hu0, e, r, rfl, upd_same, k'.same (same_new ne)⟩⟩
end
end K08
namespace K08
open PySem PySem.Spec PyProof.Rows L2 Vk
/-- a value that both judges judge -/
def Kn (m : Addr) (H : Hp) (x : V) : Prop := x ≠ .ref m ∧ ((∃ t, Oky H x t ∧ t ≠ "tuple") ∨ ∃ a xs, x = .ref a ∧ H a = some (.tup xs) ∧ ∀ e ∈ xs, e ≠ .ref m ∧ ∃ t, Oky H e t)
theorem oky_but {m : Addr} {H H' : Hp} {x : V} {t : String} (h : Oky H x t) (n : x ≠ .ref m) (s : SameBut m H H') : Oky H' x t := by
  cases h with
  | non => exact .non
  | bl b => exact .bl b
  | int i => exact .int i
  | str x => exact .str x
  | lst e => exact .lst (s _ _ (fun z => n (by rw [z])) e)
  | tup e => exact .tup (s _ _ (fun z => n (by rw [z])) e)
  | dK e => exact .dK (s _ _ (fun z => n (by rw [z])) e)
theorem Kn.but {m : Addr} {H H' : Hp} {x : V} (h : Kn m H x) (s : SameBut m H H') : Kn m H' x := by
  obtain ⟨n, h | ⟨a, xs, rfl, ha, hes⟩⟩ := h
  · obtain ⟨t, ht, nt⟩ := h
    exact ⟨n, .inl ⟨t, oky_but ht n s, nt⟩⟩
  · exact ⟨n, .inr ⟨a, xs, rfl, s _ _ (fun z => n (by rw [z])) ha, fun e he => ⟨(hes e he).1, let ⟨t, ht⟩ := (hes e he).2; ⟨t, oky_but ht (hes e he).1 s⟩⟩⟩⟩
theorem Kn.same {m : Addr} {H H' : Hp} {x : V} (h : Kn m H x) (s : Same H H') : Kn m H' x := h.but (SameBut.of s)
theorem Kn.spIs {m : Addr} {H : Hp} {x : V} (h : Kn m H x) : ∃ b : Bool, ∀ Q E, Q (.bl b) H → spIs [x] H Q E := by
  obtain ⟨n, h | ⟨a, xs, rfl, ha, hes⟩⟩ := h
  · obtain ⟨t, ht, nt⟩ := h
    exact ⟨false, fun Q E q => ⟨x, rfl, .inl ⟨t, ht, nt, q⟩⟩⟩
  · exact ⟨frV xs, fun Q E q => ⟨_, rfl, .inr ⟨a, xs, rfl, ha, fun e he => (hes e he).2, q⟩⟩⟩
/-- a tuple of plain things -/
theorem Kn.tup {m a : Addr} {H : Hp} {xs : List V} (hm : ∃ kvs, H m = some (.dK kvs)) (ha : H a = some (.tup xs)) (h : ∀ e ∈ xs, e ≠ .ref m ∧ ∃ t, Oky H e t) : Kn m H (.ref a) := by
  obtain ⟨kvs, hm⟩ := hm
  exact ⟨fun z => ne_of ha hm (by intro w; cases w) (V.ref.inj z), .inr ⟨a, xs, rfl, ha, h⟩⟩
theorem plain_int {m : Addr} {H : Hp} (i : Int) : (V.int i) ≠ .ref m ∧ ∃ t, Oky H (.int i) t := ⟨(fun z => by cases z), _, .int i⟩
theorem plain_bl {m : Addr} {H : Hp} (i : Bool) : (V.bl i) ≠ .ref m ∧ ∃ t, Oky H (.bl i) t := ⟨(fun z => by cases z), _, .bl i⟩
theorem plain_str {m : Addr} {H : Hp} (i : Str) : (V.str i) ≠ .ref m ∧ ∃ t, Oky H (.str i) t := ⟨(fun z => by cases z), _, .str i⟩
theorem all1 {P : V → Prop} {x : V} (h1 : P x) : ∀ e ∈ [x], P e := fun e h => by
  rw [List.mem_singleton] at h
  rw [h]
  exact h1
theorem all2 {P : V → Prop} {x y : V} (h1 : P x) (h2 : P y) : ∀ e ∈ [x, y], P e := fun e h => by
  rcases List.mem_cons.mp h with rfl | h
  · exact h1
  · exact all1 h2 e h
theorem all3 {P : V → Prop} {x y z : V} (h1 : P x) (h2 : P y) (h3 : P z) : ∀ e ∈ [x, y] ++ [z], P e := fun e h => by
  rcases List.mem_append.mp h with h | h
  · exact all2 h1 h2 e h
  · exact all1 h3 e h
theorem allc {P : V → Prop} {x : V} {xs : List V} (h1 : P x) (h2 : ∀ e ∈ xs, P e) : ∀ e ∈ x :: xs, P e := fun e h => by
  rcases List.mem_cons.mp h with rfl | h
  · exact h1
  · exact h2 e h
theorem alla {P : V → Prop} {xs ys : List V} (h1 : ∀ e ∈ xs, P e) (h2 : ∀ e ∈ ys, P e) : ∀ e ∈ xs ++ ys, P e := fun e h => by
  rcases List.mem_append.mp h with h | h
  · exact h1 e h
  · exact h2 e h
theorem alln {P : V → Prop} : ∀ e ∈ ([] : List V), P e := fun e h => by cases h
abbrev s_vals : Stmt := topS 29
theorem sc_vals : FnScope ["m", "f", "some", "value_so"] ["m", "f"] (defScope s_vals) := ⟨rfl, rfl, rfl, by decide +kernel, rfl, by decide +kernel, by decide +kernel⟩
def spVals : Sp := fun vs H Q _ => ∃ (m r p : Addr) (n : Nat) (a c : Int), vs = [.ref m, .ref p] ∧ MOk H m r n ∧ n ≤ 70000 ∧ Pr H p (a, c) ∧ Sm 400 a ∧ Sm 400 c ∧
  ∀ H', SameBut m H H' → MOk H' m r (n + 2) → Q (.bl true) H'
section
variable {P : Program} {w : World} {K : PySem.W.Frag} {mg : Str → Option Value} {base : Heap}
theorem ok_vals {f : Addr} {fd : FuncData} (F : Fun K "_law_values_right" "_law_values_right" s_vals f fd) (C__law_draw : Cal P w K mg base 1 "_law_draw" ["m", "bound"] spDraw) (C_is_fraction : Cal P w K mg base 2 "is_fraction" ["value"] spIs)
    (C__law_is : Cal P w K mg base 2 "_law_is" ["value_so"] spIs) (C__law_like : CalG P w K mg base 1 "_law_like" ["got", "due"] (spLike K)) (m_list : mg "list" = none) (m_str : mg "str" = none) : FnG P w K mg base 3 f fd ["m", "f"] spVals := by
  have sc := sc_vals
  refine okG F sc (fun vs H Q E h => ?_) (fun cdv A outer s H vs Q E hG0 hr h => ?_)
  · obtain ⟨m, r, p, n, a, c, rfl, _⟩ := h
    rfl
  · obtain ⟨m, r, p, n, a, c, rfl, hM, hn, hp, za, zc, k⟩ := h
    have hG : Quiet (cxOf CX0 P w K mg base ["m", "f", "some", "value_so"] "_law_values_right" (defScope s_vals) f cdv A outer s H E).nox.A := hG0.deeper _
    refine ⟨_, (pss_cons (ps_set (i := 2) sc.nd rfl (Or.inl rfl) (pe_lst (pa_cons (pv 1) (pa_cons (pe_callTy call_list_of (by rfl) m_list (by decide +kernel) (pa_cons (pv 1) pa_nil)) (pa_cons (pe_slice sl_tup (pv 1) po_none (po_some pe_int)) (pa_cons (pe_op op_catT (pv 1) (pe_tup (pa_cons pe_int pa_nil))) (pa_cons (pe_tup (pa_cons (pe_op op_mul (pe_ix ix_tup (pv 1) pe_int (fun _ _ => rfl)) pe_int) (pa_cons (pe_op op_mul (pe_ix ix_tup (pv 1) pe_int (fun _ _ => rfl)) pe_int) pa_nil))) (pa_cons (pe_tup (pa_cons (pe_un un_neg (pe_ix ix_tup (pv 1) pe_int (fun _ _ => rfl))) (pa_cons (pe_un un_neg (pe_ix ix_tup (pv 1) pe_int (fun _ _ => rfl))) pa_nil))) (pa_cons (pe_tup (pa_cons (pe_ix ix_tup (pv 1) pe_int (fun _ _ => rfl)) (pa_cons pe_int pa_nil))) (pa_cons pe_non (pa_cons pe_int (pa_cons pe_str pa_nil))))))))))))
    (pss_cons (ps_set (i := 2) sc.nd rfl (Or.inl rfl) (pe_op op_cat (pv 2) (pe_lst (pa_cons (pe_tup (pa_cons pe_bl (pa_cons pe_int pa_nil))) (pa_cons (pe_tup (pa_cons pe_int (pa_cons pe_int pa_nil))) (pa_cons (pe_tup (pa_cons (pe_ix ix_tup (pv 1) pe_int (fun _ _ => rfl)) (pa_cons pe_bl pa_nil))) (pa_cons (pe_tup (pa_cons pe_int (pa_cons pe_int pa_nil))) (pa_cons (pe_tup (pa_cons pe_int (pa_cons (pe_un un_neg pe_int) pa_nil))) (pa_cons (pe_tup (pa_cons (pe_callTy call_str_int (by rfl) m_str (by decide +kernel) (pa_cons (pe_ix ix_tup (pv 1) pe_int (fun _ _ => rfl)) pa_nil)) (pa_cons (pe_ix ix_tup (pv 1) pe_int (fun _ _ => rfl)) pa_nil))) (pa_cons (pe_tup (pa_cons (pe_tup (pa_cons pe_int (pa_cons pe_int pa_nil))) (pa_cons pe_int pa_nil))) (pa_cons (pe_tup pa_nil) (pa_cons pe_dnewK pa_nil))))))))))))
    (pss_cons (ps_expr (pe_bm PySem.F.plainAttrs_list PySem.F.slot_list_append PySem.F.type_list_append mt_append (pv 2) (pa_cons (pe_tup (pa_cons (call_ C__law_draw (hr.mono (by decide)) (by rfl) (pa_cons (pv 0) (pa_cons pe_int pa_nil))) (pa_cons (pe_op op_add pe_int (call_ C__law_draw (hr.mono (by decide)) (by rfl) (pa_cons (pv 0) (pa_cons pe_int pa_nil)))) pa_nil))) pa_nil)))
    (pss_one (ps_ret (pe_cmpR (op_eqD hr.units) (pe_lc (own := [("value_so", 3)]) (g := gName 3) (by rfl) sc.nd (pi_list (pv 2)) (blkOk_by (own := [("value_so", 3)]) (N := ["m", "f", "some", "value_so"]) (sc := defScope s_vals) (by decide +kernel)) (fun _ _ _ _ _ => pg_name (i := 3) sc.nd rfl (Or.inl rfl)) (fun _ _ _ _ _ => (pts_one (pt_not (pt_val (callG hG C__law_like (hr.mono (by decide)) (by rfl) (pa_cons (call_ C_is_fraction (hr.mono (by decide)) (by rfl) (pa_cons (pv 3) pa_nil)) (pa_cons (call_ C__law_is (hr.mono (by decide)) (by rfl) (pa_cons (pv 3) pa_nil)) pa_nil))))))) (fun _ _ _ _ _ => (pv 3))) (pe_lst pa_nil) (nomark _))))))), ?_⟩
    have hm : ∃ kvs, H m = some (.dK kvs) := by
      obtain ⟨L, sd, sp, cells, h1, _⟩ := hM
      exact ⟨_, h1⟩
    have mm : ∀ {H' : Hp}, Same H H' → ∃ kvs, H' m = some (.dK kvs) := fun s => let ⟨kvs, h⟩ := hm; ⟨kvs, s _ _ h⟩
    have K1 : Kn m H (.ref p) := .tup hm hp (all2 (plain_int _) (plain_int _))
    refine ⟨.ref p, rfl, .ref p, rfl, p, _, rfl, .inr (SqT.of hp), fun l2 n2 => ?_⟩
    have s1 : Same H (upd H l2 (.lst [.int a, .int c])) := same_new n2
    have g2 : upd H l2 (.lst [.int a, .int c]) l2 = some (.lst [.int a, .int c]) := upd_same
    generalize upd H l2 (.lst [.int a, .int c]) = H1 at s1 g2 ⊢
    have K2 : Kn m H1 (.ref l2) := ⟨fun z => (let ⟨kvs, h⟩ := mm s1; ne_of g2 h (by intro w; cases w)) (V.ref.inj z), .inl ⟨_, .lst g2, by decide⟩⟩
    have cut : cutV [V.int a, V.int c] none (some 1) = [.int a] := rfl
    refine ⟨.ref p, rfl, 1, rfl, p, _, rfl, SqT.of (hp.same s1), (by intro z; exact absurd z.2 (by show ¬ (1 : Nat) = 2; decide)), fun l3 n3 => ?_⟩
    rw [cut]
    have t1 : Same H H1 := s1
    have s2 : Same H1 (upd H1 l3 (.tup [.int a])) := same_new n3
    have g3 : upd H1 l3 (.tup [.int a]) l3 = some (.tup [.int a]) := upd_same
    generalize upd H1 l3 (.tup [.int a]) = H2 at s2 g3 ⊢
    have t2 := t1.trans s2
    have K3 : Kn m H2 (.ref l3) := .tup (mm t2) g3 (all1 (plain_int _))
    have p2 : SqT K H2 p [.int a, .int c] := SqT.of (hp.same t2)
    refine ⟨.ref p, rfl, by show 1 ≤ sizeLine; decide, fun l40 n40 => ?_⟩
    have s3 : Same H2 (upd H2 l40 (.tup [.int 1])) := same_new n40
    have g40 : upd H2 l40 (.tup [.int 1]) l40 = some (.tup [.int 1]) := upd_same
    generalize upd H2 l40 (.tup [.int 1]) = H3 at s3 g40 ⊢
    have t3 := t2.trans s3
    have K40 : Kn m H3 (.ref l40) := .tup (mm t3) g40 (all1 (plain_int _))
    refine ⟨p, l40, [.int a, .int c], [.int 1], rfl, rfl, SqT.of (hp.same t3), SqT.of g40, by simp, by show 3 ≤ sizeLine; decide, fun z => absurd z (by simp), fun _ l4 n4 => ?_⟩
    have s4 : Same H3 (upd H3 l4 (.tup ([.int a, .int c] ++ [.int 1]))) := same_new n4
    have g4 : upd H3 l4 (.tup ([.int a, .int c] ++ [.int 1])) l4 = some (.tup ([.int a, .int c] ++ [.int 1])) := upd_same
    generalize upd H3 l4 (.tup ([.int a, .int c] ++ [.int 1])) = H4 at s4 g4 ⊢
    have t4 := t3.trans s4
    have K4 : Kn m H4 (.ref l4) := .tup (mm t4) g4 (all3 (plain_int _) (plain_int _) (plain_int _))
    refine ⟨.ref p, rfl, p, _, 0, _, rfl, rfl, SqT.of (hp.same t4), at0, a, 2, rfl, rfl, .inr ⟨by decide, by decide⟩, .ref p, rfl, p, _, 1, _, rfl, rfl, SqT.of (hp.same t4), at1, c, 2, rfl, rfl, .inr ⟨by decide, by decide⟩, by show 2 ≤ sizeLine; decide, fun l5 n5 => ?_⟩
    have s5 : Same H4 (upd H4 l5 (.tup [.int (a * 2), .int (c * 2)])) := same_new n5
    have g5 : upd H4 l5 (.tup [.int (a * 2), .int (c * 2)]) l5 = some (.tup [.int (a * 2), .int (c * 2)]) := upd_same
    generalize upd H4 l5 (.tup [.int (a * 2), .int (c * 2)]) = H5 at s5 g5 ⊢
    have t5 := t4.trans s5
    have K5 : Kn m H5 (.ref l5) := .tup (mm t5) g5 (all2 (plain_int _) (plain_int _))
    refine ⟨.ref p, rfl, p, _, 0, _, rfl, rfl, SqT.of (hp.same t5), at0, a, rfl, .ref p, rfl, p, _, 1, _, rfl, rfl, SqT.of (hp.same t5), at1, c, rfl, by show 2 ≤ sizeLine; decide, fun l6 n6 => ?_⟩
    have s6 : Same H5 (upd H5 l6 (.tup [.int (-a), .int (-c)])) := same_new n6
    have g6 : upd H5 l6 (.tup [.int (-a), .int (-c)]) l6 = some (.tup [.int (-a), .int (-c)]) := upd_same
    generalize upd H5 l6 (.tup [.int (-a), .int (-c)]) = H6 at s6 g6 ⊢
    have t6 := t5.trans s6
    have K6 : Kn m H6 (.ref l6) := .tup (mm t6) g6 (all2 (plain_int _) (plain_int _))
    refine ⟨.ref p, rfl, p, _, 0, _, rfl, rfl, SqT.of (hp.same t6), at0, by show 2 ≤ sizeLine; decide, fun l7 n7 => ?_⟩
    have s7 : Same H6 (upd H6 l7 (.tup [.int a, .int 0])) := same_new n7
    have g7 : upd H6 l7 (.tup [.int a, .int 0]) l7 = some (.tup [.int a, .int 0]) := upd_same
    generalize upd H6 l7 (.tup [.int a, .int 0]) = H7 at s7 g7 ⊢
    have t7 := t6.trans s7
    have K7 : Kn m H7 (.ref l7) := .tup (mm t7) g7 (all2 (plain_int _) (plain_int _))
    refine ⟨by show 10 ≤ sizeLine; decide, fun L1 nL1 => ?_⟩
    have s8 : Same H7 (upd H7 L1 (.lst [.ref p, .ref l2, .ref l3, .ref l4, .ref l5, .ref l6, .ref l7, .non, .int 7, .str "1"])) := same_new nL1
    have gL1 : upd H7 L1 (.lst [.ref p, .ref l2, .ref l3, .ref l4, .ref l5, .ref l6, .ref l7, .non, .int 7, .str "1"]) L1 = some (.lst [.ref p, .ref l2, .ref l3, .ref l4, .ref l5, .ref l6, .ref l7, .non, .int 7, .str "1"]) := upd_same
    generalize upd H7 L1 (.lst [.ref p, .ref l2, .ref l3, .ref l4, .ref l5, .ref l6, .ref l7, .non, .int 7, .str "1"]) = H8 at s8 gL1 ⊢
    have t8 := t7.trans s8
    refine ⟨.ref L1, rfl, by show 2 ≤ sizeLine; decide, fun l11 n11 => ?_⟩
    have s9 : Same H8 (upd H8 l11 (.tup [.bl true, .int 1])) := same_new n11
    have g11 : upd H8 l11 (.tup [.bl true, .int 1]) l11 = some (.tup [.bl true, .int 1]) := upd_same
    generalize upd H8 l11 (.tup [.bl true, .int 1]) = H9 at s9 g11 ⊢
    have t9 := t8.trans s9
    have K11 : Kn m H9 (.ref l11) := .tup (mm t9) g11 (all2 (plain_bl _) (plain_int _))
    refine ⟨by show 2 ≤ sizeLine; decide, fun l12 n12 => ?_⟩
    have s10 : Same H9 (upd H9 l12 (.tup [.int 0, .int 2])) := same_new n12
    have g12 : upd H9 l12 (.tup [.int 0, .int 2]) l12 = some (.tup [.int 0, .int 2]) := upd_same
    generalize upd H9 l12 (.tup [.int 0, .int 2]) = H10 at s10 g12 ⊢
    have t10 := t9.trans s10
    have K12 : Kn m H10 (.ref l12) := .tup (mm t10) g12 (all2 (plain_int _) (plain_int _))
    refine ⟨.ref p, rfl, p, _, 0, _, rfl, rfl, SqT.of (hp.same t10), at0, by show 2 ≤ sizeLine; decide, fun l13 n13 => ?_⟩
    have s11 : Same H10 (upd H10 l13 (.tup [.int a, .bl true])) := same_new n13
    have g13 : upd H10 l13 (.tup [.int a, .bl true]) l13 = some (.tup [.int a, .bl true]) := upd_same
    generalize upd H10 l13 (.tup [.int a, .bl true]) = H11 at s11 g13 ⊢
    have t11 := t10.trans s11
    have K13 : Kn m H11 (.ref l13) := .tup (mm t11) g13 (all2 (plain_int _) (plain_bl _))
    refine ⟨by show 2 ≤ sizeLine; decide, fun l14 n14 => ?_⟩
    have s12 : Same H11 (upd H11 l14 (.tup [.int 0, .int 1])) := same_new n14
    have g14 : upd H11 l14 (.tup [.int 0, .int 1]) l14 = some (.tup [.int 0, .int 1]) := upd_same
    generalize upd H11 l14 (.tup [.int 0, .int 1]) = H12 at s12 g14 ⊢
    have t12 := t11.trans s12
    have K14 : Kn m H12 (.ref l14) := .tup (mm t12) g14 (all2 (plain_int _) (plain_int _))
    refine ⟨1, rfl, by show 2 ≤ sizeLine; decide, fun l15 n15 => ?_⟩
    have s13 : Same H12 (upd H12 l15 (.tup [.int 1, .int (-1)])) := same_new n15
    have g15 : upd H12 l15 (.tup [.int 1, .int (-1)]) l15 = some (.tup [.int 1, .int (-1)]) := upd_same
    generalize upd H12 l15 (.tup [.int 1, .int (-1)]) = H13 at s13 g15 ⊢
    have t13 := t12.trans s13
    have K15 : Kn m H13 (.ref l15) := .tup (mm t13) g15 (all2 (plain_int _) (plain_int _))
    refine ⟨.ref p, rfl, p, _, 0, _, rfl, rfl, SqT.of (hp.same t13), at0, a, rfl, Nat.lt_trans (PySem.Flt.log2_lt_of (by decide) za) (by decide), .ref p, rfl, p, _, 1, _, rfl, rfl, SqT.of (hp.same t13), at1, by show 2 ≤ sizeLine; decide, fun l16 n16 => ?_⟩
    have s14 : Same H13 (upd H13 l16 (.tup [.str (toString a), .int c])) := same_new n16
    have g16 : upd H13 l16 (.tup [.str (toString a), .int c]) l16 = some (.tup [.str (toString a), .int c]) := upd_same
    generalize upd H13 l16 (.tup [.str (toString a), .int c]) = H14 at s14 g16 ⊢
    have t14 := t13.trans s14
    have K16 : Kn m H14 (.ref l16) := .tup (mm t14) g16 (all2 (plain_str _) (plain_int _))
    refine ⟨by show 2 ≤ sizeLine; decide, fun l170 n170 => ?_⟩
    have s15 : Same H14 (upd H14 l170 (.tup [.int 1, .int 2])) := same_new n170
    have g170 : upd H14 l170 (.tup [.int 1, .int 2]) l170 = some (.tup [.int 1, .int 2]) := upd_same
    generalize upd H14 l170 (.tup [.int 1, .int 2]) = H15 at s15 g170 ⊢
    have t15 := t14.trans s15
    have K170 : Kn m H15 (.ref l170) := .tup (mm t15) g170 (all2 (plain_int _) (plain_int _))
    refine ⟨by show 2 ≤ sizeLine; decide, fun l17 n17 => ?_⟩
    have o17 : ∀ {H' : Hp}, Same H15 H' → (V.ref l170) ≠ .ref m ∧ ∃ t, Oky H' (.ref l170) t := fun s => ⟨K170.1, _, .tup (s _ _ g170)⟩
    have s16 : Same H15 (upd H15 l17 (.tup [.ref l170, .int 3])) := same_new n17
    have g17 : upd H15 l17 (.tup [.ref l170, .int 3]) l17 = some (.tup [.ref l170, .int 3]) := upd_same
    generalize upd H15 l17 (.tup [.ref l170, .int 3]) = H16 at s16 g17 ⊢
    have t16 := t15.trans s16
    have K17 : Kn m H16 (.ref l17) := .tup (mm t16) g17 (all2 (o17 s16) (plain_int _))
    refine ⟨by show 0 ≤ sizeLine; decide, fun l18 n18 => ?_⟩
    have s17 : Same H16 (upd H16 l18 (.tup [])) := same_new n18
    have g18 : upd H16 l18 (.tup []) l18 = some (.tup []) := upd_same
    generalize upd H16 l18 (.tup []) = H17 at s17 g18 ⊢
    have t17 := t16.trans s17
    have K18 : Kn m H17 (.ref l18) := .tup (mm t17) g18 (fun e h => by cases h)
    intro l19 n19
    have s18 : Same H17 (upd H17 l19 (.dK [])) := same_new n19
    have g19 : upd H17 l19 (.dK []) l19 = some (.dK []) := upd_same
    have m19 : l19 ≠ m := fun z => by
      obtain ⟨kvs, h⟩ := mm t17
      rw [← z, n19] at h
      cases h
    generalize upd H17 l19 (.dK []) = H18 at s18 g19 ⊢
    have t18 := t17.trans s18
    have K19 : Kn m H18 (.ref l19) := ⟨fun z => m19 (V.ref.inj z), .inl ⟨_, .dK g19, by decide⟩⟩
    refine ⟨by show 9 ≤ sizeLine; decide, fun L2 nL2 => ?_⟩
    have s19 : Same H18 (upd H18 L2 (.lst [.ref l11, .ref l12, .ref l13, .ref l14, .ref l15, .ref l16, .ref l17, .ref l18, .ref l19])) := same_new nL2
    have gL2 : upd H18 L2 (.lst [.ref l11, .ref l12, .ref l13, .ref l14, .ref l15, .ref l16, .ref l17, .ref l18, .ref l19]) L2 = some (.lst [.ref l11, .ref l12, .ref l13, .ref l14, .ref l15, .ref l16, .ref l17, .ref l18, .ref l19]) := upd_same
    generalize upd H18 L2 (.lst [.ref l11, .ref l12, .ref l13, .ref l14, .ref l15, .ref l16, .ref l17, .ref l18, .ref l19]) = H19 at s19 gL2 ⊢
    have t19 := t18.trans s19
    have N1 : ∀ e ∈ ([.ref p, .ref l2, .ref l3, .ref l4, .ref l5, .ref l6, .ref l7, .non, .int 7, .str "1"] : List V), Kn m H19 e := (allc ((K1.same (H' := H19) (t18.trans s19))) (allc ((K2.same (H' := H19) (((((((((((((((((s2.trans s3).trans s4).trans s5).trans s6).trans s7).trans s8).trans s9).trans s10).trans s11).trans s12).trans s13).trans s14).trans s15).trans s16).trans s17).trans s18).trans s19))) (allc ((K3.same (H' := H19) ((((((((((((((((s3.trans s4).trans s5).trans s6).trans s7).trans s8).trans s9).trans s10).trans s11).trans s12).trans s13).trans s14).trans s15).trans s16).trans s17).trans s18).trans s19))) (allc ((K4.same (H' := H19) ((((((((((((((s5.trans s6).trans s7).trans s8).trans s9).trans s10).trans s11).trans s12).trans s13).trans s14).trans s15).trans s16).trans s17).trans s18).trans s19))) (allc ((K5.same (H' := H19) (((((((((((((s6.trans s7).trans s8).trans s9).trans s10).trans s11).trans s12).trans s13).trans s14).trans s15).trans s16).trans s17).trans s18).trans s19))) (allc ((K6.same (H' := H19) ((((((((((((s7.trans s8).trans s9).trans s10).trans s11).trans s12).trans s13).trans s14).trans s15).trans s16).trans s17).trans s18).trans s19))) (allc ((K7.same (H' := H19) (((((((((((s8.trans s9).trans s10).trans s11).trans s12).trans s13).trans s14).trans s15).trans s16).trans s17).trans s18).trans s19))) (allc ⟨(fun z => by cases z), .inl ⟨_, .non, by decide⟩⟩ (allc ⟨(fun z => by cases z), .inl ⟨_, .int _, by decide⟩⟩ (allc ⟨(fun z => by cases z), .inl ⟨_, .str _, by decide⟩⟩ alln))))))))))
    have N2 : ∀ e ∈ ([.ref l11, .ref l12, .ref l13, .ref l14, .ref l15, .ref l16, .ref l17, .ref l18, .ref l19] : List V), Kn m H19 e := (allc (K11.same (H' := H19) (((((((((s10.trans s11).trans s12).trans s13).trans s14).trans s15).trans s16).trans s17).trans s18).trans s19)) (allc (K12.same (H' := H19) ((((((((s11.trans s12).trans s13).trans s14).trans s15).trans s16).trans s17).trans s18).trans s19)) (allc (K13.same (H' := H19) (((((((s12.trans s13).trans s14).trans s15).trans s16).trans s17).trans s18).trans s19)) (allc (K14.same (H' := H19) ((((((s13.trans s14).trans s15).trans s16).trans s17).trans s18).trans s19)) (allc (K15.same (H' := H19) (((((s14.trans s15).trans s16).trans s17).trans s18).trans s19)) (allc (K16.same (H' := H19) ((((s15.trans s16).trans s17).trans s18).trans s19)) (allc (K17.same (H' := H19) ((s17.trans s18).trans s19)) (allc (K18.same (H' := H19) (s18.trans s19)) (allc (K19.same (H' := H19) s19) alln)))))))))
    have gL1' : H19 L1 = some (.lst [.ref p, .ref l2, .ref l3, .ref l4, .ref l5, .ref l6, .ref l7, .non, .int 7, .str "1"]) := ((((((((((s9.trans s10).trans s11).trans s12).trans s13).trans s14).trans s15).trans s16).trans s17).trans s18).trans s19) _ _ gL1
    refine ⟨L1, L2, _, _, rfl, rfl, gL1', gL2, by show 19 ≤ sizeLine; decide, fun S nS => ?_⟩
    have N := alla N1 N2
    generalize hxs : ([.ref p, .ref l2, .ref l3, .ref l4, .ref l5, .ref l6, .ref l7, .non, .int 7, .str "1"] ++ [.ref l11, .ref l12, .ref l13, .ref l14, .ref l15, .ref l16, .ref l17, .ref l18, .ref l19] : List V) = xs at N ⊢
    have lxs : xs.length = 19 := by rw [← hxs]; rfl
    clear hxs
    have s20 : Same H19 (upd H19 S (.lst xs)) := same_new nS
    have gS : upd H19 S (.lst xs) S = some (.lst xs) := upd_same
    have mS : S ≠ m := fun z => by
      obtain ⟨kvs, h⟩ := mm t19
      rw [← z, nS] at h
      cases h
    generalize upd H19 S (.lst xs) = H20 at s20 gS ⊢
    refine ⟨.ref S, rfl, .inl ⟨rfl, _, SqL.of gS⟩, .ref m, rfl, m, r, n, 9, rfl, hM.same (t19.trans s20), by omega, by decide, by decide, fun H21 v1 b21 M21 _ _ => ?_⟩
    refine ⟨.ref m, rfl, m, r, n + 1, 9, rfl, M21, by omega, by decide, by decide, fun H22 v2 b22 M22 _ _ => ⟨1, v2, rfl, rfl, by show 2 ≤ sizeLine; decide, fun l20 n20 => ?_⟩⟩
    have s23 : Same H22 (upd H22 l20 (.tup [.int v1, .int (1 + v2)])) := same_new n20
    have g20 : upd H22 l20 (.tup [.int v1, .int (1 + v2)]) l20 = some (.tup [.int v1, .int (1 + v2)]) := upd_same
    have S22 : H22 S = some (.lst xs) := b22 _ _ mS (b21 _ _ mS gS)
    have l20S : l20 ≠ S := fun z => by
      rw [z, S22] at n20
      cases n20
    generalize upd H22 l20 (.tup [.int v1, .int (1 + v2)]) = H23 at s23 g20 ⊢
    have S23 : H23 S = some (.lst xs) := s23 _ _ S22
    refine ⟨S, xs, .ref l20, rfl, rfl, S23, by rw [lxs]; decide, ?_⟩
    have B : SameBut m H19 (upd H23 S (.lst (xs ++ [.ref l20]))) := fun b o hb e => by
      rw [upd_ne (ne_of_none e nS)]
      exact s23 _ _ (b22 _ _ hb (b21 _ _ hb (s20 _ _ e)))
    have BM : SameBut m H (upd H23 S (.lst (xs ++ [.ref l20]))) := (SameBut.of t19).trans B
    have M24 : MOk (upd H23 S (.lst (xs ++ [.ref l20]))) m r (n + 2) := by
      obtain ⟨L, sd, sp, cells, q1, q2, q3⟩ := M22.same s23
      have cS : r ≠ S := by
        obtain ⟨_, _, _, cells', _, q, _⟩ := hM.same t19
        exact ne_of_none q nS
      refine ⟨L, sd, sp, cells, ?_, ?_, q3⟩
      · rw [upd_ne (Ne.symm mS)]
        exact q1
      · rw [upd_ne cS]
        exact q2
    have G24 : upd H23 S (.lst (xs ++ [.ref l20])) S = some (.lst (xs ++ [.ref l20])) := upd_same
    have G20 : upd H23 S (.lst (xs ++ [.ref l20])) l20 = some (.tup [.int v1, .int (1 + v2)]) := by
      rw [upd_ne l20S]
      exact g20
    generalize upd H23 S (.lst (xs ++ [.ref l20])) = H24 at B BM M24 G24 G20 ⊢
    have m24 : ∃ kvs, H24 m = some (.dK kvs) := by
      obtain ⟨L, sd, sp, cells, q1, _⟩ := M24
      exact ⟨_, q1⟩
    have NN : ∀ e ∈ xs ++ [.ref l20], Kn m H24 e := alla (fun e he => (N e he).but B) (all1 (.tup m24 G20 (all2 (plain_int _) (plain_int _))))
    generalize xs ++ [.ref l20] = zs at NN G24
    refine ⟨.ref S, rfl, S, rfl, ⟨_, SqL.of G24⟩, fun D nD => ?_⟩
    have SD : S ≠ D := ne_of_none G24 nD
    have sD : Same H24 (upd H24 D (.lst [])) := same_new nD
    have gD : upd H24 D (.lst []) D = some (.lst ([] : List V)) := upd_same
    refine lc_list (K := K) (a := S) (xs := zs) (fun i H' => H' = upd H24 D (.lst [])) rfl ?_ ?_ ?_
    · rintro i H' _ rfl
      exact SqL.of (sD _ _ G24)
    · rintro i x H' hx rfl
      obtain ⟨b, hb⟩ := ((NN x (List.mem_of_getElem? hx)).same sD).spIs
      refine ⟨rfl, x, rfl, ?_⟩
      unfold tNil
      refine hb _ _ ?_
      refine ⟨x, rfl, ?_⟩
      refine hb _ _ ?_
      exact ⟨.bl b, .bl b, .bool b, rfl, .bl b, .bl b, FitN.bl b, _, rfl, iteF rfl⟩
    · rintro H' rfl
      refine ⟨Nat.zero_le _, fun e ne => ⟨.list [], .list [], .lst (SqL.of (same_new ne _ _ gD)) .nil, .lst (SqL.of upd_same) .nil, shaped_ints [], shaped_ints [], ?_⟩⟩
      exact k _ ((BM.trans (SameBut.of sD)).trans (SameBut.of (same_new ne))) ((M24.same sD).same (same_new ne))
end
end K08
namespace K08
open PySem PySem.Spec PyProof.Rows L2 Vk
theorem MOk.ext {H H' : Hp} {m r : Addr} {n : Nat} (h : MOk H m r n) (e : LamX.ExtN H H') : MOk H' m r n := by
  obtain ⟨L, sd, sp, cells, h1, h2, h3⟩ := h
  exact ⟨L, sd, sp, cells, e _ _ h1 (fun ps z => by cases z), e _ _ h2 (fun ps z => by cases z), h3⟩
theorem sql_ext {K : PySem.W.Frag} {H H' : Hp} {a : Addr} {xs : List V} (h : SqL K H a xs) (e : LamX.ExtN H H') : SqL K H' a xs := by
  rcases h with (h | ⟨o, h⟩) | h
  · exact .inl (.inl (e _ _ h fun ps z => by cases z))
  · exact .inl (.inr ⟨o, e _ _ h fun ps z => by cases z⟩)
  · exact .inr h
theorem ext_but {H H1 H2 : Hp} {m : Addr} (hm : H m = none) (a : LamX.ExtN H H1) (b : SameBut m H1 H2) : LamX.ExtN H H2 := fun c o h n => b c o (ne_of_none h hm) (a c o h n)
theorem tabs_but {T : List (Addr × Str)} {H H' : Hp} {m : Addr} {kvs : List (Key × V)} (hT : LamX.Tabs T H) (hm : H m = some (.dK kvs)) (s : SameBut m H H') : LamX.Tabs T H' := fun p hp => by
  obtain ⟨ps, h1, h2, h3⟩ := hT p hp
  refine ⟨ps, s _ _ (ne_of h1 hm (by intro z; cases z)) h1, h2, fun pos cv hc => ?_⟩
  obtain ⟨c, e1, e2⟩ := h3 pos cv hc
  exact ⟨c, e1, s _ _ (ne_of e2 hm (by intro z; unfold LamX.CodeO at z; cases z)) e2⟩
theorem Pr.but {H H' : Hp} {m p : Addr} {kvs : List (Key × V)} {x : Int × Int} (h : Pr H p x) (hm : H m = some (.dK kvs)) (s : SameBut m H H') : Pr H' p x := s _ _ (ne_of h hm (by intro z; cases z)) h
theorem fit3 {x y z : Int × Int} (h1 : Sm 1900 x.1) (h2 : Sm 1900 x.2) (h3 : Sm 1900 y.1) (h4 : Sm 1900 y.2) (h5 : Sm 1900 z.1) (h6 : Sm 1900 z.2) : Fit (.list [dPr x, dPr y, dPr z]) :=
  FitN.mono (FitN.list (k := 1) (n := 9) (.cons (fit_dPr (k := 0) h1 h2) (.cons (fit_dPr (k := 0) h3 h4) (.cons (fit_dPr (k := 0) h5 h6) (.nil (n := 0)) (Nat.le_refl _)) (Nat.le_refl _)) (Nat.le_refl _))) (by decide) (by decide)
theorem dp3 {K : PySem.W.Frag} {H : Hp} {L p q r : Addr} {x y z : Int × Int} (h : H L = some (.lst [.ref p, .ref q, .ref r])) (h1 : Pr H p x) (h2 : Pr H q y) (h3 : Pr H r z) : Dp K H (.ref L) (.list [dPr x, dPr y, dPr z]) :=
  .lst (SqL.of h) (.cons h1.dp (.cons h2.dp (.cons h3.dp .nil)))
theorem iteF' {c : Bool} {A B : Prop} (hc : c = false) (h : B) : if c = true then A else B := by
  subst hc
  exact iteF h
theorem sm1 (n : Nat) : Sm (n + 1) 1 := by
  unfold Sm
  have : 2 ^ (n + 1) = 2 * 2 ^ n := by rw [Nat.pow_succ, Nat.mul_comm]
  have := Nat.two_pow_pos n
  show 1 < _
  omega
theorem sm0 (n : Nat) : Sm n 0 := Nat.two_pow_pos n
abbrev s_law : Stmt := topS 30
theorem sc_law : FnScope ["script", "turn", "m", "c", "u", "v", "f", "g", "a"] ["script"] (defScope s_law) := ⟨rfl, rfl, rfl, by decide +kernel, rfl, by decide +kernel, by decide +kernel⟩
def spLaw (T : List (Addr × Str)) (K : PySem.W.Frag) : Sp := fun vs H Q _ => ∃ (a : Addr) (ns : List Int), vs = [.ref a] ∧ SqL K H a (ns.map V.int) ∧ ns.length ≤ 63 ∧ LamX.Tabs T H ∧ ∀ H', Q (.bl true) H'
section
variable {P : Program} {w : World} {K : PySem.W.Frag} {mg : Str → Option Value} {base : Heap}
theorem ok_law {f c1 P1 gH CT CB CN : Addr} {T : List (Addr × Str)} {oc kV doc pm ct : Value} {od an : Option Addr} {osl : Array (Option Value)}
    (lk : K.lookup f = some ⟨oc, od, .func (PySem.W.fnOf "law" "law" (defArgs s_law) (defBody s_law) (defScope s_law) .none kV doc pm an (.ref c1) ct), osl⟩) (hcd : PySem.W.codeIn K (.ref c1) "law" = true)
    (TB : LamX.TabB base mg c1 P1) (hT : (P1, ("law.<locals>.<lambda>" : Str)) ∈ T) (hu : ∀ p ∈ T, p.1 = P1 → p.2 = "law.<locals>.<lambda>") (HF : HeardF K mg gH) (X : Exs K mg CT CB CN)
    (C__law_begun : Cal P w K mg base 1 "_law_begun" ["script", "k_so"] (spBegun K)) (C__law_drawn_pair : Cal P w K mg base 3 "_law_drawn_pair" ["m"] spPair)
    (C__law_lowest : Cal P w K mg base 2 "_law_lowest" ["a", "c"] spFrac) (C_fraction : Cal P w K mg base 1 "fraction" ["a", "b"] spFrac) (C_floor_of : Cal P w K mg base 1 "floor_of" ["f"] spFloor)
    (C_plus : Cal P w K mg base 2 "plus" ["f", "g"] (spTwo (fun a c u v => a * v + u * c) (fun _ c _ v => c * v))) (C_minus : Cal P w K mg base 2 "minus" ["f", "g"] (spTwo (fun a c u v => a * v - u * c) (fun _ c _ v => c * v)))
    (C_times : Cal P w K mg base 2 "times" ["f", "g"] (spTwo (fun a _ u _ => a * u) (fun _ c _ v => c * v))) (C_over : Cal P w K mg base 2 "over" ["f", "g"] (spTwo (fun a _ _ v => a * v) (fun _ c u _ => c * u)))
    (C__law_like : CalG P w K mg base 1 "_law_like" ["got", "due"] (spLike K)) (C__law_two_right : CalG P w K mg base 6 "_law_two_right" ["f", "g"] (spRight T)) (C__law_values_right : CalG P w K mg base 3 "_law_values_right" ["m", "f"] spVals)
    (CX_fraction : CalX P w K mg base 1 "fraction" ["a", "b"] (spFracX CB)) (m_isinstance : mg "isinstance" = none) (m_ValueError : mg "ValueError" = none) (m_range : mg "range" = none) :
    FnG P w K mg base 7 f (PySem.W.fnOf "law" "law" (defArgs s_law) (defBody s_law) (defScope s_law) .none kV doc pm an (.ref c1) ct) ["script"] (spLaw T K) := by
  have sc := sc_law
  refine fnG_of lk hcd sc (fun vs H Q E h => ?_) (fun A outer s H vs Q E hG0 hr h => ?_)
  · obtain ⟨a, ns, rfl, _⟩ := h
    rfl
  · obtain ⟨a0, ns, rfl, hS, hl, hTab, k⟩ := h
    have hG : Quiet (cxOf CX0 P w K mg base ["script", "turn", "m", "c", "u", "v", "f", "g", "a"] "law" (defScope s_law) f (.ref c1) A outer s H E).nox.A := hG0.deeper _
    obtain ⟨gH1, gH2, ocH, kVH, docH, pmH, cdvH, ctH, odH, anH, oslH, lkH, hcH, bH⟩ := HF
    obtain ⟨fX, fdX, FX, gX, kX, bX⟩ := CX_fraction
    refine ⟨_, (pss_cons (ps_for PassesOwn.never rfl (pi_range1 rfl m_range (pa_cons pe_int pa_nil)) (pg_name (i := 1) sc.nd rfl (Or.inl rfl))
      (pss_cons (ps_set (i := 2) sc.nd rfl (Or.inl rfl) (call_ C__law_begun (hr.mono (by decide)) (by rfl) (pa_cons (pv 0) (pa_cons (pv 1) pa_nil))))
    (pss_cons (ps_asg (pe_tup (pa_cons (call_ C__law_drawn_pair (hr.mono (by decide)) (by rfl) (pa_cons (pv 2) pa_nil)) (pa_cons (call_ C__law_drawn_pair (hr.mono (by decide)) (by rfl) (pa_cons (pv 2) pa_nil)) pa_nil))) (pg_tup (by rfl) (pgs_cons (pg_tup (by rfl) (pgs_cons (pg_name (i := 8) sc.nd rfl (Or.inr rfl)) (pgs_cons (pg_name (i := 3) sc.nd rfl (Or.inl rfl)) pgs_nil))) (pgs_cons (pg_tup (by rfl) (pgs_cons (pg_name (i := 4) sc.nd rfl (Or.inl rfl)) (pgs_cons (pg_name (i := 5) sc.nd rfl (Or.inl rfl)) pgs_nil))) pgs_nil))))
    (pss_cons (ps_par (i := 6) (j := 7) (by rfl) sc.nd rfl rfl (by decide) rfl rfl (pa_cons (call_ C__law_lowest (hr.mono (by decide)) (by rfl) (pa_cons (pv 8) (pa_cons (pv 3) pa_nil))) (pa_cons (call_ C__law_lowest (hr.mono (by decide)) (by rfl) (pa_cons (pv 4) (pa_cons (pv 5) pa_nil))) pa_nil)) (by rfl))
    (pss_cons (ps_if (pt_not (pt_val (callG hG C__law_like (hr.mono (by decide)) (by rfl) (pa_cons (pe_lst (pa_cons (call_ C_fraction (hr.mono (by decide)) (by rfl) (pa_cons (pv 8) (pa_cons (pv 3) pa_nil))) (pa_cons (call_ C_fraction (hr.mono (by decide)) (by rfl) (pa_cons (pe_un un_neg (pv 4)) (pa_cons (pe_un un_neg (pv 5)) pa_nil))) (pa_cons (call_ C_fraction (hr.mono (by decide)) (by rfl) (pa_cons pe_int (pa_cons (pv 3) pa_nil))) pa_nil)))) (pa_cons (pe_lst (pa_cons (pv 6) (pa_cons (pv 7) (pa_cons (pe_tup (pa_cons pe_int (pa_cons pe_int pa_nil))) pa_nil)))) pa_nil)))))
      (pss_one (ps_ret pe_bl))
      pss_nil)
    (pss_cons (ps_if (pt_cmpR op_ne (LamX.pe_lamcall (T := T) (k := 3) (TT := THeard CB) (t := fun E => tCall (spFracX CB) [] E (tCons (tVar 8) (tCons (tC (.int 0)) tNil))) rfl gH1 gH2 lkH hcH bH sc_heard rfl (Or.inl rfl) (heard_gives X m_isinstance m_ValueError) TB rfl hT hu (hr.mono (by decide)) (LamX.lamS_by (sc := defScope s_law) (by decide +kernel)) rfl (fun _ _ _ _ _ => rfl)
      (fun A' outer' s' H' E' f' c' hr' => pe_call FX (hr'.mono (by decide)) (by rfl) gX kX bX .nil (passes_call (takes_of rfl rfl rfl rfl) (fun _ _ _ _ z => z)) (pa_cons (pv 8) (pa_cons pe_int pa_nil)))) pe_str (nomark _))
      (pss_one (ps_ret pe_bl))
      pss_nil)
    (pss_cons (ps_if (PW.pt (pw_or (pt_not (pt_val (callG hG C__law_two_right (hr.mono (by decide)) (by rfl) (pa_cons (pv 6) (pa_cons (pv 7) pa_nil))))) (pw_or1 (pt_not (pt_val (callG hG C__law_two_right (hr.mono (by decide)) (by rfl) (pa_cons (pv 7) (pa_cons (pv 6) pa_nil))))))))
      (pss_one (ps_ret pe_bl))
      pss_nil)
    (pss_cons (ps_if (PW.pt (pw_or (pt_not (pt_val (callG hG C__law_like (hr.mono (by decide)) (by rfl) (pa_cons (call_ C_floor_of (hr.mono (by decide)) (by rfl) (pa_cons (pv 6) pa_nil)) (pa_cons (pe_op op_fdivX (pv 8) (pv 3)) pa_nil))))) (pw_or1 (pt_not (pt_val (callG hG C__law_values_right (hr.mono (by decide)) (by rfl) (pa_cons (pv 2) (pa_cons (pv 6) pa_nil))))))))
      (pss_one (ps_ret pe_bl))
      pss_nil)
    (pss_one (ps_if (pt_not (pt_val (callG hG C__law_like (hr.mono (by decide)) (by rfl) (pa_cons (pe_lst (pa_cons (call_ C_plus (hr.mono (by decide)) (by rfl) (pa_cons (pv 6) (pa_cons (pe_tup (pa_cons pe_int (pa_cons pe_int pa_nil))) pa_nil))) (pa_cons (call_ C_times (hr.mono (by decide)) (by rfl) (pa_cons (pv 6) (pa_cons (pe_tup (pa_cons pe_int (pa_cons pe_int pa_nil))) pa_nil))) (pa_cons (call_ C_minus (hr.mono (by decide)) (by rfl) (pa_cons (pv 6) (pa_cons (pv 6) pa_nil))) pa_nil)))) (pa_cons (pe_lst (pa_cons (pv 6) (pa_cons (pv 6) (pa_cons (pe_tup (pa_cons pe_int (pa_cons pe_int pa_nil))) pa_nil)))) pa_nil)))))
      (pss_one (ps_ret pe_bl))
      pss_nil))))))))))
    (pss_one (ps_ret (callG hG C__law_like (hr.mono (by decide)) (by rfl) (pa_cons (pe_lst (pa_cons (call_ C_floor_of (hr.mono (by decide)) (by rfl) (pa_cons (pe_tup (pa_cons (pe_un un_neg pe_int) (pa_cons pe_int pa_nil))) pa_nil)) (pa_cons (call_ C_floor_of (hr.mono (by decide)) (by rfl) (pa_cons (pe_tup (pa_cons (pe_un un_neg pe_int) (pa_cons pe_int pa_nil))) pa_nil)) (pa_cons (call_ C_over (hr.mono (by decide)) (by rfl) (pa_cons (pe_tup (pa_cons pe_int (pa_cons pe_int pa_nil))) (pa_cons (pe_tup (pa_cons (pe_un un_neg pe_int) (pa_cons pe_int pa_nil))) pa_nil))) pa_nil)))) (pa_cons (pe_lst (pa_cons (pe_un un_neg pe_int) (pa_cons (pe_un un_neg pe_int) (pa_cons (pe_tup (pa_cons (pe_un un_neg pe_int) (pa_cons pe_int pa_nil))) pa_nil)))) pa_nil)))))), ?_⟩
    refine ⟨4, rfl, by decide, by decide, for_range (lo := 0) (n := 4) (fun i σ H' => (∃ y1 y2 y3 y4 y5 y6 y7 y8, σ = [some (.ref a0), y1, y2, y3, y4, y5, y6, y7, y8]) ∧ LamX.ExtN H H' ∧ LamX.Tabs T H') ⟨⟨none, none, none, none, none, none, none, none, rfl⟩, LamX.ExtN.refl _, hTab⟩ ?_ ?_⟩
    · rintro i σ H0 hi ⟨⟨y1, y2, y3, y4, y5, y6, y7, y8, rfl⟩, e0, T0⟩
      refine ⟨.ref a0, rfl, .int (0 + i), rfl, a0, 0 + i, ns, rfl, sql_ext hS e0, hl, by omega, by omega, fun H1 m r s1 nm M1 => ?_⟩
      refine ⟨.ref m, rfl, m, r, 0, rfl, M1, by decide, fun H2 p1 a c b2 n2 k2 M2 c0 za zc => ?_⟩
      refine ⟨.ref m, rfl, m, r, 0 + 10, rfl, M2, by decide, fun H3 p2 u v b3 n3 k3 M3 v0 zu zv => ?_⟩
      refine ⟨by show 2 ≤ sizeLine; decide, fun t nt => ?_⟩
      obtain ⟨kv2, hm2⟩ : ∃ kvs, H2 m = some (.dK kvs) := by
        obtain ⟨L, sd, sp, cells, q1, _⟩ := M2
        exact ⟨_, q1⟩
      obtain ⟨kv1, hm1⟩ : ∃ kvs, H1 m = some (.dK kvs) := by
        obtain ⟨L, sd, sp, cells, q1, _⟩ := M1
        exact ⟨_, q1⟩
      have e3 : LamX.ExtN H0 H3 := ext_but nm (LamX.ExtN.of s1) (b2.trans b3)
      have T3 : LamX.Tabs T H3 := tabs_but (T0.ext s1) hm1 (b2.trans b3)
      have P1' : Pr H3 p1 (a, c) := k2.but hm2 b3
      have s4 : Same H3 (upd H3 t (.tup [.ref p1, .ref p2])) := same_new nt
      refine ⟨t, [.ref p1, .ref p2], rfl, SqT.of upd_same, rfl, .ref p1, [.ref p2], rfl, p1, [.int a, .int c], rfl, SqT.of (P1'.same s4), rfl, .int a, [.int c], rfl, .int c, [], rfl, rfl, .ref p2, [], rfl, p2, [.int u, .int v], rfl, SqT.of (k3.same s4), rfl, .int u, [.int v], rfl, .int v, [], rfl, rfl, rfl, ?_⟩
      have M4 := M3.same s4
      have e4 := ext_same e3 s4
      have T4 := T3.ext s4
      generalize upd H3 t (.tup [.ref p1, .ref p2]) = H4 at s4 M4 e4 T4 ⊢
      refine ⟨.int a, rfl, .int c, rfl, a, c, rfl, c0, zc.mono (by decide), fun H5 pf s5 n5 kf => ?_⟩
      refine ⟨.int u, rfl, .int v, rfl, u, v, rfl, v0, zv.mono (by decide), fun H6 pg s6 n6 kg => ?_⟩
      have kf := kf.same s6
      have nv0 : -v ≠ 0 := by omega
      have znv : Sm 300 (-v) := by
        unfold Sm
        rw [Int.natAbs_neg]
        exact zv
      refine ⟨.ref pf, .ref pg, rfl, .int a, rfl, .int c, rfl, a, c, rfl, c0, zc.mono (by decide), fun H7 r1 s7 n7 j1 => ?_⟩
      refine ⟨.int u, rfl, u, rfl, .int v, rfl, v, rfl, -u, -v, rfl, nv0, znv.mono (by decide), fun H8 r2 s8 n8 j2 => ?_⟩
      refine ⟨.int c, rfl, 0, c, rfl, c0, zc.mono (by decide), fun H9 r3 s9 n9 j3 => ?_⟩
      refine ⟨by show 3 ≤ sizeLine; decide, fun L nL => ?_⟩
      have s10 : Same H9 (upd H9 L (.lst [.ref r1, .ref r2, .ref r3])) := same_new nL
      have gL : upd H9 L (.lst [.ref r1, .ref r2, .ref r3]) L = some (.lst [.ref r1, .ref r2, .ref r3]) := upd_same
      generalize upd H9 L (.lst [.ref r1, .ref r2, .ref r3]) = H10 at s10 gL ⊢
      refine ⟨.ref pf, rfl, .ref pg, rfl, by show 2 ≤ sizeLine; decide, fun z nz => ?_⟩
      have s11 : Same H10 (upd H10 z (.tup [.int 0, .int 1])) := same_new nz
      have gz : Pr (upd H10 z (.tup [.int 0, .int 1])) z (0, 1) := upd_same
      generalize upd H10 z (.tup [.int 0, .int 1]) = H11 at s11 gz ⊢
      refine ⟨by show 3 ≤ sizeLine; decide, fun M nM => ?_⟩
      have s12 : Same H11 (upd H11 M (.lst [.ref pf, .ref pg, .ref z])) := same_new nM
      have gM : upd H11 M (.lst [.ref pf, .ref pg, .ref z]) M = some (.lst [.ref pf, .ref pg, .ref z]) := upd_same
      generalize upd H11 M (.lst [.ref pf, .ref pg, .ref z]) = H12 at s12 gM ⊢
      have s412 : Same H4 H12 := (((((((s5.trans s6).trans s7).trans s8).trans s9).trans s10).trans s11).trans s12)
      have s612 : Same H6 H12 := ((((((s7.trans s8).trans s9).trans s10).trans s11).trans s12))
      have M12 := M4.same s412
      have e12 := ext_same e4 s412
      have T12 := T4.ext s412
      have kf := kf.same s612
      have kg := kg.same s612
      have j1 := ((((j1.same s8).same s9).same s10).same s11).same s12
      have j2 := (((j2.same s9).same s10).same s11).same s12
      have j3 := ((j3.same s10).same s11).same s12
      rw [low_neg v0] at j2
      rw [low_zero c0] at j3
      have gz := gz.same s12
      have gL := s12 _ _ (s11 _ _ gL)
      have zf1 : Sm 300 (low a c).1 := za.low1 c0
      have zf2 : Sm 300 (low a c).2 := zc.low2 c0
      have zg1 : Sm 300 (low u v).1 := zu.low1 v0
      have zg2 : Sm 300 (low u v).2 := zv.low2 v0
      have f0 := Int.ne_of_gt (low_pos (a := a) c0)
      have fp := low_pos (a := a) c0
      have g0 := Int.ne_of_gt (low_pos (a := u) v0)
      have lf : low (low a c).1 (low a c).2 = low a c := low_self (low_pos c0) (low_gcd c0)
      have ff := low_floor (a := a) c0
      refine ⟨.ref L, .ref M, .list [dPr (low a c), dPr (low u v), dPr (0, 1)], rfl, dp3 gL j1 j2 j3, dp3 gM kf kg gz, fit3 (zf1.mono (by decide)) (zf2.mono (by decide)) (zg1.mono (by decide)) (zg2.mono (by decide)) (sm0 _) (sm1 _), _, rfl, iteF ?_⟩
      clear j1 j2 j3 gL gM gz nL nM nz n9 n8 n7 n6 n5 s5 s6 s7 s8 s9 s10 s11 s12 s412 s612
      clear T4 e4 M4 s4 k3 P1' T3 e3 M3 M2 b3 b2 s1 k2
      generalize low a c = F at kf zf1 zf2 f0 fp lf ff
      generalize low u v = G at kg zg1 zg2 g0
      obtain ⟨a', c'⟩ := F
      obtain ⟨u', v'⟩ := G
      dsimp only at zf1 zf2 f0 fp lf ff zg1 zg2 g0
      refine heard_read T12 (fun x H' => LamX.ExtN H12 H' ∧ LamX.Tabs T H' ∧ x = .str "nought") ?_ ?_
      · rintro x H13 ⟨e13, T13, rfl⟩
        refine ⟨rfl, _, rfl, iteF' (by rw [decide_eq_true rfl]; rfl) ?_⟩
        have kf := kf.ext e13
        have kg := kg.ext e13
        refine ⟨.ref pf, rfl, .ref pg, rfl, pf, pg, a', c', u', v', rfl, kf, kg, zf1.mono (by decide), zf2.mono (by decide), zg1.mono (by decide), zg2.mono (by decide), f0, g0, T13, fun H14 e14 T14 => ?_⟩
        have kf := kf.ext e14
        have kg := kg.ext e14
        refine ⟨_, rfl, iteF ⟨.ref pg, rfl, .ref pf, rfl, pg, pf, u', v', a', c', rfl, kg, kf, zg1.mono (by decide), zg2.mono (by decide), zf1.mono (by decide), zf2.mono (by decide), g0, f0, T14, fun H15 e15 T15 => ?_⟩⟩
        have kf := kf.ext e15
        have e1215 := (e13.trans e14).trans e15
        have M15 := M12.ext e1215
        have e15' := e12.trans e1215
        have zfd : (a.fdiv c).natAbs < 2 ^ 1900 := by
          rw [← ff, Int.fdiv_eq_ediv_of_nonneg _ (Int.le_of_lt fp)]
          exact Nat.lt_of_le_of_lt (Int.natAbs_ediv_le_natAbs a' c') (zf1.mono (by decide))
        refine ⟨_, rfl, iteF ⟨.ref pf, rfl, pf, a', c', rfl, kf, f0, zf2.mono (by decide), ?_⟩⟩
        rw [ff]
        refine ⟨.int a, rfl, .int c, rfl, a, c, rfl, rfl, ⟨c0, Nat.lt_trans (PySem.Flt.log2_lt_of (by decide) zc) (by decide)⟩, .int (a.fdiv c), .int (a.fdiv c), .int (a.fdiv c), rfl, .int _, .int _, FitN.int zfd, _, rfl, iteF ?_⟩
        refine ⟨.ref m, rfl, .ref pf, rfl, m, r, pf, _, a', c', rfl, M15, by decide, kf, zf1.mono (by decide), zf2.mono (by decide), fun H16 b16 M16 => ⟨_, rfl, iteF ?_⟩⟩
        obtain ⟨kv15, hm15⟩ : ∃ kvs, H15 m = some (.dK kvs) := by
          obtain ⟨L, sd, sp, cells, q1, _⟩ := M15
          exact ⟨_, q1⟩
        have kf := kf.but hm15 b16
        have e16 := ext_but nm e15' b16
        have T16 := tabs_but T15 hm15 b16
        clear M12 M15 M16 e15' e1215 hm15 b16 e12 T12 T13 T14 T15 e13 e14 e15 kg
        have cc0 : c' * c' ≠ 0 := Int.mul_ne_zero f0 f0
        have c10 : c' * 1 ≠ 0 := by
          rw [Int.mul_one]
          exact f0
        refine ⟨.ref pf, rfl, by show 2 ≤ sizeLine; decide, fun q1 nq1 => ?_⟩
        have s17 : Same H16 (upd H16 q1 (.tup [.int 0, .int 1])) := same_new nq1
        have g17 : Pr (upd H16 q1 (.tup [.int 0, .int 1])) q1 (0, 1) := upd_same
        generalize upd H16 q1 (.tup [.int 0, .int 1]) = H17 at s17 g17 ⊢
        refine ⟨pf, q1, a', c', 0, 1, rfl, kf.same s17, g17, zf1.mono (by decide), zf2.mono (by decide), sm0 _, sm1 _, c10, fun H18 t1 s18 n18 k18 => ?_⟩
        refine ⟨.ref pf, rfl, by show 2 ≤ sizeLine; decide, fun q2 nq2 => ?_⟩
        have s19 : Same H18 (upd H18 q2 (.tup [.int 1, .int 1])) := same_new nq2
        have g19 : Pr (upd H18 q2 (.tup [.int 1, .int 1])) q2 (1, 1) := upd_same
        generalize upd H18 q2 (.tup [.int 1, .int 1]) = H19 at s19 g19 ⊢
        have s1619 := (s17.trans s18).trans s19
        refine ⟨pf, q2, a', c', 1, 1, rfl, kf.same s1619, g19, zf1.mono (by decide), zf2.mono (by decide), sm1 _, sm1 _, c10, fun H20 t2 s20 n20 k20 => ?_⟩
        have s1620 := s1619.trans s20
        refine ⟨.ref pf, rfl, .ref pf, rfl, pf, pf, a', c', a', c', rfl, kf.same s1620, kf.same s1620, zf1.mono (by decide), zf2.mono (by decide), zf1.mono (by decide), zf2.mono (by decide), cc0, fun H21 t3 s21 n21 k21 => ?_⟩
        refine ⟨by show 3 ≤ sizeLine; decide, fun L nL => ?_⟩
        have s22 : Same H21 (upd H21 L (.lst [.ref t1, .ref t2, .ref t3])) := same_new nL
        have gL : upd H21 L (.lst [.ref t1, .ref t2, .ref t3]) L = some (.lst [.ref t1, .ref t2, .ref t3]) := upd_same
        generalize upd H21 L (.lst [.ref t1, .ref t2, .ref t3]) = H22 at s22 gL ⊢
        refine ⟨.ref pf, rfl, .ref pf, rfl, by show 2 ≤ sizeLine; decide, fun z nz => ?_⟩
        have s23 : Same H22 (upd H22 z (.tup [.int 0, .int 1])) := same_new nz
        have gz : Pr (upd H22 z (.tup [.int 0, .int 1])) z (0, 1) := upd_same
        generalize upd H22 z (.tup [.int 0, .int 1]) = H23 at s23 gz ⊢
        refine ⟨by show 3 ≤ sizeLine; decide, fun M nM => ?_⟩
        have s24 : Same H23 (upd H23 M (.lst [.ref pf, .ref pf, .ref z])) := same_new nM
        have gM : upd H23 M (.lst [.ref pf, .ref pf, .ref z]) M = some (.lst [.ref pf, .ref pf, .ref z]) := upd_same
        generalize upd H23 M (.lst [.ref pf, .ref pf, .ref z]) = H24 at s24 gM ⊢
        have s1624 := (((s1620.trans s21).trans s22).trans s23).trans s24
        have k18 := (((((k18.same s19).same s20).same s21).same s22).same s23).same s24
        have k20 := (((k20.same s21).same s22).same s23).same s24
        have k21 := ((k21.same s22).same s23).same s24
        dsimp only at k18 k20 k21
        rw [Int.mul_one, Int.mul_one, Int.zero_mul, Int.add_zero, lf] at k18
        rw [Int.mul_one, Int.mul_one, lf] at k20
        rw [Int.sub_self, low_zero cc0] at k21
        have kf := kf.same s1624
        refine ⟨.ref L, .ref M, .list [dPr (a', c'), dPr (a', c'), dPr (0, 1)], rfl, dp3 (s24 _ _ (s23 _ _ gL)) k18 k20 k21, dp3 gM kf kf (gz.same s24), fit3 (zf1.mono (by decide)) (zf2.mono (by decide)) (zf1.mono (by decide)) (zf2.mono (by decide)) (sm0 _) (sm1 _), _, rfl, iteF ?_⟩
        exact ⟨⟨_, _, _, _, _, _, _, _, rfl⟩, e0.trans (ext_same e16 s1624), T16.ext s1624⟩
      · intro H13 E' Q' e13 T13 hE hQ
        refine ⟨.int a, rfl, a, 0, rfl, by decide, fun _ => hE H13 (Same.refl _) fun e ne => ⟨ext_same e13 (same_new ne), T13.ext (same_new ne), rfl⟩, fun z => absurd rfl z⟩
    · rintro σ H' ⟨⟨y1, y2, y3, y4, y5, y6, y7, y8, rfl⟩, e0, T0⟩
      clear hS hTab TB hT hu e0 T0
      refine ⟨1, rfl, by show 2 ≤ sizeLine; decide, fun p1 n1 => ?_⟩
      refine ⟨p1, -1, 2, rfl, upd_same, by decide, Sm.of (b := 2) (by decide) (by decide) (by decide), ?_⟩
      generalize upd H' p1 (.tup [.int (-1), .int 2]) = H1
      refine ⟨4, rfl, by show 2 ≤ sizeLine; decide, fun p2 n2 => ?_⟩
      refine ⟨p2, -4, 1, rfl, upd_same, by decide, Sm.of (b := 2) (by decide) (by decide) (by decide), ?_⟩
      generalize upd H1 p2 (.tup [.int (-4), .int 1]) = H2
      refine ⟨by show 2 ≤ sizeLine; decide, fun p3 n3 => ?_⟩
      have g3 : Pr (upd H2 p3 (.tup [.int 1, .int 2])) p3 (1, 2) := upd_same
      generalize upd H2 p3 (.tup [.int 1, .int 2]) = H3 at g3 ⊢
      refine ⟨3, rfl, by show 2 ≤ sizeLine; decide, fun p4 n4 => ?_⟩
      have g3 := g3.same (same_new (o := .tup [.int (-3), .int 4]) n4)
      have g4 : Pr (upd H3 p4 (.tup [.int (-3), .int 4])) p4 (-3, 4) := upd_same
      generalize upd H3 p4 (.tup [.int (-3), .int 4]) = H4 at g3 g4 ⊢
      refine ⟨p3, p4, 1, 2, -3, 4, rfl, g3, g4, Sm.of (b := 5) (by decide) (by decide) (by decide), Sm.of (b := 5) (by decide) (by decide) (by decide), Sm.of (b := 5) (by decide) (by decide) (by decide), Sm.of (b := 5) (by decide) (by decide) (by decide), by decide, fun H5 r s5 n5 k5 => ?_⟩
      have k5 : Pr H5 r (-2, 3) := k5
      refine ⟨by show 3 ≤ sizeLine; decide, fun L nL => ?_⟩
      have k6 := k5.same (same_new (o := .lst [.int (Int.fdiv (-1) 2), .int (Int.fdiv (-4) 1), .ref r]) nL)
      have gL : upd H5 L (.lst [.int (Int.fdiv (-1) 2), .int (Int.fdiv (-4) 1), .ref r]) L = some (.lst [.int (Int.fdiv (-1) 2), .int (Int.fdiv (-4) 1), .ref r]) := upd_same
      generalize upd H5 L (.lst [.int (Int.fdiv (-1) 2), .int (Int.fdiv (-4) 1), .ref r]) = H6 at k6 gL ⊢
      refine ⟨1, rfl, 4, rfl, 2, rfl, by show 2 ≤ sizeLine; decide, fun q nq => ?_⟩
      have s7 : Same H6 (upd H6 q (.tup [.int (-2), .int 3])) := same_new nq
      have g7 : Pr (upd H6 q (.tup [.int (-2), .int 3])) q (-2, 3) := upd_same
      generalize upd H6 q (.tup [.int (-2), .int 3]) = H7 at s7 g7 ⊢
      refine ⟨by show 3 ≤ sizeLine; decide, fun M nM => ?_⟩
      have s8 : Same H7 (upd H7 M (.lst [.int (-1), .int (-4), .ref q])) := same_new nM
      have gM : upd H7 M (.lst [.int (-1), .int (-4), .ref q]) M = some (.lst [.int (-1), .int (-4), .ref q]) := upd_same
      generalize upd H7 M (.lst [.int (-1), .int (-4), .ref q]) = H8 at s8 gM ⊢
      have f : ∀ x : Int, -5 < x → x < 5 → Sm 1900 x := fun x h1 h2 => Sm.of (b := 5) (by omega) (by omega) (by decide)
      have F : Fit (.list [.int (-1), .int (-4), dPr (-2, 3)]) :=
        FitN.mono (FitN.list (k := 1) (n := 5) (.cons (.int (n := 0) (f _ (by decide) (by decide))) (.cons (.int (n := 0) (f _ (by decide) (by decide))) (.cons (fit_dPr (k := 0) (f _ (by decide) (by decide)) (f _ (by decide) (by decide))) (.nil (n := 0)) (Nat.le_refl _)) (Nat.le_refl _)) (Nat.le_refl _))) (by decide) (by decide)
      exact ⟨.ref L, .ref M, .list [.int (-1), .int (-4), dPr (-2, 3)], rfl, .lst (SqL.of (s8 _ _ (s7 _ _ gL))) (.cons (.int _) (.cons (.int _) (.cons ((k6.same s7).same s8).dp .nil))), .lst (SqL.of gM) (.cons (.int _) (.cons (.int _) (.cons (g7.same s8).dp .nil))), F, k _⟩
end
end K08
/-! The end of a law row for a quiet promise, with the tables of the code objects that hold lambdas. -/
namespace Vk
open PySem PySem.Spec PyProof.Rows L2
/-- what a heap at the law's start tracks -/
inductive Trk (cs : List (Addr × Addr)) (H : Hp) (b : Addr) : Prop
  | no (h : H b = none) : Trk cs H b
  | tab (p : Addr × Addr) (m : p ∈ cs) (e : p.2 = b) (h : H b = some (.tbl #[])) : Trk cs H b
  | frz (o : Obj) (xs : List V) (h : H b = some (.frz o (.lst xs))) : Trk cs H b
/-- what is known of the tables -/
structure TabK (K : PySem.W.Frag) (h : Heap) (p : Addr × Addr) : Prop where
  hd : PySem.W.CodeHd h p.1 p.2
  at_ : h.get? p.2 = some { cls := .none, data := .fields #[] }
  out : K.lookup p.2 = none
/-- the module that the top's names lead to -/
def BMain (mg : Str → Option Value) (h : Heap) : Prop := ∃ bm ob, mg "__builtins__" = some (.ref bm) ∧ bm ≠ builtinsNs ∧ h.get? bm = some ob ∧ ob.cls = .type "module" ∧ ob.dict = some builtinsNs ∧ ob.data = .plain
section
variable {P : Program} {w : World} {K : PySem.W.Frag} {mg mb : Str → Option Value} {k : Nat} {fa a : Addr} {fd : FuncData} {x : Str} {sp : Sp} {s₁ : Shared} {vs : List Value} {ns : List Int} {cs : List (Addr × Addr)}
theorem tabB_hid {H : Hp} {p : Addr × Addr} (T : TabK K s₁.heap p) (fr : ∀ b o, s₁.heap.get? b = some o → o ≠ { cls := .none, data := .fields #[] } → o.cls ≠ .type "list" → H b = none) (hns : s₁.heap.Ns mainGlobals mg) (B : BMain mg s₁.heap) :
    LamX.TabB (hidT s₁.heap H) mg p.1 p.2 := by
  obtain ⟨o, us, file, tf, flags, tg, inF, text, tt, q1, q2, q3, q4, q5⟩ := T.hd
  obtain ⟨bm, ob, b1, b2, b3, b4, b5, b6⟩ := B
  obtain ⟨og, es, ep, g1, g2, g3⟩ := hns
  refine ⟨⟨o, us, file, tf, flags, tg, inF, text, tt, hidT_get q1 (fr _ _ q1 (fun z => ?_) fun z => ?_), q2, q3, q4, q5⟩, ⟨bm, ob, b1, b2, fun z => ?_, fun z => ?_, hidT_get b3 (fr _ _ b3 (fun z => ?_) fun z => ?_), b4, b5, b6⟩, fun z => ?_⟩
  · subst z
    cases q2
  · rw [q2] at z
    exact absurd z (by decide)
  · subst z
    rw [g1] at b3
    obtain rfl := Option.some.inj b3
    rw [b6] at g2
    cases g2
  · subst z
    have y := b3.symm.trans T.at_
    obtain rfl := Option.some.inj y
    cases b4
  · subst z
    cases b4
  · rw [b4] at z
    exact absurd z (by decide)
  · rw [z] at g1
    obtain rfl := Option.some.inj (T.at_.symm.trans g1)
    cases g2
/-- from one abstract heap that holds -/
theorem law_coreT (H : Hp) (KX : K.In s₁.heap) (hns : s₁.heap.Ns mainGlobals mg) (hb : s₁.heap.Ns builtinsNs mb) (hbb : ∀ x : Str, x ≠ "__name__" → mb x = bootBuiltins x) (hlim : s₁.heap.NoLimit) (hg : s₁.gens = #[])
    (TK : ∀ p ∈ cs, TabK K s₁.heap p) (B : BMain mg s₁.heap) (ha : s₁.heap.get? a = some { cls := .type "list", data := .seq vs.toArray }) (hr : Room k callerA)
    (F : ∀ base : Heap, K.In base → base.Ns mainGlobals mg → (∀ p ∈ cs, LamX.TabB base mg p.1 p.2) → FnG P w K mg base k fa fd [x] sp) (hbind : ∀ (s : Shared) (u : Value), BindsTo s fd ⟨[u], []⟩ [(x, u)])
    (trk : ∀ b, Trk cs H b) (hA : ∀ b o xs, H b = some (.frz o (.lst xs)) → b = a) (hK : H a ≠ none → K.lookup a = none) (hok : HOk P w H s₁.heap) (hsp : sp [.ref a] H (fun v _ => v = .bl true) fun _ _ _ => False) :
    codeAny (model P w) callerA (.call (.ref fa) ⟨[.ref a], []⟩) (fun r s' => r = .ok (.ret (.bool true)) ∧ OldK s₁.heap s'.heap ∧ s'.os = s₁.os ∧ AllBare s'.gens) s₁ := by
  have fr : ∀ b o, s₁.heap.get? b = some o → o ≠ { cls := .none, data := .fields #[] } → o.cls ≠ .type "list" → H b = none := fun b o e n1 n2 => by
    cases trk b with
    | no h => exact h
    | tab p m z h =>
      rw [← z, (TK p m).at_] at e
      exact absurd (Option.some.inj e).symm n1
    | frz u xs h =>
      rw [hA b u xs h, ha] at e
      obtain rfl := Option.some.inj e
      exact absurd rfl n2
  have ns_ : ∀ {b : Addr} {m : Str → Option Value}, s₁.heap.Ns b m → (hidT s₁.heap H).Ns b m := by
    rintro b m ⟨o, es, ep, e, d, r⟩
    cases trk b with
    | no h => exact ⟨o, es, ep, hidT_get e h, d, r⟩
    | tab p q z h =>
      rw [← z, (TK p q).at_] at e
      obtain rfl := Option.some.inj e
      cases d
    | frz u xs h =>
      rw [hA b u xs h, ha] at e
      obtain rfl := Option.some.inj e
      cases d
  have inB : K.In (hidT s₁.heap H) := fun b o e => by
    refine hidT_get (KX b o e) ?_
    cases trk b with
    | no h => exact h
    | tab p q z h =>
      rw [← z, (TK p q).out] at e
      cases e
    | frz u xs h =>
      have y := hA b u xs h
      subst y
      rw [hK (by rw [h]; exact fun z => by cases z)] at e
      cases e
  have M : Mod K mg (hidT s₁.heap H) := by
    refine { kin := inB, glob := ns_ hns, blt := ⟨mb, ns_ hb, hbb⟩, nolimit := ?_ }
    obtain ⟨mc, h1, h2⟩ := hlim
    exact ⟨mc, ns_ h1, h2⟩
  have E : Env0 P w K mg (hidT s₁.heap H) callerA [] s₁ H := by
    refine { frames := rfl, mod := M, bs := fun b o e => of_hidT e, bsz := Nat.le_of_eq (hidT_size _ _), funs := trivial, frf := ?_, hok := hok, bare := .of_eq hg }
    intro b z
    cases (show b ∈ ([] : List Addr) from z)
  have R := (F _ inB (ns_ hns) fun p hp => tabB_hid (TK p hp) fr hns B).run callerA [] s₁ H ⟨[.ref a], []⟩ [.ref a] [.ref a] _ _ rfl hr E (hbind s₁ (.ref a)) (.cons rfl .nil) hsp
  refine codeAny_mono R ?_
  intro r s' h
  match r, h with
  | .error e, h => exact False.elim h
  | .ok (.ret u), ⟨v, H', os, bare, un, hok', rv, q⟩ =>
    obtain rfl : v = .bl true := q
    obtain rfl : u = Value.bool true := rv
    have key : ∀ b o, s₁.heap.get? b = some o → s'.heap.get? b = some o ∨ ∃ p ∈ cs, p.2 = b ∧ ∃ more : Array Value, s'.heap.get? b = some { cls := .none, data := .fields more } := fun b o e => by
      cases trk b with
      | no z =>
        refine .inl (un.keep b o e z (fun m => ?_) (fun m => ?_))
        · cases (show b ∈ ([] : List Addr) from m)
        · cases m
      | tab p m z y =>
        obtain ⟨more, y'⟩ := un.tbls b #[] y
        exact .inr ⟨p, m, z, _, hok' b _ y'⟩
      | frz ob xs z =>
        have p1 := (hok b _ z).1
        have p2 := (hok' b _ (un.frzs b ob _ z)).1
        exact .inl (p2.trans (p1.symm.trans e))
    refine ⟨rfl, ⟨fun b o e => ?_, fun b o e => ?_⟩, os, bare⟩
    · rcases key b o e with y | ⟨p, m, rfl, more, y⟩
      · exact .inl y
      · have T := TK p m
        obtain rfl := Option.some.inj (T.at_.symm.trans e)
        refine .inr (.inl ⟨(T.hd.tab T.at_).isCodeTable, rfl, #[], more, rfl, ?_⟩)
        rw [Array.empty_append]
        exact y
    · rcases key b o e with y | ⟨p, m, rfl, more, y⟩
      · exact ⟨o, y⟩
      · exact ⟨_, y⟩
/-- the law's promise, at the heap behind the top -/
theorem law_callT (KX : K.In s₁.heap) (hns : s₁.heap.Ns mainGlobals mg) (hb : s₁.heap.Ns builtinsNs mb) (hbb : ∀ x : Str, x ≠ "__name__" → mb x = bootBuiltins x) (hlim : s₁.heap.NoLimit) (hg : s₁.gens = #[])
    (TK : ∀ p ∈ cs, TabK K s₁.heap p) (B : BMain mg s₁.heap) (ha : s₁.heap.get? a = some { cls := .type "list", data := .seq vs.toArray }) (hi : IntsAre vs ns) (hl : ns.length ≤ sizeLine) (hr : Room k callerA)
    (F : ∀ base : Heap, K.In base → base.Ns mainGlobals mg → (∀ p ∈ cs, LamX.TabB base mg p.1 p.2) → FnG P w K mg base k fa fd [x] sp) (hbind : ∀ (s : Shared) (u : Value), BindsTo s fd ⟨[u], []⟩ [(x, u)])
    (hsp : ∀ H : Hp, (∀ p ∈ cs, H p.2 = some (.tbl #[])) → SqL K H a (ns.map V.int) → sp [.ref a] H (fun v _ => v = .bl true) fun _ _ _ => False) :
    codeAny (model P w) callerA (.call (.ref fa) ⟨[.ref a], []⟩) (fun r s' => r = .ok (.ret (.bool true)) ∧ OldK s₁.heap s'.heap ∧ s'.os = s₁.os ∧ AllBare s'.gens) s₁ := by
  classical
  have rv := vals_ints hi
  let tb : Hp := fun b => if ∃ p ∈ cs, p.2 = b then some (.tbl #[]) else none
  have tb1 : ∀ p ∈ cs, tb p.2 = some (.tbl #[]) := fun p hp => if_pos ⟨p, hp, rfl⟩
  have tbt : ∀ b, Trk cs tb b := fun b => by
    by_cases z : ∃ p ∈ cs, p.2 = b
    · obtain ⟨p, m, e⟩ := z
      exact .tab p m e (if_pos ⟨p, m, e⟩)
    · exact .no (if_neg z)
  have tbo' : ∀ (H' : Hp) b u, tb b = some u → ObjOk P w H' s₁.heap b u := fun H' b u z => by
    cases tbt b with
    | no h =>
      rw [h] at z
      cases z
    | tab p m e h =>
      rw [h] at z
      obtain rfl := Option.some.inj z
      subst e
      exact (TK p m).at_
    | frz o xs h =>
      rw [h] at z
      obtain rfl := Option.some.inj z
      unfold tb at h
      split at h <;> cases h
  have tbo : HOk P w tb s₁.heap := tbo' tb
  have tbf : ∀ b o xs, tb b ≠ some (.frz o (.lst xs)) := fun b o xs h => by
    unfold tb at h
    split at h <;> cases h
  have na : ∀ p ∈ cs, p.2 ≠ a := fun p hp z => by
    have e := (TK p hp).at_
    rw [z, ha] at e
    cases congrArg Obj.data (Option.some.inj e)
  have tba : tb a = none := if_neg fun ⟨p, hp, z⟩ => na p hp z
  cases hk : K.lookup a with
  | some o =>
    have e := (KX a o hk).symm.trans ha
    obtain rfl := Option.some.inj e
    refine law_coreT tb KX hns hb hbb hlim hg TK B ha hr F hbind tbt (fun b o xs z => absurd z (tbf b o xs)) (fun z => absurd tba z) tbo (hsp _ tb1 (.inr ⟨_, vs.toArray, _, hk, rfl, rfl, rfl, ?_, ?_⟩))
    · rw [List.size_toArray, hi.length]
      exact hl
    · simpa using rv
  | none =>
    let fz : HO := .frz { cls := .type "list", data := .seq vs.toArray } (.lst (ns.map V.int))
    refine law_coreT (upd tb a fz) KX hns hb hbb hlim hg TK B ha hr F hbind (fun b => ?_) (fun b o xs z => ?_) (fun _ => hk) (fun b u z => ?_) (hsp _ (fun p hp => ?_) (.inl (.inr ⟨_, upd_same⟩)))
    · by_cases e : b = a
      · subst e
        exact .frz _ _ upd_same
      · cases tbt b with
        | no h => exact .no (by rw [upd_ne e]; exact h)
        | tab p m q h => exact .tab p m q (by rw [upd_ne e]; exact h)
        | frz o xs h => exact .frz o xs (by rw [upd_ne e]; exact h)
    · by_cases e : b = a
      · exact e
      · rw [upd_ne e] at z
        exact absurd z (tbf b o xs)
    · by_cases e : b = a
      · subst e
        rw [upd_same] at z
        obtain rfl := Option.some.inj z
        refine ⟨ha, ?_, vs, _, rv, ha⟩
        rw [List.length_map]
        exact hl
      · rw [upd_ne e] at z
        exact tbo' _ b u z
    · rw [upd_ne (na p hp)]
      exact tb1 p hp
end
/-- the tables of the top's defs, by their names -/
def TabsOf (q : Program) (K : PySem.W.Frag) (h : Heap) : Prop := ∀ (y : Str) (d : DefRec) (c P : Addr), (recsOf q).find? (fun e => e.name == y) = some d → PySem.W.tabIn K y = some (c, P) → K.lookup P = none → TabK K h (c, P)
/-- the end of the row -/
theorem walk_ofT {l : PySem.W.OpenLaw} {n k : Nat} {q : Program} {loose : List Str} {XP : (Str → Option Value) → Heap → Prop} {YP : World → Heap → Prop} {d : DefRec} {K : Params → PySem.W.Frag} {x : Str}
    (hn : l.most = some n) (hn2 : n ≤ sizeLine) (hdf : d.params.defaults = []) (hr : Room k callerA) (hY : ∀ (w : World) (h : Heap), YP w h → (K w.params).In h)
    (F : ∀ (w : World) (mg : Str → Option Value) (fa : Addr) (h : Heap), (K w.params).In h → h.Ns mainGlobals mg → mg d.name = some (.ref fa) → TabsOf q (K w.params) h →
      ∃ (fd : FuncData) (cs : List (Addr × Addr)) (sp : Sp), (∀ p ∈ cs, TabK (K w.params) h p) ∧ (∀ (s : Shared) (u : Value), BindsTo s fd ⟨[u], []⟩ [(x, u)]) ∧
        (∀ (H : Hp) (a : Addr) (ns : List Int), ns.length ≤ n → (∀ p ∈ cs, H p.2 = some (.tbl #[])) → SqL (K w.params) H a (ns.map V.int) → sp [.ref a] H (fun v _ => v = .bl true) fun _ _ _ => False) ∧
        ∀ base : Heap, (K w.params).In base → base.Ns mainGlobals mg → (∀ p ∈ cs, LamX.TabB base mg p.1 p.2) → FnG l.prog w (K w.params) mg base k fa fd [x] sp) :
    PySem.W.WalkO q loose XP YP l.row.toRowW d [] (fun f vs => PySem.call f vs) := by
  refine Att.attach_call hn hdf ?_
  intro w s₀ s₁ mg mb fa o pm cd doc a vs ns G Y ho hd hcd hmg hobj hints hlen hg
  have KX := hY w _ Y
  obtain ⟨fd, cs, sp, hT, hb, hsp, hF⟩ := F w mg fa _ KX G.T.g hmg fun y d c P h1 h2 h3 => by
    obtain ⟨t1, t2⟩ := PySem.W.tab_of G.T KX h1 h2
    exact ⟨t1, t2, h3⟩
  exact law_callT KX G.T.g G.T.b G.T.builtins G.T.nolimit hg hT G.T.bmain hobj hints (Nat.le_trans hlen hn2) hr hF hb fun H hT' hS => hsp H a ns hlen hT' hS
end Vk
namespace K08
open PySem PySem.Spec PyProof.Rows L2 Vk
section
variable {P : Program} {w : World} {K : PySem.W.Frag} {mg : Str → Option Value} {base : Heap}
/-- a def of the text by its name -/
theorem cal_of {x : Str} {st : Stmt} {f : Addr} {fd : FuncData} {k : Nat} {ps : List Str} {sp : Sp} (F : Fun K x x st f fd) (g : mg x = some (.ref f)) (G : FnOk P w K mg base CX0 k f fd ps sp) (b : Binds K fd ps []) : Cal P w K mg base k x ps sp := ⟨f, fd, G, g, F.kp, b⟩
theorem calG_of {x : Str} {st : Stmt} {f : Addr} {fd : FuncData} {k : Nat} {ps : List Str} {sp : Sp} (F : Fun K x x st f fd) (g : mg x = some (.ref f)) (G : FnG P w K mg base k f fd ps sp) (b : Binds K fd ps []) : CalG P w K mg base k x ps sp := ⟨f, fd, G, g, F.kp, b⟩
theorem tab_in {x : Str} {f c P : Addr} {oc oc2 : Value} {od od2 : Option Addr} {fd : FuncData} {sl sl2 : Array (Option Value)} {vs : Array Value} (a : PySem.W.nsIn K mainGlobals x = some (some (.ref f))) (l : K.lookup f = some ⟨oc, od, .func fd, sl⟩) (hc : fd.code = .ref c) (q : K.lookup c = some ⟨oc2, od2, .fields vs, sl2⟩) (v : vs[11]? = some (.ref P)) :
    PySem.W.tabIn K x = some (c, P) := by
  unfold PySem.W.tabIn
  simp only [a, l, hc, q, v]
theorem tabs_two {P1 P2 : Addr} {x1 x2 : Str} {H : Hp} (h2 : H P2 = some (.tbl #[])) (h1 : H P1 = some (.tbl #[])) : LamX.Tabs [(P2, x2), (P1, x1)] H := by
  intro p hp
  rcases List.mem_cons.mp hp with rfl | h
  · exact .nil h2
  · rw [List.mem_singleton] at h
    subst h
    exact .nil h1
theorem two_tabs {P1 P2 : Addr} {x1 x2 : Str} (ne : P1 ≠ P2) : (∀ p ∈ [(P2, x2), (P1, x1)], p.1 = P2 → p.2 = x2) ∧ ∀ p ∈ [(P2, x2), (P1, x1)], p.1 = P1 → p.2 = x1 := by
  constructor
  · intro p hp e
    rcases List.mem_cons.mp hp with rfl | h
    · rfl
    · rw [List.mem_singleton] at h
      subst h
      exact absurd e ne
  · intro p hp e
    rcases List.mem_cons.mp hp with rfl | h
    · exact absurd e.symm ne
    · rw [List.mem_singleton] at h
      subst h
      rfl

theorem all_mk {l : PySem.W.OpenLaw} {q : Program} {dL dT : DefRec} {h : Heap} {fa f_draw f_begun f_fraction f_plus f_minus f_times f_over f_isn f_isf f_gcd f_like f_lowest f_signed f_pair f_is f_sign f_compare f_floor f_heard f_two f_vals f_law CT CB CN cL PL cT PT : Addr} (X : K.In h) (G : h.Ns mainGlobals mg) (hfa : mg "law" = some (.ref fa)) (TO : TabsOf q K h)
    {odL odT od_draw an_draw od_begun an_begun od_fraction an_fraction od_plus an_plus od_minus an_minus od_times an_times od_over an_over od_isn an_isn od_isf an_isf od_gcd an_gcd od_like an_like od_lowest an_lowest od_signed an_signed od_pair an_pair od_is an_is od_sign an_sign od_compare an_compare od_floor an_floor od_heard an_heard od_two an_two od_vals an_vals od_law an_law : Option Addr} {slL slT sl_draw sl_begun sl_fraction sl_plus sl_minus sl_times sl_over sl_isn sl_isf sl_gcd sl_like sl_lowest sl_signed sl_pair sl_is sl_sign sl_compare sl_floor sl_heard sl_two sl_vals sl_law : Array (Option Value)} {ocL ocT : Value} {vsL vsT : Array Value}
    {oc_draw kV_draw dc_draw pm_draw cd_draw ct_draw oc_begun kV_begun dc_begun pm_begun cd_begun ct_begun oc_fraction kV_fraction dc_fraction pm_fraction cd_fraction ct_fraction oc_plus kV_plus dc_plus pm_plus cd_plus ct_plus oc_minus kV_minus dc_minus pm_minus cd_minus ct_minus oc_times kV_times dc_times pm_times cd_times ct_times oc_over kV_over dc_over pm_over cd_over ct_over oc_isn kV_isn dc_isn pm_isn cd_isn ct_isn oc_isf kV_isf dc_isf pm_isf cd_isf ct_isf oc_gcd kV_gcd dc_gcd pm_gcd cd_gcd ct_gcd oc_like kV_like dc_like pm_like cd_like ct_like oc_lowest kV_lowest dc_lowest pm_lowest cd_lowest ct_lowest oc_signed kV_signed dc_signed pm_signed cd_signed ct_signed oc_pair kV_pair dc_pair pm_pair cd_pair ct_pair oc_is kV_is dc_is pm_is cd_is ct_is oc_sign kV_sign dc_sign pm_sign cd_sign ct_sign oc_compare kV_compare dc_compare pm_compare cd_compare ct_compare oc_floor kV_floor dc_floor pm_floor cd_floor ct_floor oc_heard kV_heard dc_heard pm_heard cd_heard ct_heard oc_two kV_two dc_two pm_two ct_two oc_vals kV_vals dc_vals pm_vals cd_vals ct_vals oc_law kV_law dc_law pm_law ct_law : Value}
    (a_draw : PySem.W.nsIn K mainGlobals "_law_draw" = some (some (.ref f_draw))) (l_draw : K.lookup f_draw = some ⟨oc_draw, od_draw, .func (PySem.W.fnOf "_law_draw" "_law_draw" (defArgs s_draw) (defBody s_draw) (defScope s_draw) .none kV_draw dc_draw pm_draw an_draw (cd_draw) ct_draw), sl_draw⟩) (c_draw : PySem.W.codeIn K (cd_draw) "_law_draw" = true) (k_draw : PySem.W.keepIn K (.ref f_draw) = true)
    (a_begun : PySem.W.nsIn K mainGlobals "_law_begun" = some (some (.ref f_begun))) (l_begun : K.lookup f_begun = some ⟨oc_begun, od_begun, .func (PySem.W.fnOf "_law_begun" "_law_begun" (defArgs s_begun) (defBody s_begun) (defScope s_begun) .none kV_begun dc_begun pm_begun an_begun (cd_begun) ct_begun), sl_begun⟩) (c_begun : PySem.W.codeIn K (cd_begun) "_law_begun" = true) (k_begun : PySem.W.keepIn K (.ref f_begun) = true)
    (a_fraction : PySem.W.nsIn K mainGlobals "fraction" = some (some (.ref f_fraction))) (l_fraction : K.lookup f_fraction = some ⟨oc_fraction, od_fraction, .func (PySem.W.fnOf "fraction" "fraction" (defArgs s_fraction) (defBody s_fraction) (defScope s_fraction) .none kV_fraction dc_fraction pm_fraction an_fraction (cd_fraction) ct_fraction), sl_fraction⟩) (c_fraction : PySem.W.codeIn K (cd_fraction) "fraction" = true) (k_fraction : PySem.W.keepIn K (.ref f_fraction) = true)
    (a_plus : PySem.W.nsIn K mainGlobals "plus" = some (some (.ref f_plus))) (l_plus : K.lookup f_plus = some ⟨oc_plus, od_plus, .func (PySem.W.fnOf "plus" "plus" (defArgs s_plus) (defBody s_plus) (defScope s_plus) .none kV_plus dc_plus pm_plus an_plus (cd_plus) ct_plus), sl_plus⟩) (c_plus : PySem.W.codeIn K (cd_plus) "plus" = true) (k_plus : PySem.W.keepIn K (.ref f_plus) = true)
    (a_minus : PySem.W.nsIn K mainGlobals "minus" = some (some (.ref f_minus))) (l_minus : K.lookup f_minus = some ⟨oc_minus, od_minus, .func (PySem.W.fnOf "minus" "minus" (defArgs s_minus) (defBody s_minus) (defScope s_minus) .none kV_minus dc_minus pm_minus an_minus (cd_minus) ct_minus), sl_minus⟩) (c_minus : PySem.W.codeIn K (cd_minus) "minus" = true) (k_minus : PySem.W.keepIn K (.ref f_minus) = true)
    (a_times : PySem.W.nsIn K mainGlobals "times" = some (some (.ref f_times))) (l_times : K.lookup f_times = some ⟨oc_times, od_times, .func (PySem.W.fnOf "times" "times" (defArgs s_times) (defBody s_times) (defScope s_times) .none kV_times dc_times pm_times an_times (cd_times) ct_times), sl_times⟩) (c_times : PySem.W.codeIn K (cd_times) "times" = true) (k_times : PySem.W.keepIn K (.ref f_times) = true)
    (a_over : PySem.W.nsIn K mainGlobals "over" = some (some (.ref f_over))) (l_over : K.lookup f_over = some ⟨oc_over, od_over, .func (PySem.W.fnOf "over" "over" (defArgs s_over) (defBody s_over) (defScope s_over) .none kV_over dc_over pm_over an_over (cd_over) ct_over), sl_over⟩) (c_over : PySem.W.codeIn K (cd_over) "over" = true) (k_over : PySem.W.keepIn K (.ref f_over) = true)
    (a_isn : PySem.W.nsIn K mainGlobals "is_number" = some (some (.ref f_isn))) (l_isn : K.lookup f_isn = some ⟨oc_isn, od_isn, .func (PySem.W.fnOf "is_number" "is_number" (defArgs s_isn) (defBody s_isn) (defScope s_isn) .none kV_isn dc_isn pm_isn an_isn (cd_isn) ct_isn), sl_isn⟩) (c_isn : PySem.W.codeIn K (cd_isn) "is_number" = true) (k_isn : PySem.W.keepIn K (.ref f_isn) = true)
    (a_isf : PySem.W.nsIn K mainGlobals "is_fraction" = some (some (.ref f_isf))) (l_isf : K.lookup f_isf = some ⟨oc_isf, od_isf, .func (PySem.W.fnOf "is_fraction" "is_fraction" (defArgs s_isf) (defBody s_isf) (defScope s_isf) .none kV_isf dc_isf pm_isf an_isf (cd_isf) ct_isf), sl_isf⟩) (c_isf : PySem.W.codeIn K (cd_isf) "is_fraction" = true) (k_isf : PySem.W.keepIn K (.ref f_isf) = true)
    (a_gcd : PySem.W.nsIn K mainGlobals "_law_gcd" = some (some (.ref f_gcd))) (l_gcd : K.lookup f_gcd = some ⟨oc_gcd, od_gcd, .func (PySem.W.fnOf "_law_gcd" "_law_gcd" (defArgs s_gcd) (defBody s_gcd) (defScope s_gcd) .none kV_gcd dc_gcd pm_gcd an_gcd (cd_gcd) ct_gcd), sl_gcd⟩) (c_gcd : PySem.W.codeIn K (cd_gcd) "_law_gcd" = true) (k_gcd : PySem.W.keepIn K (.ref f_gcd) = true)
    (a_like : PySem.W.nsIn K mainGlobals "_law_like" = some (some (.ref f_like))) (l_like : K.lookup f_like = some ⟨oc_like, od_like, .func (PySem.W.fnOf "_law_like" "_law_like" (defArgs s_like) (defBody s_like) (defScope s_like) .none kV_like dc_like pm_like an_like (cd_like) ct_like), sl_like⟩) (c_like : PySem.W.codeIn K (cd_like) "_law_like" = true) (k_like : PySem.W.keepIn K (.ref f_like) = true)
    (a_lowest : PySem.W.nsIn K mainGlobals "_law_lowest" = some (some (.ref f_lowest))) (l_lowest : K.lookup f_lowest = some ⟨oc_lowest, od_lowest, .func (PySem.W.fnOf "_law_lowest" "_law_lowest" (defArgs s_lowest) (defBody s_lowest) (defScope s_lowest) .none kV_lowest dc_lowest pm_lowest an_lowest (cd_lowest) ct_lowest), sl_lowest⟩) (c_lowest : PySem.W.codeIn K (cd_lowest) "_law_lowest" = true) (k_lowest : PySem.W.keepIn K (.ref f_lowest) = true)
    (a_signed : PySem.W.nsIn K mainGlobals "_law_signed" = some (some (.ref f_signed))) (l_signed : K.lookup f_signed = some ⟨oc_signed, od_signed, .func (PySem.W.fnOf "_law_signed" "_law_signed" (defArgs s_signed) (defBody s_signed) (defScope s_signed) .none kV_signed dc_signed pm_signed an_signed (cd_signed) ct_signed), sl_signed⟩) (c_signed : PySem.W.codeIn K (cd_signed) "_law_signed" = true) (k_signed : PySem.W.keepIn K (.ref f_signed) = true)
    (a_pair : PySem.W.nsIn K mainGlobals "_law_drawn_pair" = some (some (.ref f_pair))) (l_pair : K.lookup f_pair = some ⟨oc_pair, od_pair, .func (PySem.W.fnOf "_law_drawn_pair" "_law_drawn_pair" (defArgs s_pair) (defBody s_pair) (defScope s_pair) .none kV_pair dc_pair pm_pair an_pair (cd_pair) ct_pair), sl_pair⟩) (c_pair : PySem.W.codeIn K (cd_pair) "_law_drawn_pair" = true) (k_pair : PySem.W.keepIn K (.ref f_pair) = true)
    (a_is : PySem.W.nsIn K mainGlobals "_law_is" = some (some (.ref f_is))) (l_is : K.lookup f_is = some ⟨oc_is, od_is, .func (PySem.W.fnOf "_law_is" "_law_is" (defArgs s_is) (defBody s_is) (defScope s_is) .none kV_is dc_is pm_is an_is (cd_is) ct_is), sl_is⟩) (c_is : PySem.W.codeIn K (cd_is) "_law_is" = true) (k_is : PySem.W.keepIn K (.ref f_is) = true)
    (a_sign : PySem.W.nsIn K mainGlobals "sign_of" = some (some (.ref f_sign))) (l_sign : K.lookup f_sign = some ⟨oc_sign, od_sign, .func (PySem.W.fnOf "sign_of" "sign_of" (defArgs s_sign) (defBody s_sign) (defScope s_sign) .none kV_sign dc_sign pm_sign an_sign (cd_sign) ct_sign), sl_sign⟩) (c_sign : PySem.W.codeIn K (cd_sign) "sign_of" = true) (k_sign : PySem.W.keepIn K (.ref f_sign) = true)
    (a_compare : PySem.W.nsIn K mainGlobals "compare" = some (some (.ref f_compare))) (l_compare : K.lookup f_compare = some ⟨oc_compare, od_compare, .func (PySem.W.fnOf "compare" "compare" (defArgs s_compare) (defBody s_compare) (defScope s_compare) .none kV_compare dc_compare pm_compare an_compare (cd_compare) ct_compare), sl_compare⟩) (c_compare : PySem.W.codeIn K (cd_compare) "compare" = true) (k_compare : PySem.W.keepIn K (.ref f_compare) = true)
    (a_floor : PySem.W.nsIn K mainGlobals "floor_of" = some (some (.ref f_floor))) (l_floor : K.lookup f_floor = some ⟨oc_floor, od_floor, .func (PySem.W.fnOf "floor_of" "floor_of" (defArgs s_floor) (defBody s_floor) (defScope s_floor) .none kV_floor dc_floor pm_floor an_floor (cd_floor) ct_floor), sl_floor⟩) (c_floor : PySem.W.codeIn K (cd_floor) "floor_of" = true) (k_floor : PySem.W.keepIn K (.ref f_floor) = true)
    (a_heard : PySem.W.nsIn K mainGlobals "_law_heard" = some (some (.ref f_heard))) (l_heard : K.lookup f_heard = some ⟨oc_heard, od_heard, .func (PySem.W.fnOf "_law_heard" "_law_heard" (defArgs s_heard) (defBody s_heard) (defScope s_heard) .none kV_heard dc_heard pm_heard an_heard (cd_heard) ct_heard), sl_heard⟩) (c_heard : PySem.W.codeIn K (cd_heard) "_law_heard" = true) (k_heard : PySem.W.keepIn K (.ref f_heard) = true)
    (a_two : PySem.W.nsIn K mainGlobals "_law_two_right" = some (some (.ref f_two))) (l_two : K.lookup f_two = some ⟨oc_two, od_two, .func (PySem.W.fnOf "_law_two_right" "_law_two_right" (defArgs s_two) (defBody s_two) (defScope s_two) .none kV_two dc_two pm_two an_two (.ref cT) ct_two), sl_two⟩) (c_two : PySem.W.codeIn K (.ref cT) "_law_two_right" = true) (k_two : PySem.W.keepIn K (.ref f_two) = true)
    (a_vals : PySem.W.nsIn K mainGlobals "_law_values_right" = some (some (.ref f_vals))) (l_vals : K.lookup f_vals = some ⟨oc_vals, od_vals, .func (PySem.W.fnOf "_law_values_right" "_law_values_right" (defArgs s_vals) (defBody s_vals) (defScope s_vals) .none kV_vals dc_vals pm_vals an_vals (cd_vals) ct_vals), sl_vals⟩) (c_vals : PySem.W.codeIn K (cd_vals) "_law_values_right" = true) (k_vals : PySem.W.keepIn K (.ref f_vals) = true)
    (a_law : PySem.W.nsIn K mainGlobals "law" = some (some (.ref f_law))) (l_law : K.lookup f_law = some ⟨oc_law, od_law, .func (PySem.W.fnOf "law" "law" (defArgs s_law) (defBody s_law) (defScope s_law) .none kV_law dc_law pm_law an_law (.ref cL) ct_law), sl_law⟩) (c_law : PySem.W.codeIn K (.ref cL) "law" = true) (k_law : PySem.W.keepIn K (.ref f_law) = true)
    (a_CT : PySem.W.nsIn K mainGlobals "TallyError" = some (some (.ref CT)))
    (a_CB : PySem.W.nsIn K mainGlobals "ByNought" = some (some (.ref CB)))
    (a_CN : PySem.W.nsIn K mainGlobals "NotFit" = some (some (.ref CN)))
    (e_ex : PySem.W.excIn K CB [.type "ValueError", .type "Exception", .type "BaseException", .type "object"] "ValueError.__new__" = true) (e_k : PySem.W.keepIn K (.ref CB) = true) (e_b : PySem.W.subIn K (.ref CB) (.type "BaseException") = some true) (e_t : PySem.W.typeIn K (.ref CB) = some (.type "type"))
    (x_g : PySem.W.findIn K (.ref CB) "__getattribute__" = some (some (.builtin "BaseException.__getattribute__"))) (x_k : PySem.W.findIn K (.ref CB) "__getattr__" = some none) (x_d : PySem.W.hasDictIn K CB = true) (x_a : PySem.W.findIn K (.ref CB) "__class__" = some (some (.builtin "object.__class__"))) (x_n : PySem.W.specialIn K (.builtin "object.__class__") "__get__" = some (some (.builtin "getset_descriptor.__get__"))) (x_t : PySem.W.takesIn K (.builtin "object.__class__") = some true) (x_m : PySem.W.mroIn K CB (.type "object") = some true)
    (y_e : PySem.W.exmOne K (.ref CB) (.ref CT) = some true) (y_V : PySem.W.kitOne K (.ref CB) (.type "ValueError") = some true) (y_B : PySem.W.kitOne K (.ref CB) (.ref CB) = some true) (y_N : PySem.W.kitOne K (.ref CB) (.ref CN) = some false)
    (g_gcd : PySem.W.nsIn K mainGlobals "gcd" = some (some (.builtin "math.gcd")))
    (m_isinstance : PySem.W.nsIn K mainGlobals "isinstance" = some none)
    (m_int : PySem.W.nsIn K mainGlobals "int" = some none)
    (m_bool : PySem.W.nsIn K mainGlobals "bool" = some none)
    (m_tuple : PySem.W.nsIn K mainGlobals "tuple" = some none)
    (m_len : PySem.W.nsIn K mainGlobals "len" = some none)
    (m_abs : PySem.W.nsIn K mainGlobals "abs" = some none)
    (m_list : PySem.W.nsIn K mainGlobals "list" = some none)
    (m_str : PySem.W.nsIn K mainGlobals "str" = some none)
    (m_repr : PySem.W.nsIn K mainGlobals "repr" = some none)
    (m_range : PySem.W.nsIn K mainGlobals "range" = some none)
    (m_ValueError : PySem.W.nsIn K mainGlobals "ValueError" = some none)
    (q_law : K.lookup cL = some ⟨ocL, odL, .fields vsL, slL⟩) (v_law : vsL[11]? = some (.ref PL)) (q_two : K.lookup cT = some ⟨ocT, odT, .fields vsT, slT⟩) (v_two : vsT[11]? = some (.ref PT)) (n_law : K.lookup PL = none) (n_two : K.lookup PT = none) (n_ne : PL ≠ PT)
    (r_law : (recsOf q).find? (fun e => e.name == ("law" : Str)) = some dL) (r_two : (recsOf q).find? (fun e => e.name == ("_law_two_right" : Str)) = some dT) :
    ∃ (fd : FuncData) (cs : List (Addr × Addr)) (sp : Sp), (∀ p ∈ cs, TabK K h p) ∧ (∀ (s : Shared) (u : Value), BindsTo s fd ⟨[u], []⟩ [("script", u)]) ∧
      (∀ (H : Hp) (a : Addr) (ns : List Int), ns.length ≤ 63 → (∀ p ∈ cs, H p.2 = some (.tbl #[])) → SqL K H a (ns.map V.int) → sp [.ref a] H (fun v _ => v = .bl true) fun _ _ _ => False) ∧
      ∀ base : Heap, K.In base → base.Ns mainGlobals mg → (∀ p ∈ cs, LamX.TabB base mg p.1 p.2) → FnG l.prog w K mg base 7 fa fd ["script"] sp := by
  obtain rfl := Value.ref.inj (Option.some.inj (hfa.symm.trans (PySem.W.mg_of X G a_law)))
  have F_draw := fun_mk (st := s_draw) l_draw c_draw k_draw
  have G_draw := PySem.W.mg_of X G a_draw
  have B_draw := F_draw.binds (ps := ["m", "bound"]) fun _ _ _ _ _ _ us hl => match us, hl with | [_, _], _ => rfl
  have F_begun := fun_mk (st := s_begun) l_begun c_begun k_begun
  have G_begun := PySem.W.mg_of X G a_begun
  have B_begun := F_begun.binds (ps := ["script", "k_so"]) fun _ _ _ _ _ _ us hl => match us, hl with | [_, _], _ => rfl
  have F_fraction := fun_mk (st := s_fraction) l_fraction c_fraction k_fraction
  have G_fraction := PySem.W.mg_of X G a_fraction
  have B_fraction := F_fraction.binds (ps := ["a", "b"]) fun _ _ _ _ _ _ us hl => match us, hl with | [_, _], _ => rfl
  have F_plus := fun_mk (st := s_plus) l_plus c_plus k_plus
  have G_plus := PySem.W.mg_of X G a_plus
  have B_plus := F_plus.binds (ps := ["f", "g"]) fun _ _ _ _ _ _ us hl => match us, hl with | [_, _], _ => rfl
  have F_minus := fun_mk (st := s_minus) l_minus c_minus k_minus
  have G_minus := PySem.W.mg_of X G a_minus
  have B_minus := F_minus.binds (ps := ["f", "g"]) fun _ _ _ _ _ _ us hl => match us, hl with | [_, _], _ => rfl
  have F_times := fun_mk (st := s_times) l_times c_times k_times
  have G_times := PySem.W.mg_of X G a_times
  have B_times := F_times.binds (ps := ["f", "g"]) fun _ _ _ _ _ _ us hl => match us, hl with | [_, _], _ => rfl
  have F_over := fun_mk (st := s_over) l_over c_over k_over
  have G_over := PySem.W.mg_of X G a_over
  have B_over := F_over.binds (ps := ["f", "g"]) fun _ _ _ _ _ _ us hl => match us, hl with | [_, _], _ => rfl
  have F_isn := fun_mk (st := s_isn) l_isn c_isn k_isn
  have G_isn := PySem.W.mg_of X G a_isn
  have B_isn := F_isn.binds (ps := ["value"]) fun _ _ _ _ _ _ us hl => match us, hl with | [_], _ => rfl
  have F_isf := fun_mk (st := s_isf) l_isf c_isf k_isf
  have G_isf := PySem.W.mg_of X G a_isf
  have B_isf := F_isf.binds (ps := ["value"]) fun _ _ _ _ _ _ us hl => match us, hl with | [_], _ => rfl
  have F_gcd := fun_mk (st := s_gcd) l_gcd c_gcd k_gcd
  have G_gcd := PySem.W.mg_of X G a_gcd
  have B_gcd := F_gcd.binds (ps := ["a", "c"]) fun _ _ _ _ _ _ us hl => match us, hl with | [_, _], _ => rfl
  have F_like := fun_mk (st := s_like) l_like c_like k_like
  have G_like := PySem.W.mg_of X G a_like
  have B_like := F_like.binds (ps := ["got", "due"]) fun _ _ _ _ _ _ us hl => match us, hl with | [_, _], _ => rfl
  have F_lowest := fun_mk (st := s_lowest) l_lowest c_lowest k_lowest
  have G_lowest := PySem.W.mg_of X G a_lowest
  have B_lowest := F_lowest.binds (ps := ["a", "c"]) fun _ _ _ _ _ _ us hl => match us, hl with | [_, _], _ => rfl
  have F_signed := fun_mk (st := s_signed) l_signed c_signed k_signed
  have G_signed := PySem.W.mg_of X G a_signed
  have B_signed := F_signed.binds (ps := ["m", "most"]) fun _ _ _ _ _ _ us hl => match us, hl with | [_, _], _ => rfl
  have F_pair := fun_mk (st := s_pair) l_pair c_pair k_pair
  have G_pair := PySem.W.mg_of X G a_pair
  have B_pair := F_pair.binds (ps := ["m"]) fun _ _ _ _ _ _ us hl => match us, hl with | [_], _ => rfl
  have F_is := fun_mk (st := s_is) l_is c_is k_is
  have G_is := PySem.W.mg_of X G a_is
  have B_is := F_is.binds (ps := ["value_so"]) fun _ _ _ _ _ _ us hl => match us, hl with | [_], _ => rfl
  have F_sign := fun_mk (st := s_sign) l_sign c_sign k_sign
  have G_sign := PySem.W.mg_of X G a_sign
  have B_sign := F_sign.binds (ps := ["number"]) fun _ _ _ _ _ _ us hl => match us, hl with | [_], _ => rfl
  have F_compare := fun_mk (st := s_compare) l_compare c_compare k_compare
  have G_compare := PySem.W.mg_of X G a_compare
  have B_compare := F_compare.binds (ps := ["f", "g"]) fun _ _ _ _ _ _ us hl => match us, hl with | [_, _], _ => rfl
  have F_floor := fun_mk (st := s_floor) l_floor c_floor k_floor
  have G_floor := PySem.W.mg_of X G a_floor
  have B_floor := F_floor.binds (ps := ["f"]) fun _ _ _ _ _ _ us hl => match us, hl with | [_], _ => rfl
  have F_heard := fun_mk (st := s_heard) l_heard c_heard k_heard
  have G_heard := PySem.W.mg_of X G a_heard
  have B_heard := F_heard.binds (ps := ["call"]) fun _ _ _ _ _ _ us hl => match us, hl with | [_], _ => rfl
  have F_two := fun_mk (st := s_two) l_two c_two k_two
  have G_two := PySem.W.mg_of X G a_two
  have B_two := F_two.binds (ps := ["f", "g"]) fun _ _ _ _ _ _ us hl => match us, hl with | [_, _], _ => rfl
  have F_vals := fun_mk (st := s_vals) l_vals c_vals k_vals
  have G_vals := PySem.W.mg_of X G a_vals
  have B_vals := F_vals.binds (ps := ["m", "f"]) fun _ _ _ _ _ _ us hl => match us, hl with | [_, _], _ => rfl
  have F_law := fun_mk (st := s_law) l_law c_law k_law
  have G_law := PySem.W.mg_of X G a_law
  have B_law := F_law.binds (ps := ["script"]) fun _ _ _ _ _ _ us hl => match us, hl with | [_], _ => rfl
  have M_isinstance := PySem.W.mg_none_of X G m_isinstance
  have M_int := PySem.W.mg_none_of X G m_int
  have M_bool := PySem.W.mg_none_of X G m_bool
  have M_tuple := PySem.W.mg_none_of X G m_tuple
  have M_len := PySem.W.mg_none_of X G m_len
  have M_abs := PySem.W.mg_none_of X G m_abs
  have M_list := PySem.W.mg_none_of X G m_list
  have M_str := PySem.W.mg_none_of X G m_str
  have M_repr := PySem.W.mg_none_of X G m_repr
  have M_range := PySem.W.mg_none_of X G m_range
  have M_ValueError := PySem.W.mg_none_of X G m_ValueError
  have gg := PySem.W.mg_of X G g_gcd
  have EB : ExcT K mg "ByNought" CB := ⟨PySem.W.mg_of X G a_CB, e_ex, e_k, e_b, e_t⟩
  have EX : Exs K mg CT CB CN := ⟨PySem.W.mg_of X G a_CT, PySem.W.mg_of X G a_CN, EB, ⟨x_g, x_k, e_b, x_d, x_a, x_n, x_t, x_m⟩, y_e, y_V, y_B, y_N⟩
  have HF : HeardF K mg f_heard := ⟨G_heard, F_heard.kp, oc_heard, kV_heard, dc_heard, pm_heard, cd_heard, ct_heard, od_heard, an_heard, sl_heard, l_heard, c_heard, B_heard⟩
  have t_law : PySem.W.tabIn K "law" = some (cL, PL) := tab_in a_law l_law rfl q_law v_law
  have t_two : PySem.W.tabIn K "_law_two_right" = some (cT, PT) := tab_in a_two l_two rfl q_two v_two
  have TL := TO _ _ _ _ r_law t_law n_law
  have TT := TO _ _ _ _ r_two t_two n_two
  obtain ⟨u2, u1⟩ := two_tabs (x1 := "law.<locals>.<lambda>") (x2 := "_law_two_right.<locals>.<lambda>") n_ne
  refine ⟨PySem.W.fnOf "law" "law" (defArgs s_law) (defBody s_law) (defScope s_law) .none kV_law dc_law pm_law an_law (.ref cL) ct_law, [(cT, PT), (cL, PL)], spLaw [(PT, "_law_two_right.<locals>.<lambda>"), (PL, "law.<locals>.<lambda>")] K, ?_, fun s v => .of_eq rfl, ?_, ?_⟩
  · intro p hp
    rcases List.mem_cons.mp hp with rfl | z
    · exact TT
    · rw [List.mem_singleton] at z
      subst z
      exact TL
  · intro H a ns hl hT hS
    exact ⟨a, ns, rfl, hS, hl, tabs_two (hT _ (List.mem_cons_self)) (hT _ (List.mem_cons_of_mem _ (List.mem_cons_self))), fun _ => rfl⟩
  · intro base KB NB TB
    have tT := TB _ (List.mem_cons_self)
    have tL := TB _ (List.mem_cons_of_mem _ (List.mem_cons_self))
    have C_draw := cal_of (P := l.prog) (w := w) (base := base) F_draw G_draw (ok_draw F_draw M_int M_len) B_draw
    have C_begun := cal_of (P := l.prog) (w := w) (base := base) F_begun G_begun (ok_begun F_begun M_int) B_begun
    have C_fraction := cal_of (P := l.prog) (w := w) (base := base) F_fraction G_fraction (ok_fraction F_fraction gg) B_fraction
    have C_plus := cal_of (P := l.prog) (w := w) (base := base) F_plus G_plus (ok_plus F_plus C_fraction) B_plus
    have C_minus := cal_of (P := l.prog) (w := w) (base := base) F_minus G_minus (ok_minus F_minus C_fraction) B_minus
    have C_times := cal_of (P := l.prog) (w := w) (base := base) F_times G_times (ok_times F_times C_fraction) B_times
    have C_over := cal_of (P := l.prog) (w := w) (base := base) F_over G_over (ok_over F_over C_fraction) B_over
    have C_isn := cal_of (P := l.prog) (w := w) (base := base) F_isn G_isn (ok_isn F_isn M_isinstance M_int M_bool) B_isn
    have C_isf := cal_of (P := l.prog) (w := w) (base := base) F_isf G_isf (ok_isf F_isf C_isn M_isinstance M_tuple M_len gg) B_isf
    have C_gcd := cal_of (P := l.prog) (w := w) (base := base) F_gcd G_gcd (ok_gcd F_gcd M_abs M_int) B_gcd
    have C_like := calG_of (P := l.prog) (w := w) (base := base) F_like G_like (ok_like F_like M_repr) B_like
    have C_lowest := cal_of (P := l.prog) (w := w) (base := base) F_lowest G_lowest (ok_lowest F_lowest C_gcd) B_lowest
    have C_signed := cal_of (P := l.prog) (w := w) (base := base) F_signed G_signed (ok_signed F_signed C_draw) B_signed
    have C_pair := cal_of (P := l.prog) (w := w) (base := base) F_pair G_pair (ok_pair F_pair C_draw C_signed) B_pair
    have C_is := cal_of (P := l.prog) (w := w) (base := base) F_is G_is (ok_is F_is C_gcd M_isinstance M_tuple M_len M_int M_bool) B_is
    have C_sign := cal_of (P := l.prog) (w := w) (base := base) F_sign G_sign (ok_sign F_sign M_int) B_sign
    have C_compare := cal_of (P := l.prog) (w := w) (base := base) F_compare G_compare (ok_compare F_compare C_sign) B_compare
    have C_floor := cal_of (P := l.prog) (w := w) (base := base) F_floor G_floor (ok_floor F_floor) B_floor
    have X_fraction : CalX l.prog w K mg base 1 "fraction" ["a", "b"] (spFracX CB) := ⟨_, _, ok_fractionX F_fraction gg EB, G_fraction, F_fraction.kp, B_fraction⟩
    have X_over : CalX l.prog w K mg base 2 "over" ["f", "g"] (spOverX CB) := ⟨_, _, ok_overX F_over (ok_fractionX F_fraction gg EB) G_fraction F_fraction.kp B_fraction, G_over, F_over.kp, B_over⟩
    have O_two := ok_two (P := l.prog) (w := w) (base := base) l_two c_two tT (T := [(PT, "_law_two_right.<locals>.<lambda>"), (PL, "law.<locals>.<lambda>")]) (List.mem_cons_self) u2 HF EX C_lowest C_plus C_minus C_times C_compare C_like X_over M_isinstance M_ValueError M_int
    have C_two : CalG l.prog w K mg base 6 "_law_two_right" ["f", "g"] _ := ⟨_, _, O_two, G_two, F_two.kp, B_two⟩
    have C_vals := calG_of (P := l.prog) (w := w) (base := base) F_vals G_vals (ok_vals F_vals C_draw C_isf C_is C_like M_list M_str) B_vals
    exact ok_law l_law c_law tL (List.mem_cons_of_mem _ (List.mem_cons_self)) u1 HF EX C_begun C_pair C_lowest C_fraction C_floor C_plus C_minus C_times C_over C_like C_two C_vals X_fraction M_isinstance M_ValueError M_range
end
end K08
open PySem PySem.W PyProof.Rows
set_option maxHeartbeats 0 in
theorem PySem.Challenge.cw_pointtally_k08_whole_fractions_holds : PySem.Challenge.rw_pointtally_k08_whole_fractions.Holds := by
  w_on; o_law; k_head; (case hw => w_witness2)
  k_fill
  refine Vk.walk_ofT (l := PySem.Challenge.rw_pointtally_k08_whole_fractions) (n := 63) (k := 7) (x := "script") rfl (by decide) rfl ⟨rfl, by decide, by decide⟩ (fun w h Y => PySem.W.km_in_of Y) ?F
  case F =>
    intro w mg fa h KX G hmg TO
    refine' K08.all_mk KX G hmg TO ?a_draw ?l_draw ?c_draw ?k_draw ?a_begun ?l_begun ?c_begun ?k_begun ?a_fraction ?l_fraction ?c_fraction ?k_fraction ?a_plus ?l_plus ?c_plus ?k_plus ?a_minus ?l_minus ?c_minus ?k_minus ?a_times ?l_times ?c_times ?k_times ?a_over ?l_over ?c_over ?k_over ?a_isn ?l_isn ?c_isn ?k_isn ?a_isf ?l_isf ?c_isf ?k_isf ?a_gcd ?l_gcd ?c_gcd ?k_gcd ?a_like ?l_like ?c_like ?k_like ?a_lowest ?l_lowest ?c_lowest ?k_lowest ?a_signed ?l_signed ?c_signed ?k_signed ?a_pair ?l_pair ?c_pair ?k_pair ?a_is ?l_is ?c_is ?k_is ?a_sign ?l_sign ?c_sign ?k_sign ?a_compare ?l_compare ?c_compare ?k_compare ?a_floor ?l_floor ?c_floor ?k_floor ?a_heard ?l_heard ?c_heard ?k_heard ?a_two ?l_two ?c_two ?k_two ?a_vals ?l_vals ?c_vals ?k_vals ?a_law ?l_law ?c_law ?k_law ?a_CT ?a_CB ?a_CN ?e_ex ?e_k ?e_b ?e_t ?x_g ?x_k ?x_d ?x_a ?x_n ?x_t ?x_m ?y_e ?y_V ?y_B ?y_N ?g_gcd ?m_isinstance ?m_int ?m_bool ?m_tuple ?m_len ?m_abs ?m_list ?m_str ?m_repr ?m_range ?m_ValueError ?q_law ?v_law ?q_two ?v_two ?n_law ?n_two ?n_ne ?r_law ?r_two
    (case a_draw => k_is)
    (case l_draw => k_is)
    (case c_draw => k_is)
    (case k_draw => k_is)
    (case a_begun => k_is)
    (case l_begun => k_is)
    (case c_begun => k_is)
    (case k_begun => k_is)
    (case a_fraction => k_is)
    (case l_fraction => k_is)
    (case c_fraction => k_is)
    (case k_fraction => k_is)
    (case a_plus => k_is)
    (case l_plus => k_is)
    (case c_plus => k_is)
    (case k_plus => k_is)
    (case a_minus => k_is)
    (case l_minus => k_is)
    (case c_minus => k_is)
    (case k_minus => k_is)
    (case a_times => k_is)
    (case l_times => k_is)
    (case c_times => k_is)
    (case k_times => k_is)
    (case a_over => k_is)
    (case l_over => k_is)
    (case c_over => k_is)
    (case k_over => k_is)
    (case a_isn => k_is)
    (case l_isn => k_is)
    (case c_isn => k_is)
    (case k_isn => k_is)
    (case a_isf => k_is)
    (case l_isf => k_is)
    (case c_isf => k_is)
    (case k_isf => k_is)
    (case a_gcd => k_is)
    (case l_gcd => k_is)
    (case c_gcd => k_is)
    (case k_gcd => k_is)
    (case a_like => k_is)
    (case l_like => k_is)
    (case c_like => k_is)
    (case k_like => k_is)
    (case a_lowest => k_is)
    (case l_lowest => k_is)
    (case c_lowest => k_is)
    (case k_lowest => k_is)
    (case a_signed => k_is)
    (case l_signed => k_is)
    (case c_signed => k_is)
    (case k_signed => k_is)
    (case a_pair => k_is)
    (case l_pair => k_is)
    (case c_pair => k_is)
    (case k_pair => k_is)
    (case a_is => k_is)
    (case l_is => k_is)
    (case c_is => k_is)
    (case k_is => k_is)
    (case a_sign => k_is)
    (case l_sign => k_is)
    (case c_sign => k_is)
    (case k_sign => k_is)
    (case a_compare => k_is)
    (case l_compare => k_is)
    (case c_compare => k_is)
    (case k_compare => k_is)
    (case a_floor => k_is)
    (case l_floor => k_is)
    (case c_floor => k_is)
    (case k_floor => k_is)
    (case a_heard => k_is)
    (case l_heard => k_is)
    (case c_heard => k_is)
    (case k_heard => k_is)
    (case a_two => k_is)
    (case l_two => k_is)
    (case c_two => k_is)
    (case k_two => k_is)
    (case a_vals => k_is)
    (case l_vals => k_is)
    (case c_vals => k_is)
    (case k_vals => k_is)
    (case a_law => k_is)
    (case l_law => k_is)
    (case c_law => k_is)
    (case k_law => k_is)
    (case a_CT => k_is)
    (case a_CB => k_is)
    (case a_CN => k_is)
    (case e_ex => kernel_rfl)
    (case e_k => k_is)
    (case e_b => k_is)
    (case e_t => k_is)
    (case x_g => k_is)
    (case x_k => k_is)
    (case x_d => k_is)
    (case x_a => k_is)
    (case x_n => k_is)
    (case x_t => k_is)
    (case x_m => k_is)
    (case y_e => kernel_rfl)
    (case y_V => kernel_rfl)
    (case y_B => kernel_rfl)
    (case y_N => kernel_rfl)
    (case g_gcd => k_is)
    (case m_isinstance => k_is)
    (case m_int => k_is)
    (case m_bool => k_is)
    (case m_tuple => k_is)
    (case m_len => k_is)
    (case m_abs => k_is)
    (case m_list => k_is)
    (case m_str => k_is)
    (case m_repr => k_is)
    (case m_range => k_is)
    (case m_ValueError => k_is)
    (case q_law => k_is)
    (case v_law => rfl)
    (case q_two => k_is)
    (case v_two => rfl)
    (case n_law => kernel_rfl)
    (case n_two => kernel_rfl)
    (case n_ne => decide)
    (case r_law => rfl)
    (case r_two => rfl)
