import PyProof.Rows.All
import Wide.All
import OpenK.AllK
import Wide.FinOn
import KE.KStateDown
import HandS.Base
import HandS.Call
import HandS.List
import HandS.Comp
import HandS.Ends
import HandS.Words
import HandS.Dict
import HandS.Iter
import HandS.Text
import HandS.StrMore
import HandS.Defaults
import HandS.Head0
import HandS.Head1
import HandS.Head2
import HandS.HeadHook1
import HandS.HeadHook2
import HandS.Evl
import HandS.ForMost
import HandS.Walk
import HandS.IsInst
import HandS.HeadEnd
import HandS.HeadHook3
import HandS.HeadHook4
import HandS.More
import KE.KExcIs
import HandS.Exc
import HandS.ExcInit
import HandS.ExcField
import HandS.ExcIs
import HandS.ExcValue
import HandS.ClsMeth
import HandS.MakeKwOnly
import HandS.FStr
import HandS.FStrTup
import KE.KDictItemsList
import HandS.Zip
import HandS.Strs
import PyProof.TypeEq
import KE.KxText
import KE.KxStill
import KE.KIntText
import PySem.Challenge.RW_frozenmakers_k10_refusals_apart
set_option Elab.async false
set_option linter.all false
set_option maxRecDepth 100000
set_option maxHeartbeats 2000000
/-! LK: what the laws of this program want besides: a def that is entered where no repr is under way, repr of data, a call by keywords alone, type(x). -/
namespace LK
open PySem PySem.Spec PyProof.Rows L2

/-- a promise that is kept where no repr is under way -/
structure FnG (P : Program) (w : World) (K : PySem.W.Frag) (mg : Str → Option Value) (base : Heap) (k : Nat) (f : Addr) (fd : FuncData) (ps : List Str) (sp : Sp) : Prop where
  len : ∀ vs H Q E, sp vs H Q E → vs.length = ps.length
  go : ∀ A outer s H args us vs Q E, A.guards = some [] → Room k A → Env0 P w K mg base A outer s H → BindsTo s fd args (ps.zip us) → Vals vs us →
    sp vs H Q E → codeAny (model P w) A (.call (.ref f) args) (CR CX0 outer P w H s Q E) s

theorem FnG.of {P : Program} {w : World} {K : PySem.W.Frag} {mg : Str → Option Value} {base : Heap} {k : Nat} {f : Addr} {fd : FuncData}
    {x qual : Str} {params : Arguments} {body : List Stmt} {scope : Scope} {dvs : List V} {kws : List (Str × V)} {N ps : List Str} {sp : Sp}
    (F : FunD K x qual params body scope dvs kws f fd) (S : FnScope N ps scope) (len : ∀ vs H Q E, sp vs H Q E → vs.length = ps.length)
    (hb : ∀ cdv A outer s H vs Q E, A.guards = some [] → Room k (A.deeper (envOfC qual scope s.heap.objs.size f cdv)) → sp vs H Q E →
      ∃ t, PSs (cxOf CX0 P w K mg base N qual scope f cdv A outer s H E).nox body t ∧
        t { nx := fun _ H' => Q .non H', rt := Q } (start N vs) H) :
    FnG P w K mg base (k + 1) f fd ps sp := by
  obtain ⟨oc, od, dV, kV, doc, pm, an, cdv, ct, osl, rfl, lk, hcd, _, _⟩ := F.ex
  constructor
  · exact len
  intro A outer s H args us vs Q E hG hR e0 hB hV hP
  have up : ∀ b o, base.get? b = some o → s.heap.get? b = some o := fun b o q => (e0.bs b o q).1
  have kin := e0.mod.kin.keeps up
  have lim := e0.mod.nolimit.keeps up
  refine codeAny_call_function hR.depth (kin _ _ lk) rfl S.co S.gen rfl (PySem.W.codeRec_of kin hcd) (hB _ _ _ _ ?_)
  refine wpAny_newFunctionEnv_cells S.kind ?kinds ?rest
  case kinds =>
    rintro ⟨n, u⟩ hm
    rcases S.par n (List.of_mem_zip hm).1 with q | q
    · left; exact q
    · right; exact ⟨q, PySem.W.cellsFrom_some _ _ _ (.inl q)⟩
  case rest =>
    rintro env rfl s1 hs
    refine ⟨lim.keeps hs.toInCall.keep, codeAny_func ?_⟩
    obtain ⟨t, pt, ht⟩ := hb cdv A outer s H vs Q E hG (hR.deeper _) hP
    have I := inv_start (CX := CX0) (E := E) S hR.hd e0 (len _ _ _ _ hP) hV hs
    have run := pt.nox.run [] s1 (start N vs) H _ I ht
    refine wpAny_mono run ?_ (fun _ _ z => z)
    intro fl s' h
    cases fl with
    | ret u =>
      obtain ⟨v, σ', H', J, rv, q⟩ := h
      exact ⟨v, H', J.os, J.bare, J.base, J.hok, rv, q⟩
    | next =>
      obtain ⟨σ', H', J, q⟩ := h
      exact ⟨.non, H', J.os, J.bare, J.base, J.hok, rfl, q⟩
    | brk => exact h.choose_spec.choose_spec.2.elim
    | cont => exact h.choose_spec.choose_spec.2.elim

/-- every def that keeps its promise anywhere keeps it there -/
theorem FnG.any {P : Program} {w : World} {K : PySem.W.Frag} {mg : Str → Option Value} {base : Heap} {k : Nat} {f : Addr} {fd : FuncData} {ps : List Str} {sp : Sp}
    (F : FnOk P w K mg base CX0 k f fd ps sp) : FnG P w K mg base k f fd ps sp :=
  ⟨F.len, fun A outer s H args us vs Q E _ hr e0 hb hv h => F.run A outer s H args us vs Q E hr e0 hb hv h⟩

section
variable {X : Cx} {k : Nat} {f : Addr} {fd : FuncData} {ps : List Str} {sp : Sp} {x : Str} {p pos : Pos} {e : Expr} {es : List Expr} {t : TA}
/-- a call of such a def -/
theorem pe_callG (F : FnG X.prog X.w X.K X.mg X.base k f fd ps sp) (hG : X.A.guards = some []) (hr : Room k X.A) (hg : Gl X x)
    (hm : X.mg x = some (.ref f)) (hk : PySem.W.keepIn X.K (.ref f) = true) (hb : Binds X.K fd ps []) (ha : PA X (e :: es) t)
    (hdb : (x == ("__debug__" : Str)) = false := by decide)
    (he : starEach (e :: es) X.env = (false, eval e X.env) :: starEach es X.env := by rfl)
    (hpl : (backTo pos (starEach es X.env)).any (·.1) = false := by rfl) :
    PE X (.Call (.Name x p) (e :: es) [] pos) (tCall sp [] E0 t) := by
  constructor
  intro pins s σ H Q I h
  refine wpAny_Call_Name_kw (ld_glob I hg hm ?_ hdb)
  refine PySem.W.callWith_K (h₀ := X.base) I.ok.mod.kin hk (thn (ha.run pos pins s σ H _ I h) ?_) he hpl
  rintro us s1 ⟨vs, H1, I1, r, q⟩
  refine ⟨I1.kIn, wpAny_call ?_⟩
  rw [List.append_nil] at q
  have hl : us.length = ps.length := r.length.symm.trans (F.len _ _ _ _ q)
  have hb' := hb s1 us I1.kIn (by rw [List.append_nil]; exact hl)
  rw [List.append_nil] at hb'
  refine codeAny_mono (F.go X.A X.stack s1 H1 ⟨us, []⟩ us vs Q E0 hG hr I1.env0 hb' r q) ?_
  intro res s' hq
  cases res with
  | error e => exact False.elim hq
  | ok fl =>
    cases fl with
    | ret u => exact I1.after hq
    | next => exact False.elim hq
    | brk => exact False.elim hq
    | cont => exact False.elim hq
end

/-! ### a call by keywords alone -/
section
variable {X : Cx} {CX : CXT} {k : Nat} {f : Addr} {fd : FuncData} {ps ks : List Str} {sp : Sp} {E : XK} {x : Str} {p pos : Pos} {kws : List Keyword} {tk : TA}
  {g : List Value → List Value → List Value} {gV : List V → List V → List V}
theorem pe_callK0 (F : FnOk X.prog X.w X.K X.mg X.base CX k f fd ps sp) (hr : Room k X.A) (hg : Gl X x) (hm : X.mg x = some (.ref f))
    (hk : PySem.W.keepIn X.K (.ref f) = true) (hb : KBinds X.K fd ps ks g gV) (hx : Passes CX X E) (hkw : PK X kws tk)
    (hall : (backToKw pos (keywordEach kws X.env)).all (·.1.isSome) = true := by rfl)
    (hks : (backToKw pos (keywordEach kws X.env)).filterMap (·.1) = ks := by rfl)
    (hdb : (x == ("__debug__" : Str)) = false := by decide)
    (hpl : ((backTo pos (starEach [] X.env)).any (·.1) || (backToKw pos (keywordEach kws X.env)).any (·.1.isNone)) = false := by rfl) :
    PE X (.Call (.Name x p) [] kws pos) (tCallK sp gV E tNil tk) := by
  constructor
  intro pins s σ H Q I h
  refine wpAny_Call_Name_kw (ld_glob I hg hm ?_ hdb)
  refine PySem.W.callWith_KW0 (h₀ := X.base) I.ok.mod.kin hk hall ?_ hpl
  refine thn (hkw.run pos pins s σ H _ I h) ?_
  rintro ws s1 ⟨zs, H1, I1, rz, q⟩
  refine ⟨I1.kIn, ?_⟩
  rw [hks]
  exact run_fnk (us := []) (vs := []) F hr hb hx I1 .nil rz q
end
end LK
set_option Elab.async false
set_option linter.all false
set_option maxRecDepth 100000
set_option maxHeartbeats 2000000
namespace LK
open PySem PySem.Spec PyProof.Rows L2

/-! ### the law's own call -/
section
variable {P : Program} {w : World} {K : PySem.W.Frag} {mg mb : Str → Option Value} {k : Nat} {fa a : Addr} {fd : FuncData} {x : Str} {sp : Sp} {s : Shared} {vs : List Value} {ns : List Int}
/-- from a heap H of which only the script may be told -/
theorem law_at {H : Hp} (kin : K.In s.heap) (gl : s.heap.Ns mainGlobals mg) (bl : s.heap.Ns builtinsNs mb) (bb : ∀ x : Str, x ≠ "__name__" → mb x = bootBuiltins x)
    (nl : s.heap.NoLimit) (gs : s.gens = #[]) (sa : s.heap.get? a = some { cls := .type "list", data := .seq vs.toArray }) (room : Room k callerA)
    (F : ∀ base : Heap, K.In base → base.Ns mainGlobals mg → FnG P w K mg base k fa fd [x] sp) (hb : ∀ (s : Shared) (u : Value), BindsTo s fd ⟨[u], []⟩ [(x, u)])
    (only : Only H) (just : ∀ b, H b ≠ none → b = a) (out : H a ≠ none → K.lookup a = none) (ok : HOk P w H s.heap)
    (hsp : sp [.ref a] H (fun v _ => v = .bl true) E0) :
    codeAny (model P w) callerA (.call (.ref fa) ⟨[.ref a], []⟩) (fun r s' => r = .ok (.ret (.bool true)) ∧ PySem.OldK s.heap s'.heap ∧ s'.os = s.os ∧ AllBare s'.gens) s := by
  have seen : ∀ {b : Addr} {o : Obj}, s.heap.get? b = some o → H b = none → (hidT s.heap H).get? b = some o := fun e n => hidT_get e n
  have bare : ∀ {b : Addr}, b ≠ a → H b = none := by
    intro b hne
    cases q : H b with
    | none => rfl
    | some u => exact absurd (just b (by rw [q]; exact fun z => nomatch z)) hne
  have nsH : ∀ {b : Addr} {m : Str → Option Value}, s.heap.Ns b m → (hidT s.heap H).Ns b m := by
    rintro b m ⟨o, es, ep, e, d, r⟩
    refine ⟨o, es, ep, seen e (bare ?_), d, r⟩
    rintro rfl
    rw [sa] at e
    cases e
    cases d
  have kinH : K.In (hidT s.heap H) := by
    intro b o e
    refine seen (kin b o e) ?_
    cases q : H b with
    | none => rfl
    | some u =>
      have nn : H b ≠ none := by rw [q]; exact fun z => nomatch z
      obtain rfl := just b nn
      rw [out nn] at e
      cases e
  have M : Mod K mg (hidT s.heap H) := by
    refine ⟨kinH, nsH gl, ⟨mb, nsH bl, bb⟩, ?_⟩
    obtain ⟨mc, l1, l2⟩ := nl
    exact ⟨mc, nsH l1, l2⟩
  have env : Env0 P w K mg (hidT s.heap H) callerA [] s H :=
    { frames := rfl, mod := M, bs := fun b o e => of_hidT e, bsz := Nat.le_of_eq (hidT_size _ _), funs := trivial, frf := fun b hm => absurd hm (by show ¬ b ∈ ([] : List Addr); simp), hok := ok, bare := .of_eq gs }
  refine codeAny_mono ((F _ kinH (nsH gl)).go callerA [] s H ⟨[.ref a], []⟩ [.ref a] [.ref a] _ _ rfl room env (hb s (.ref a)) (.cons rfl .nil) hsp) ?_
  intro r s' h
  cases r with
  | error e => exact False.elim h
  | ok fl =>
    cases fl with
    | next => exact False.elim h
    | brk => exact False.elim h
    | cont => exact False.elim h
    | ret u =>
      obtain ⟨v, H', os, bg, un, ok', rv, q⟩ := h
      have ev : v = .bl true := q
      subst ev
      have eu : u = Value.bool true := rv
      subst eu
      refine ⟨rfl, PySem.OldK.of_keep ?_, os, bg⟩
      intro b o e
      cases hq : H b with
      | none => exact un.keep b o e hq (fun z => absurd z (by show ¬ b ∈ ([] : List Addr); simp)) (by simp)
      | some u =>
        rcases only b with z | ⟨ob, xs, z⟩
        · rw [z] at hq; cases hq
        · have e1 := (ok b _ z).1
          have e2 := (ok' b _ (un.frzs b ob _ z)).1
          rw [e] at e1
          cases e1
          exact e2
theorem lawG (kin : K.In s.heap) (gl : s.heap.Ns mainGlobals mg) (bl : s.heap.Ns builtinsNs mb) (bb : ∀ x : Str, x ≠ "__name__" → mb x = bootBuiltins x)
    (nl : s.heap.NoLimit) (gs : s.gens = #[]) (sa : s.heap.get? a = some { cls := .type "list", data := .seq vs.toArray }) (hi : IntsAre vs ns) (hl : ns.length ≤ sizeLine) (room : Room k callerA)
    (F : ∀ base : Heap, K.In base → base.Ns mainGlobals mg → FnG P w K mg base k fa fd [x] sp) (hb : ∀ (s : Shared) (u : Value), BindsTo s fd ⟨[u], []⟩ [(x, u)])
    (hsp : ∀ H : Hp, Only H → SqL K H a (ns.map V.int) → sp [.ref a] H (fun v _ => v = .bl true) E0) :
    codeAny (model P w) callerA (.call (.ref fa) ⟨[.ref a], []⟩) (fun r s' => r = .ok (.ret (.bool true)) ∧ PySem.OldK s.heap s'.heap ∧ s'.os = s.os ∧ AllBare s'.gens) s := by
  have rv := vals_ints hi
  have hlen := hi.length
  cases hk : K.lookup a with
  | some o =>
    have e := kin a o hk
    rw [sa] at e
    cases e
    have S : SqL K (fun _ => none) a (ns.map V.int) := .inr ⟨_, vs.toArray, _, hk, rfl, rfl, rfl, by rw [List.size_toArray, hlen]; exact hl, by simpa using rv⟩
    have on : Only (fun _ => none) := fun _ => .inl rfl
    exact law_at kin gl bl bb nl gs sa room F hb on (fun b z => absurd rfl z) (fun z => absurd rfl z) (fun b u z => nomatch (show (none : Option HO) = some u from z)) (hsp _ on S)
  | none =>
    let o : HO := .frz { cls := .type "list", data := .seq vs.toArray } (.lst (ns.map V.int))
    let H : Hp := upd (fun _ => none) a o
    have at_a : H a = some o := upd_same
    have at_b : ∀ b, b ≠ a → H b = none := fun b hne => upd_ne hne
    have on : Only H := by
      intro b
      by_cases h : b = a
      · right; rw [h]; exact ⟨_, _, at_a⟩
      · left; exact at_b b h
    have S : SqL K H a (ns.map V.int) := .inl (.inr ⟨_, at_a⟩)
    refine law_at kin gl bl bb nl gs sa room F hb on (fun b z => ?_) (fun _ => hk) (fun b u z => ?_) (hsp _ on S)
    · by_cases h : b = a
      · exact h
      · exact absurd (at_b b h) z
    · by_cases h : b = a
      · subst h
        rw [at_a] at z
        cases z
        exact ⟨sa, by rw [List.length_map]; exact hl, vs, _, rv, sa⟩
      · rw [at_b b h] at z
        cases z
end
/-- the end over a head by facts -/
theorem walkG {l : PySem.W.OpenLaw} {n k : Nat} {q : Program} {loose : List Str} {XP : (Str → Option Value) → Heap → Prop} {YP : World → Heap → Prop} {d : DefRec} {x : Str}
    (hn : l.most = some n) (hn2 : n ≤ sizeLine) (hdf : d.params.defaults = []) (room : Room k callerA)
    (F : ∀ (w : World) (mg : Str → Option Value) (fa : Addr) (h : Heap), YP w h → h.Ns mainGlobals mg → mg d.name = some (.ref fa) →
      ∃ (K : PySem.W.Frag) (fd : FuncData) (sp : Sp), K.In h ∧ (∀ (s : Shared) (u : Value), BindsTo s fd ⟨[u], []⟩ [(x, u)]) ∧
        (∀ (H : Hp) (a : Addr) (ns : List Int), ns.length ≤ n → Only H → SqL K H a (ns.map V.int) → sp [.ref a] H (fun v _ => v = .bl true) E0) ∧
        ∀ base : Heap, K.In base → base.Ns mainGlobals mg → FnG l.prog w K mg base k fa fd [x] sp) :
    PySem.W.WalkO q loose XP YP l.row.toRowW d [] (fun f vs => PySem.call f vs) := by
  refine Att.attach_call hn hdf ?_
  intro w s₀ s₁ mg mb fa o pm cd doc a vs ns G Y ho hd hcd hmg hobj hints hlen hg
  obtain ⟨K, fd, sp, kin, hb, hsp, hF⟩ := F w mg fa _ Y G.T.g hmg
  exact lawG kin G.T.g G.T.b G.T.builtins G.T.nolimit hg hobj hints (Nat.le_trans hlen hn2) room hF hb fun H on S => hsp H a ns hlen on S

/-! ### repr of data -/
section
variable {X : Cx} {pins : List (Addr × Obj)} {σ : L2.St} {H : Hp} {s : Shared}
/-- data as Dp tells it, or a dict of texts and numbers to such -/
def Dq (K : PySem.W.Frag) (H : Hp) (v : V) (d : PyData) : Prop :=
  Dp K H v d ∨ ∃ a kvs ds, v = .ref a ∧ H a = some (.dK kvs) ∧ DpAll K H (kvs.map (·.2)) ds ∧
    d = .dict ((kvs.map fun p => match p.1 with | .inl i => PyData.int i | .inr z => PyData.str z).zip ds)
def keyD : Key → PyData
  | .inl i => .int i
  | .inr z => .str z
def rRepr (K : PySem.W.Frag) : List V → Hp → VK → Prop := fun xs H Q => ∃ x d, xs = [x] ∧ Dp K H x d ∧ d.showable = true ∧ d.depth ≤ 60 ∧ d.shown.length ≤ sizeLine ∧ Q (.str d.shown) H
theorem dp_nodict {K : PySem.W.Frag} {H : Hp} : ∀ (d : PyData) (v : V), Dp K H v d → d.hasDict = false := by
  intro d v h
  exact Dp.rec (motive_1 := fun v d _ => d.hasDict = false) (motive_2 := fun vs ds _ => PyData.hasDictAll ds = false)
    rfl (fun _ => rfl) (fun _ => rfl) (fun _ => rfl)
    (fun _ _ ih => by show PyData.hasDictAll _ = false; exact ih)
    (fun _ _ ih => by show PyData.hasDictAll _ = false; exact ih)
    rfl (fun _ _ i1 i2 => by show (_ || _) = false; rw [i1, i2]; rfl) h
theorem call_repr (hG : X.A.guards = some []) (hu : X.A.units + 64 < cLine) : CallR X (.builtin "repr") (rRepr X.K) := by
  intro pins s σ H xs us Q I r h
  obtain ⟨x, d, rfl, hd, hs, hdep, hsz, q⟩ := h
  obtain ⟨u, rfl, rx⟩ := vals1 r
  have fin : ∀ h' tk t, (∀ b o, s.heap.get? b = some o → h'.get? b = some o) → EP X pins σ Q (.str d.shown t) { s with heap := h', toks := tk } :=
    fun h' tk t kp => ⟨.str d.shown, H, I.kept kp, ⟨t, rfl⟩, q⟩
  have same : ∀ tk t, EP X pins σ Q (.str d.shown t) { s with toks := tk } := fun tk t => fin s.heap tk t fun _ _ z => z
  cases hd with
  | non => cases rx; exact PySem.P.repr_of_none (same _ _)
  | bl b => cases rx; exact PySem.P.repr_of_bool (by
      have e : (PyData.bool b).shown = (if b then "True" else "False" : Str) := rfl
      cases b <;> exact same _ _)
  | int i =>
    obtain ⟨t, rfl⟩ := rx
    have hi : i.natAbs.log2 < 1920 := of_decide_eq_true hs
    exact PySem.P.repr_of_int hi (same _ _)
  | str z =>
    obtain ⟨t, rfl⟩ := rx
    exact PySem.P.repr_of_str (same _ _) hsz
  | lst hl ha =>
    cases rx
    obtain ⟨as, rd⟩ := Dp.reads I _ _ _ (.lst hl ha) rfl
    exact repr_of_reads' rd hs (PyData.noDict_hsm (dp_nodict _ _ (.lst hl ha))) hG (by omega) (fun _ _ z => z) (fun h' t tk kp => fin h' tk t kp) hsz
  | tup hl ha =>
    cases rx
    obtain ⟨as, rd⟩ := Dp.reads I _ _ _ (.tup hl ha) rfl
    exact repr_of_reads' rd hs (PyData.noDict_hsm (dp_nodict _ _ (.tup hl ha))) hG (by omega) (fun _ _ z => z) (fun h' t tk kp => fin h' tk t kp) hsz
end
end LK
set_option Elab.async false
set_option linter.all false
set_option maxRecDepth 100000
set_option maxHeartbeats 2000000
namespace LK
open PySem PySem.Spec PyProof.Rows L2 Evl

/-! ### the state from which a law draws: its dict at s, the list of great cells at g -/
def stK (g : Addr) (r t sd : Int) (c : Addr) : List (Key × V) :=
  [(.inr "great", .ref g), (.inr "rest", .int r), (.inr "turn", .int t), (.inr "seed", .int sd), (.inr "cells", .ref c)]
/-- where a law's state stands: its dict, the great cells' list, the cells' list -/
structure Dr where
  s : Addr
  g : Addr
  c : Addr
/-- the parts of the state as they stand -/
structure StR (H : Hp) (d : Dr) (r t sd : Int) (gs cs : List Int) : Prop where
  hs : H d.s = some (.dK (stK d.g r t sd d.c))
  hg : H d.g = some (.lst (gs.map V.int))
  hc : H d.c = some (.lst (cs.map V.int))
  ncg : d.c ≠ d.g
structure StN (n : Nat) (r t sd : Int) (gs cs : List Int) : Prop where
  r0 : 0 ≤ r
  t0 : 0 ≤ t
  t1 : t ≤ (n : Int)
  s0 : 0 ≤ sd
  s1 : sd < 2147483648
  gs0 : ∀ z ∈ gs, 0 ≤ z
  cs0 : cs ≠ []
  cs1 : ∀ z ∈ cs, 0 ≤ z ∧ z < 2147483648
  csl : cs.length ≤ 100
  gsl : gs.length ≤ 100
/-- at most n draws were mixed so far -/
def StAt (H : Hp) (d : Dr) (n : Nat) : Prop := ∃ r t sd gs cs, StR H d r t sd gs cs ∧ StN n r t sd gs cs
/-- all but the state's own two things stands as it stood -/
def Fr (d : Dr) (H H' : Hp) : Prop := ∀ b o, H b = some o → b ≠ d.s → b ≠ d.g → H' b = some o
section
variable {d : Dr} {H H' H1 H2 : Hp} {p l : Addr} {r t sd : Int} {gs cs : List Int} {n m : Nat} {o u : HO}
theorem Fr.refl (H : Hp) : Fr d H H := fun _ _ h _ _ => h
theorem Fr.trans (a : Fr d H H1) (b : Fr d H1 H2) : Fr d H H2 := fun c o h h1 h2 => b c o (a c o h h1 h2) h1 h2
theorem Fr.same (a : Same H H1) : Fr d H H1 := fun c o h _ _ => a c o h
theorem Fr.new (h : H p = none) : Fr d H (upd H p o) := fun c u e _ _ => by rw [upd_ne (ne_of_none e h)]; exact e
theorem Fr.s : Fr d H (upd H d.s o) := fun c u e h _ => by rw [upd_ne h]; exact e
theorem Fr.g : Fr d H (upd H d.g o) := fun c u e _ h => by rw [upd_ne h]; exact e
theorem same_new (h : H p = none) : Same H (upd H p o) := fun b u e => by rw [upd_ne (ne_of_none e h)]; exact e
theorem StR.nsg (S : StR H d r t sd gs cs) : d.s ≠ d.g := ne_of S.hs S.hg (by intro z; cases z)
theorem StR.nsc (S : StR H d r t sd gs cs) : d.s ≠ d.c := ne_of S.hs S.hc (by intro z; cases z)
theorem StR.same (S : StR H d r t sd gs cs) (e : Same H H') : StR H' d r t sd gs cs := ⟨e _ _ S.hs, e _ _ S.hg, e _ _ S.hc, S.ncg⟩
theorem StR.new (S : StR H d r t sd gs cs) (h : H p = none) : StR (upd H p o) d r t sd gs cs := S.same (same_new h)
theorem StR.put (S : StR H d r t sd gs cs) {r' t' sd' : Int} : StR (upd H d.s (.dK (stK d.g r' t' sd' d.c))) d r' t' sd' gs cs :=
  ⟨upd_same, by rw [upd_ne S.nsg.symm]; exact S.hg, by rw [upd_ne S.nsc.symm]; exact S.hc, S.ncg⟩
theorem StR.pop (S : StR H d r t sd gs cs) {gs' : List Int} : StR (upd H d.g (.lst (gs'.map V.int))) d r t sd gs' cs :=
  ⟨by rw [upd_ne S.nsg]; exact S.hs, upd_same, by rw [upd_ne S.ncg]; exact S.hc, S.ncg⟩
theorem StAt.mono (S : StAt H d n) (h : n ≤ m) : StAt H d m := by
  obtain ⟨r, t, sd, gs, cs, R, N⟩ := S
  exact ⟨r, t, sd, gs, cs, R, { N with t1 := by have := N.t1; omega }⟩
theorem StAt.same (S : StAt H d n) (e : Same H H') : StAt H' d n := by
  obtain ⟨r, t, sd, gs, cs, R, N⟩ := S
  exact ⟨r, t, sd, gs, cs, R.same e, N⟩
theorem StAt.new (S : StAt H d n) (h : H p = none) : StAt (upd H p o) d n := S.same (same_new h)
theorem StAt.ns (S : StAt H d n) (h : H l = none) : l ≠ d.s := by
  obtain ⟨r, t, sd, gs, cs, R, _⟩ := S
  rintro rfl
  rw [R.hs] at h; cases h
theorem StAt.ng (S : StAt H d n) (h : H l = none) : l ≠ d.g := by
  obtain ⟨r, t, sd, gs, cs, R, _⟩ := S
  rintro rfl
  rw [R.hg] at h; cases h
theorem StAt.nc (S : StAt H d n) (h : H l = none) : l ≠ d.c := by
  obtain ⟨r, t, sd, gs, cs, R, _⟩ := S
  rintro rfl
  rw [R.hc] at h; cases h
/-- another thing changes -/
theorem StAt.upd (S : StAt H d n) (h1 : l ≠ d.s) (h2 : l ≠ d.g) (h3 : l ≠ d.c) : StAt (upd H l o) d n := by
  obtain ⟨r, t, sd, gs, cs, R, N⟩ := S
  exact ⟨r, t, sd, gs, cs, ⟨by rw [upd_ne h1.symm]; exact R.hs, by rw [upd_ne h2.symm]; exact R.hg, by rw [upd_ne h3.symm]; exact R.hc, R.ncg⟩, N⟩
/-- a thing laid while the state stood: it stays -/
theorem Fr.stay (f : Fr d (L2.upd H l o) H') (S : StAt H d n) (h : H l = none) : H' l = some o := f l o upd_same (S.ns h) (S.ng h)
end

/-! ### keys of that dict -/
theorem kne {a b : Str} (h : ¬ a = b) : ¬ ((Sum.inr a : Key) = Sum.inr b) := fun z => h (Sum.inr.inj z)
theorem k_gr : ¬ (("great" : Str) = "rest") := by decide +kernel
theorem k_gt : ¬ (("great" : Str) = "turn") := by decide +kernel
theorem k_gs : ¬ (("great" : Str) = "seed") := by decide +kernel
theorem k_gc : ¬ (("great" : Str) = "cells") := by decide +kernel
theorem k_rg : ¬ (("rest" : Str) = "great") := by decide +kernel
theorem k_rt : ¬ (("rest" : Str) = "turn") := by decide +kernel
theorem k_rs : ¬ (("rest" : Str) = "seed") := by decide +kernel
theorem k_rc : ¬ (("rest" : Str) = "cells") := by decide +kernel
theorem k_tg : ¬ (("turn" : Str) = "great") := by decide +kernel
theorem k_tr : ¬ (("turn" : Str) = "rest") := by decide +kernel
theorem k_ts : ¬ (("turn" : Str) = "seed") := by decide +kernel
theorem k_tc : ¬ (("turn" : Str) = "cells") := by decide +kernel
theorem k_sg : ¬ (("seed" : Str) = "great") := by decide +kernel
theorem k_sr : ¬ (("seed" : Str) = "rest") := by decide +kernel
theorem k_st : ¬ (("seed" : Str) = "turn") := by decide +kernel
theorem k_sc : ¬ (("seed" : Str) = "cells") := by decide +kernel
section
variable {g c : Addr} {r t sd : Int}
theorem st_great : valV (stK g r t sd c) (.inr "great" : Key) = some (.ref g) := valV_pos rfl
theorem st_rest : valV (stK g r t sd c) (.inr "rest" : Key) = some (.int r) := (valV_neg (kne k_gr)).trans (valV_pos rfl)
theorem st_turn : valV (stK g r t sd c) (.inr "turn" : Key) = some (.int t) := (valV_neg (kne k_gt)).trans ((valV_neg (kne k_rt)).trans (valV_pos rfl))
theorem st_seed : valV (stK g r t sd c) (.inr "seed" : Key) = some (.int sd) := (valV_neg (kne k_gs)).trans ((valV_neg (kne k_rs)).trans ((valV_neg (kne k_ts)).trans (valV_pos rfl)))
theorem st_cells : valV (stK g r t sd c) (.inr "cells" : Key) = some (.ref c) :=
  (valV_neg (kne k_gc)).trans ((valV_neg (kne k_rc)).trans ((valV_neg (kne k_tc)).trans ((valV_neg (kne k_sc)).trans (valV_pos rfl))))
theorem put_rest {y : Int} : putK (stK g r t sd c) (.inr "rest" : Key) (.int y) = stK g y t sd c := by
  simp [putK, stK, k_gr, k_tr, k_sr, Ne.symm k_rc, k_rc, k_rg, k_rt, k_rs, kne]
theorem put_turn {y : Int} : putK (stK g r t sd c) (.inr "turn" : Key) (.int y) = stK g r y sd c := by
  simp [putK, stK, k_gt, k_rt, k_st, k_tc]
  decide +kernel
theorem put_seed {y : Int} : putK (stK g r t sd c) (.inr "seed" : Key) (.int y) = stK g r t y c := by
  simp [putK, stK, k_gs, k_rs, k_ts, k_sc]
  decide +kernel
theorem merge_st {gv rv tv sv cv : V} : mergeK [] [((.inr "great" : Key), gv), (.inr "rest", rv), (.inr "turn", tv), (.inr "seed", sv), (.inr "cells", cv)] =
    [((.inr "great" : Key), gv), (.inr "rest", rv), (.inr "turn", tv), (.inr "seed", sv), (.inr "cells", cv)] := by
  simp [mergeK, putK, k_gr, k_gt, k_gs, k_gc, k_rt, k_rs, k_rc, k_ts, k_tc, k_sc]
end
section
variable {H : Hp} {d : Dr} {r t sd : Int} {gs cs : List Int}
theorem st_len {g c : Addr} : (stK g r t sd c).length < sizeLine := by show 5 < sizeLine; decide
theorem g_great (S : StR H d r t sd gs cs) : DGet H d.s (.str "great") (some (.ref d.g)) := st_great (r := r) (t := t) (sd := sd) (c := d.c) ▸ DGet.k (k := (.inr "great" : Key)) S.hs
theorem g_rest (S : StR H d r t sd gs cs) : DGet H d.s (.str "rest") (some (.int r)) := st_rest (g := d.g) (t := t) (sd := sd) (c := d.c) ▸ DGet.k (k := (.inr "rest" : Key)) S.hs
theorem g_turn (S : StR H d r t sd gs cs) : DGet H d.s (.str "turn") (some (.int t)) := st_turn (g := d.g) (r := r) (sd := sd) (c := d.c) ▸ DGet.k (k := (.inr "turn" : Key)) S.hs
theorem g_seed (S : StR H d r t sd gs cs) : DGet H d.s (.str "seed") (some (.int sd)) := st_seed (g := d.g) (r := r) (t := t) (c := d.c) ▸ DGet.k (k := (.inr "seed" : Key)) S.hs
theorem g_cells (S : StR H d r t sd gs cs) : DGet H d.s (.str "cells") (some (.ref d.c)) := st_cells (g := d.g) (r := r) (t := t) (sd := sd) ▸ DGet.k (k := (.inr "cells" : Key)) S.hs
theorem p_rest (S : StR H d r t sd gs cs) {y : Int} : DPut H d.s (.str "rest") (.int y) (upd H d.s (.dK (stK d.g y t sd d.c))) := put_rest (r := r) (y := y) ▸ DPut.k (k := (.inr "rest" : Key)) (v := .int y) S.hs st_len
theorem p_turn (S : StR H d r t sd gs cs) {y : Int} : DPut H d.s (.str "turn") (.int y) (upd H d.s (.dK (stK d.g r y sd d.c))) := put_turn (t := t) (y := y) ▸ DPut.k (k := (.inr "turn" : Key)) (v := .int y) S.hs st_len
theorem p_seed (S : StR H d r t sd gs cs) {y : Int} : DPut H d.s (.str "seed") (.int y) (upd H d.s (.dK (stK d.g r t y d.c))) := put_seed (sd := sd) (y := y) ▸ DPut.k (k := (.inr "seed" : Key)) (v := .int y) S.hs st_len
end
theorem seq0 {n : Nat} : seqIndex? 0 (n + 1) = some 0 := by simp [seqIndex?]
theorem at_of {xs : List V} {z : Int} {j : Nat} {v : V} (e : z = (j : Int)) (h : xs[j]? = some v) : atI xs z = some v := e ▸ atI_nat h
/-! ### lists of numbers as data -/
theorem dp_ints {K : PySem.W.Frag} {H : Hp} : ∀ l : List Int, DpAll K H (l.map V.int) (l.map PyData.int)
  | [] => .nil
  | z :: l => .cons (.int z) (dp_ints l)
theorem lay_ints : ∀ l : List Int, PyData.canLayAll0 (l.map PyData.int) = true
  | [] => rfl
  | z :: l => by show (true && PyData.canLayAll0 (l.map PyData.int)) = true; rw [lay_ints l]; rfl
theorem deep_ints : ∀ l : List Int, PyData.depthAll (l.map PyData.int) = 0
  | [] => rfl
  | z :: l => by show max 0 (PyData.depthAll (l.map PyData.int)) = 0; rw [deep_ints l]; rfl
theorem shaped_ints (l : List Int) : SeqAt.shaped (.list (l.map PyData.int)) = true := by
  show (PyData.canLayAll0 (l.map PyData.int) && decide (PyData.depthAll (l.map PyData.int) + 1 ≤ 64)) = true
  rw [lay_ints, deep_ints]; rfl
/-! ### a thing to pick from -/
def chr1 (c : Nat) : V := .str ⟨#[c]⟩
def Pk (K : PySem.W.Frag) (H : Hp) (v : V) (xs : List V) : Prop :=
  (∃ p, v = .ref p ∧ (SqL K H p xs ∨ SqT K H p xs)) ∨ ∃ z : Str, v = .str z ∧ xs = z.cps.toList.map chr1
section
variable {K : PySem.W.Frag} {H H' : Hp} {d : Dr} {p : Addr} {n : Nat} {xs : List V} {v : V}
theorem Fr.seqL (f : Fr d H H') (S : StAt H d n) (h : SqL K H p xs) (hg : p ≠ d.g) : SqL K H' p xs := by
  obtain ⟨r, t, sd, gs, cs, R, _⟩ := S
  rcases h with (h | ⟨o, h⟩) | h
  · exact .inl (.inl (f _ _ h (ne_of h R.hs (by intro z; cases z)) hg))
  · exact .inl (.inr ⟨o, f _ _ h (ne_of h R.hs (by intro z; cases z)) hg⟩)
  · exact .inr h
theorem Fr.seqT (f : Fr d H H') (S : StAt H d n) (h : SqT K H p xs) : SqT K H' p xs := by
  obtain ⟨r, t, sd, gs, cs, R, _⟩ := S
  rcases h with (h | ⟨o, h⟩) | h
  · exact .inl (.inl (f _ _ h (ne_of h R.hs (by intro z; cases z)) (ne_of h R.hg (by intro z; cases z))))
  · exact .inl (.inr ⟨o, f _ _ h (ne_of h R.hs (by intro z; cases z)) (ne_of h R.hg (by intro z; cases z))⟩)
  · exact .inr h
theorem Pk.fr (h : Pk K H v xs) (f : Fr d H H') (S : StAt H d n) (hg : v ≠ .ref d.g) : Pk K H' v xs := by
  rcases h with ⟨p, rfl, h⟩ | ⟨z, rfl, rfl⟩
  · have hp : p ≠ d.g := fun e => hg (by rw [e])
    rcases h with h | h
    · exact .inl ⟨p, rfl, .inl (f.seqL S h hp)⟩
    · exact .inl ⟨p, rfl, .inr (f.seqT S h)⟩
  · exact .inr ⟨z, rfl, rfl⟩
/-- its length -/
theorem Pk.len (h : Pk K H v xs) (hl : xs.length ≤ 1000) : LenV K v H xs.length := by
  rcases h with ⟨p, rfl, h | h⟩ | ⟨z, rfl, rfl⟩
  · exact .inl ⟨xs, h, rfl⟩
  · exact .inr ⟨xs, h, rfl⟩
  · refine ⟨?_, ?_⟩
    · rw [List.length_map] at hl
      exact Nat.le_trans hl (by decide)
    · rw [List.length_map]; rfl
/-- its item at i -/
theorem Pk.ix (h : Pk K H v xs) (hl : xs.length ≤ 1000) {i : Int} (h0 : 0 ≤ i) (h1 : i < (xs.length : Int)) {Q : VK} (q : ∀ x, x ∈ xs → Q x H) : rIx K v (.int i) H Q := by
  obtain ⟨j, rfl⟩ : ∃ j : Nat, i = (j : Int) := ⟨i.toNat, by omega⟩
  have hi : j < xs.length := by omega
  rcases h with ⟨p, rfl, h | h⟩ | ⟨z, rfl, rfl⟩
  · exact .inl ⟨p, xs, j, _, rfl, rfl, h, atI_nat (List.getElem?_eq_getElem hi), q _ (List.getElem_mem hi)⟩
  · exact .inr (.inl ⟨p, xs, j, _, rfl, rfl, h, atI_nat (List.getElem?_eq_getElem hi), q _ (List.getElem_mem hi)⟩)
  · rw [List.length_map] at hi hl
    have hz : z.length = z.cps.toList.length := rfl
    exact .inr (.inr ⟨z, j, z.cps.toList[j], rfl, rfl, Nat.le_trans (hz ▸ hl) (by decide), atI_nat (List.getElem?_eq_getElem hi), q _ (List.mem_map.mpr ⟨_, List.getElem_mem hi, rfl⟩)⟩)
end
theorem et_yes {σ : L2.St} {H : Hp} : EvT tYes σ H true := fun H1 _ Q q => q H1 (Ex.refl H1)
theorem given_ints {n : Nat} {f : Nat → Bool} {v : Nat → Int} : given n f (fun i => V.int (v i)) = (((List.range n).filter f).map v).map V.int := by
  unfold given
  rw [List.map_map]
  rfl
theorem t_c {v : V} {σ : L2.St} {H : Hp} {Q : VK} (h : Q v H) : tC v σ H Q := h
end LK
set_option Elab.async false
set_option linter.all false
set_option maxRecDepth 100000
set_option maxHeartbeats 2000000
namespace LK
open PySem PySem.Spec PyProof.Rows L2 Evl

/-! ### type(x), isinstance by it -/
inductive Ty6 (K : PySem.W.Frag) (H : Hp) : V → String → Prop
  | non : Ty6 K H .non "NoneType"
  | bl (b : Bool) : Ty6 K H (.bl b) "bool"
  | int (i : Int) : Ty6 K H (.int i) "int"
  | str (x : Str) : Ty6 K H (.str x) "str"
  | lst {a : Addr} {xs : List V} (e : H a = some (.lst xs)) : Ty6 K H (.ref a) "list"
  | tup {a : Addr} {xs : List V} (e : SqT K H a xs) : Ty6 K H (.ref a) "tuple"
  | dic {a : Addr} {kvs : List (Key × V)} (e : H a = some (.dK kvs)) : Ty6 K H (.ref a) "dict"
section
variable {X : Cx}
def rTy6 (K : PySem.W.Frag) : List V → Hp → VK → Prop := fun xs H Q => ∃ x T, xs = [x] ∧ Ty6 K H x T ∧ Q (.ty T) H
theorem call_ty6 : CallR X (.type "type") (rTy6 X.K) := by
  intro pins s σ H xs us Q I r h
  obtain ⟨x, T, rfl, t, q⟩ := h
  obtain ⟨u, rfl, rx⟩ := vals1 r
  have fin : EP X pins σ Q (.type T) s := ⟨.ty T, H, I, rfl, q⟩
  cases t with
  | non => cases rx; exact call_type_of (typeIs_none s) (by decide +kernel) fin
  | bl b => cases rx; exact call_type_of (PySem.typeIs_bool s b) (by decide +kernel) fin
  | int i => obtain ⟨k, rfl⟩ := rx; exact call_type_of (typeIs_int s i k) (by decide +kernel) fin
  | str z => obtain ⟨k, rfl⟩ := rx; exact call_type_of (typeIs_str s z k) (by decide +kernel) fin
  | lst e =>
    cases rx
    obtain ⟨its, rv, p, _⟩ := I.list (.inl (.inl e))
    exact call_type_of p.isList.typeIs (by decide +kernel) fin
  | tup e =>
    cases rx
    obtain ⟨its, rv, p, _⟩ := I.tuple e
    exact call_type_of p.typeIs (by decide +kernel) fin
  | dic e =>
    cases rx
    obtain ⟨_, _, vs, _, o, es, ep, g, ex, _⟩ := I.hok _ _ e
    exact call_type_of (Tx := "dict") ⟨o, g, ex.1⟩ (by decide +kernel) fin
theorem Ty6.tyX {K : PySem.W.Frag} {H : Hp} {x : V} {T : String} (t : Ty6 K H x T) : TyX K H x (.type T) := by
  cases t with
  | non => exact .base .non
  | bl b => exact .base (.bl b)
  | int i => exact .base (.int i)
  | str z => exact .base (.str z)
  | lst e => exact .base (.lst e)
  | tup e =>
    rcases e with (e | ⟨o, e⟩) | ⟨o, its, n, e, c, _⟩
    · exact .base (.tup e)
    · exact .fTuple e
    · exact .kTuple e c
  | dic e => exact .base (.dK e)
end

/-! ### comprehensions over a text -/
section
variable {K : PySem.W.Frag} {σ : L2.St} {H : Hp} {te : TE} {t : TT}
theorem el_lcS {z : Str} {tl : TE} {j : Nat} {vs : List Nat} (f : Nat → Bool) (v : Nat → V) (h : Ev tl σ H (.str z)) (hz : z.cps.size ≤ 40000)
    (hw : ∀ x, wipe ((wipe σ vs).set j (some x)) vs = wipe σ vs)
    (ht : ∀ (i : Nat) (c : Nat) H1, Ex H H1 → z.cps[i]? = some c → EvT t ((wipe σ vs).set j (some (chr1 c))) H1 (f i))
    (he : ∀ (i : Nat) (c : Nat) H1, Ex H H1 → z.cps[i]? = some c → f i = true → Ev te ((wipe σ vs).set j (some (chr1 c))) H1 (v i)) :
    EvL (tLc (iStr tl) (gName j) t te vs) σ H (given z.cps.size f v) := by
  intro H0 e Q q
  refine h H0 e _ fun H1 e1 => ⟨z, rfl, fun Dl hD => ?_⟩
  refine lc_it walk_str (Cw H1 f v Dl) ⟨hD, Ex.new hD, upd_same⟩ (fun _ _ _ _ => trivial) ?_ (fun H' p => q Dl H' (fresh_back e1 p.1) (e1.trans p.2.1) p.2.2)
  rintro i x H2 H' hi p ⟨rfl, c, hc, rfl⟩
  exact ⟨hw _, cw_turn p (by omega) (ht i c H1 (e.trans e1) hc) (fun hf => he i c H1 (e.trans e1) hc hf)⟩
theorem given_nil {n : Nat} {f : Nat → Bool} {v : Nat → V} (h : ∀ i, i < n → f i = false) : given n f v = [] := by
  unfold given
  have e : (List.range n).filter f = [] := by
    rw [List.filter_eq_nil_iff]
    intro i hi
    rw [h i (List.mem_range.mp hi)]
    decide
  rw [e]
  rfl
theorem given_cons {n i : Nat} {f : Nat → Bool} {v : Nat → V} (hi : i < n) (h : f i = true) : given n f v ≠ [] := by
  unfold given
  intro e
  have m : v i ∈ ((List.range n).filter f).map v := List.mem_map.mpr ⟨i, List.mem_filter.mpr ⟨List.mem_range.mpr hi, h⟩, rfl⟩
  rw [e] at m
  cases m
end

/-! ### repr of a dict of texts to texts -/
section
variable {X : Cx}
/-- {z: y} -/
def oneD (z y : Str) : PyData := .dict [(.str z, .str y)]
theorem reads_one {pins : List (Addr × Obj)} {σ : L2.St} {H : Hp} {s : Shared} {a : Addr} {z y : Str} (I : Inv X pins σ H s)
    (e : H a = some (.dK [((.inr z : Key), .str y)])) : a ≠ sysModules ∧ Reads s.heap (.ref a) (oneD z y) [a] := by
  obtain ⟨_, nm, vs, kv, o, es, ep, g, ex, d, _, pr, _⟩ := I.hok _ _ e
  refine ⟨beq_eq_false_iff_ne.mp nm, ?_⟩
  cases kv with
  | @cons _ q l1 l2 h1 h2 =>
    cases h2
    obtain ⟨qk, qv⟩ := q
    obtain ⟨e1, t, e2⟩ := h1
    have e1' : qk = .inr z := e1.symm
    have e2' : qv = Value.str y t := e2
    subst e1' e2'
    generalize hes : es.toList = l at pr
    cases pr with
    | @cons en _ _ _ hk hv pr =>
      cases pr
      have hk' : keyIs (.inr z) en.key = true := hk
      rcases keyIs_shape hk' with ⟨i, t', ek, _⟩ | ⟨x, t', ek, ev⟩
      · cases ek
      · cases ek
        have hv' : en.val = Value.str y t := hv
        have r1 : ReadsAll s.heap (es.toList.map (·.key)) ([((PyData.str z), PyData.str y)].map (·.1)) [] := by
          rw [hes]
          show ReadsAll s.heap [en.key] [PyData.str z] []
          rw [ev]
          exact ReadsAll.cons (.str z t') .nil
        have r2 : ReadsAll s.heap (es.toList.map (·.val)) ([((PyData.str z), PyData.str y)].map (·.2)) [] := by
          rw [hes]
          show ReadsAll s.heap [en.val] [PyData.str y] []
          rw [hv']
          exact ReadsAll.cons (.str y t) .nil
        exact Reads.dict g ex.1 d r1 r2
/-- repr of data, or of {z: y} -/
def ReprOf (K : PySem.W.Frag) (H : Hp) (x : V) (r : Str) : Prop :=
  (∃ d, Dp K H x d ∧ d.showable = true ∧ d.depth ≤ 60 ∧ d.shown.length ≤ sizeLine ∧ r = d.shown) ∨
  ∃ a z y, x = .ref a ∧ H a = some (.dK [((.inr z : Key), .str y)]) ∧ (oneD z y).shown.length ≤ sizeLine ∧ r = (oneD z y).shown
def rReprQ (K : PySem.W.Frag) : List V → Hp → VK → Prop := fun xs H Q => ∃ x r, xs = [x] ∧ ReprOf K H x r ∧ Q (.str r) H
theorem call_reprQ (hG : X.A.guards = some []) (hu : X.A.units + 64 < cLine) : CallR X (.builtin "repr") (rReprQ X.K) := by
  intro pins s σ H xs us Q I r h
  obtain ⟨x, t, rfl, hx, q⟩ := h
  rcases hx with ⟨d, h1, h2, h3, h4, rfl⟩ | ⟨a, z, y, rfl, e, hz, rfl⟩
  · exact call_repr hG hu pins s σ H [x] us Q I r ⟨x, d, rfl, h1, h2, h3, h4, q⟩
  · obtain ⟨u, rfl, rx⟩ := vals1 r
    cases rx
    obtain ⟨na, rd⟩ := reads_one I e
    refine repr_of_reads' rd rfl (fun _ hm => na (List.mem_singleton.mp hm).symm) hG ?_ (fun _ _ z => z) (fun h' t tk kp => ?_) hz
    · have : (oneD z y).depth = 1 := rfl
      omega
    · exact ⟨.str _, H, I.kept kp, ⟨t, rfl⟩, q⟩
end

/-! ### texts -/
theorem str_ext {x y : Str} (h : x.cps.toList = y.cps.toList) : x = y := by
  cases x; cases y
  congr 1
  exact Array.toList_inj.mp h
/-- a short text of plain signs -/
def Tx (z : Str) : Prop := z.cps.toList.length ≤ 40 ∧ ∀ c ∈ z.cps.toList, c < 128
theorem Tx.len {z : Str} (h : Tx z) : z.length ≤ 40 := h.1
theorem tx_app {x y : Str} (hx : ∀ c ∈ x.cps.toList, c < 128) (hy : ∀ c ∈ y.cps.toList, c < 128) (hl : x.length + y.length ≤ 40) : Tx (x ++ y) := by
  have e : (x ++ y).cps.toList = x.cps.toList ++ y.cps.toList := by
    show (x.cps ++ y.cps).toList = _
    rw [Array.toList_append]
  constructor
  · rw [e, List.length_append]; exact hl
  · intro c hc
    rw [e] at hc
    rcases List.mem_append.mp hc with h | h
    · exact hx c h
    · exact hy c h
theorem app_len (x y : Str) : (x ++ y).length = x.length + y.length := by
  show (x.cps ++ y.cps).size = _
  rw [Array.size_append]; rfl
theorem app_mem {x y : Str} {c : Nat} (h : c ∈ (x ++ y).cps.toList) : c ∈ x.cps.toList ∨ c ∈ y.cps.toList := by
  have e : (x ++ y).cps.toList = x.cps.toList ++ y.cps.toList := by
    show (x.cps ++ y.cps).toList = _
    rw [Array.toList_append]
  rw [e] at h
  exact List.mem_append.mp h
theorem cut_mem {z : Str} {lo hi : Option Int} {c : Nat} (h : c ∈ (cutS z lo hi).cps.toList) : c ∈ z.cps.toList := by
  unfold cutS at h
  simp only at h
  exact List.mem_of_mem_drop (List.mem_of_mem_take h)
theorem cut_len (z : Str) (lo hi : Option Int) : (cutS z lo hi).length ≤ z.length := by
  show ((z.cps.toList.drop _).take _).toArray.size ≤ z.cps.size
  rw [List.size_toArray, List.length_take, List.length_drop]
  have : z.cps.toList.length = z.cps.size := rfl
  omega
/-- the signs of texts joined by nothing -/
theorem join_nil : ∀ zs : List Str, (Txt.join "" zs).cps.toList = (zs.map fun z => z.cps.toList).flatten := by
  intro zs
  rw [TL.join_eq]
  have h := TL.tl_join "" zs
  have h2 : ∀ l : List (List Nat), TL.joinL [] l = l.flatten := by
    intro l
    induction l with
    | nil => rfl
    | cons a l ih =>
      cases l with
      | nil => show a = _; simp
      | cons b r =>
        show a ++ ([] ++ TL.joinL [] (b :: r)) = _
        rw [ih]; rfl
  have e : TL.tl ("" : Str) = [] := by decide +kernel
  rw [e, h2] at h
  exact h
theorem sum_ones : ∀ zs : List Str, (∀ z ∈ zs, z.length = 1) → (zs.map (·.length)).sum = zs.length
  | [], _ => rfl
  | a :: l, h => by
    have h1 := h a List.mem_cons_self
    have h2 := sum_ones l fun z hz => h z (List.mem_cons_of_mem _ hz)
    rw [List.map_cons, List.sum_cons, h1, h2, List.length_cons]
    omega
theorem join_ones {zs : List Str} {al : List Nat} (h : ∀ z ∈ zs, ∃ c ∈ al, z = ⟨#[c]⟩) : (Txt.join "" zs).length = zs.length ∧ ∀ c ∈ (Txt.join "" zs).cps.toList, c ∈ al := by
  have e := join_nil zs
  constructor
  · show (Txt.join "" zs).cps.toList.length = _
    rw [e]
    clear e
    induction zs with
    | nil => rfl
    | cons a l ih =>
      obtain ⟨c, _, rfl⟩ := h a List.mem_cons_self
      have := ih fun z hz => h z (List.mem_cons_of_mem _ hz)
      rw [List.map_cons, List.flatten_cons, List.length_append, this, List.length_cons]
      show 1 + l.length = l.length + 1
      omega
  · intro c hc
    rw [e] at hc
    obtain ⟨l, hl, hcl⟩ := List.mem_flatten.mp hc
    obtain ⟨z, hz, rfl⟩ := List.mem_map.mp hl
    obtain ⟨d, hd, rfl⟩ := h z hz
    have : c = d := by simpa using hcl
    rw [this]; exact hd
section
theorem at_some {xs : List V} {i : Int} (h0 : 0 ≤ i) (h1 : i < (xs.length : Int)) : ∃ v, atI xs i = some v ∧ v ∈ xs := by
  obtain ⟨j, rfl⟩ : ∃ j : Nat, i = (j : Int) := ⟨i.toNat, by omega⟩
  have hj : j < xs.length := by omega
  exact ⟨_, atI_nat (List.getElem?_eq_getElem hj), List.getElem_mem hj⟩
end
/-! ### lists of texts as data -/
theorem strs_of {P : Str → Prop} : ∀ {l : List V}, (∀ v ∈ l, ∃ z, P z ∧ v = .str z) → ∃ zs : List Str, l = zs.map V.str ∧ ∀ z ∈ zs, P z
  | [], _ => ⟨[], rfl, fun _ h => (nomatch h)⟩
  | v :: l, h => by
    obtain ⟨z, hz, rfl⟩ := h v List.mem_cons_self
    obtain ⟨zs, rfl, hzs⟩ := strs_of (l := l) fun u hu => h u (List.mem_cons_of_mem _ hu)
    refine ⟨z :: zs, rfl, fun y hy => ?_⟩
    rcases List.mem_cons.mp hy with rfl | hy
    · exact hz
    · exact hzs y hy
theorem dp_strs {K : PySem.W.Frag} {H : Hp} : ∀ l : List Str, DpAll K H (l.map V.str) (l.map PyData.str)
  | [] => .nil
  | z :: l => .cons (.str z) (dp_strs l)
theorem shaped_strs {l : List Str} (h : ∀ z ∈ l, (PyData.str z).canLay0 = true) : SeqAt.shaped (.list (l.map PyData.str)) = true := by
  have lay : ∀ l : List Str, (∀ z ∈ l, (PyData.str z).canLay0 = true) → PyData.canLayAll0 (l.map PyData.str) = true := by
    intro l
    induction l with
    | nil => intro _; rfl
    | cons z l ih =>
      intro h
      show ((PyData.str z).canLay0 && PyData.canLayAll0 (l.map PyData.str)) = true
      rw [h z List.mem_cons_self, ih fun y hy => h y (List.mem_cons_of_mem _ hy)]; rfl
  have deep : ∀ l : List Str, PyData.depthAll (l.map PyData.str) = 0 := by
    intro l
    induction l with
    | nil => rfl
    | cons z l ih => show max 0 (PyData.depthAll (l.map PyData.str)) = 0; rw [ih]; rfl
  show (PyData.canLayAll0 (l.map PyData.str) && decide (PyData.depthAll (l.map PyData.str) + 1 ≤ 64)) = true
  rw [lay l h, deep]; rfl
theorem eqv_nil (l : List PyData) : PyData.eqv (.list l) (.list []) = l.isEmpty := by cases l <;> rfl
theorem Tx.lay {z : Str} (h : Tx z) : (PyData.str z).canLay0 = true := by
  show z.cps.all (· < 0x110000) = true
  rw [← Array.all_toList, List.all_eq_true]
  intro c hc
  have := h.2 c hc
  exact decide_eq_true (by omega)
/-! ### readings, step by step -/
section
variable {σ : L2.St} {H : Hp} {k : List V → Hp → Prop} {Q : VK} {E : XK} {ta tb te : TE} {t tk tr : TA} {r : R2} {sp : Sp} {dvs : List V} {gV : List V → List V → List V} {D : Ends} {rc : List V → Hp → VK → Prop} {v : V}
theorem t_nil (h : k [] H) : tNil σ H k := h
theorem t_cons (h : ta σ H fun x H1 => tr σ H1 fun xs H2 => k (x :: xs) H2) : tCons ta tr σ H k := h
theorem t_var {i : Nat} (e : σ[i]? = some (some v)) (h : Q v H) : tVar i σ H Q := ⟨v, e, h⟩
theorem t_call (h : t σ H fun vs H1 => sp (vs ++ dvs) H1 Q E) : tCall sp dvs E t σ H Q := h
theorem t_callK (h : t σ H fun vs H1 => tk σ H1 fun zs H2 => sp (gV vs zs) H2 Q E) : tCallK sp gV E t tk σ H Q := h
theorem t_ret (h : te σ H D.rt) : tRet te D σ H := h
theorem t_op (h : ta σ H fun x H1 => tb σ H1 fun y H2 => r x y H2 Q) : tOp r ta tb σ H Q := h
theorem t_cb (h : t σ H fun vs H1 => rc vs H1 Q) : tCB rc t σ H Q := h
end
end LK
set_option Elab.async false
set_option linter.all false
set_option maxRecDepth 100000
set_option maxHeartbeats 2000000
namespace LK
open PySem PySem.Spec PyProof.Rows L2 Evl

/-! ### the functions that the laws draw -/
def ownW : List Str := ["maker", "set", "say", "give", "if", "else", "while", "break", "again", "return", "throw", "try", "catch", "finally", "make", "ask", "toss", "close", "all", "end", "none"]
def lo (c : Nat) : Bool := decide (97 ≤ c ∧ c ≤ 122)
/-- a name -/
structure Nm (z : Str) : Prop where
  l1 : 1 ≤ z.length
  l8 : z.length ≤ 8
  lo : ∀ c ∈ z.cps.toList, lo c = true
  free : z ∉ ownW
theorem Nm.c128 {z : Str} (h : Nm z) : ∀ c ∈ z.cps.toList, c < 128 := fun c hc => by
  have := of_decide_eq_true (h.lo c hc)
  omega
theorem Nm.tx {z : Str} (h : Nm z) : Tx z := ⟨Nat.le_trans (show z.cps.toList.length ≤ 8 from h.l8) (by decide), h.c128⟩
/-! signs and words -/
theorem flat_lk : ∀ l : List Str, (l.map V.str).all flatV = true
  | [] => rfl
  | a :: l => by show (true && (l.map V.str).all flatV) = true; rw [flat_lk l]; rfl
def freeB (z : Str) : Bool := !inV (.str z) (ownW.map V.str)
def abcS : Str := "abcdefghijklmnopqrstuvwxyz"
def abcL : List Nat := [97, 98, 99, 100, 101, 102, 103, 104, 105, 106, 107, 108, 109, 110, 111, 112, 113, 114, 115, 116, 117, 118, 119, 120, 121, 122]
theorem abc_eq : abcS.cps = abcL.toArray := by decide +kernel
theorem abcL_lo : ∀ c ∈ abcL, lo c = true := by decide
def nearW : List Str := ["makers", "sets", "ask", "gives", "iff", "elses", "whiles", "asks", "tosses", "ends", "alls", "nones", "a"]
/-- as a name, but it may be a word of texts -/
structure NmW (z : Str) : Prop where
  l1 : 1 ≤ z.length
  l8 : z.length ≤ 8
  lo : ∀ c ∈ z.cps.toList, lo c = true
theorem near_ok : ∀ z ∈ nearW, NmW z := by
  have h : ∀ z ∈ nearW, (1 ≤ z.length ∧ z.length ≤ 8) ∧ ∀ c ∈ z.cps.toList, lo c = true := by decide +kernel
  exact fun z hz => ⟨(h z hz).1.1, (h z hz).1.2, (h z hz).2⟩
/-- the first six signs, q, a sign -/
def varS (z : Str) (c : Nat) : Str := cutS z none (some 6) ++ "q" ++ ⟨#[c]⟩
theorem item_str {l : List Str} {i : Nat} {x : V} (h : (l.map V.str)[i]? = some x) : x = .str (l.getD i "") := by
  rw [List.getElem?_map] at h
  cases e : l[i]? with
  | none => rw [e] at h; cases h
  | some z =>
    rw [e] at h
    rw [List.getD_eq_getElem?_getD, e]
    exact (Option.some.inj h).symm
theorem abc_at {i c : Nat} (h : abcS.cps[i]? = some c) : c = abcL.getD i 0 := by
  rw [abc_eq] at h
  have h' : abcL[i]? = some c := by simpa using h
  rw [List.getD_eq_getElem?_getD, h']; rfl
theorem given_mem {n : Nat} {f : Nat → Bool} {v : Nat → V} {x : V} (h : x ∈ given n f v) : ∃ i, (i < n ∧ f i = true) ∧ x = v i := by
  unfold given at h
  obtain ⟨i, hi, rfl⟩ := List.mem_map.mp h
  have h2 := List.mem_filter.mp hi
  exact ⟨i, ⟨List.mem_range.mp h2.1, h2.2⟩, rfl⟩
theorem in_strs (z : Str) : ∀ l : List Str, inV (.str z) (l.map V.str) = decide (z ∈ l)
  | [] => by rw [decide_eq_false (List.not_mem_nil)]; rfl
  | a :: l => by
    have ih := in_strs z l
    show (eqV (.str a) (.str z) || inV (.str z) (l.map V.str)) = _
    rw [ih]
    have e : eqV (.str a) (.str z) = decide (a = z) := by
      show (a == z) = _
      by_cases h : a = z
      · rw [decide_eq_true h, h]; exact beq_self_eq_true z
      · rw [decide_eq_false h]; exact beq_eq_false_iff_ne.mpr h
    rw [e]
    by_cases h : a = z
    · rw [h, decide_eq_true rfl, decide_eq_true List.mem_cons_self]; rfl
    · rw [decide_eq_false h]
      by_cases h2 : z ∈ l
      · rw [decide_eq_true h2, decide_eq_true (List.mem_cons_of_mem _ h2)]; rfl
      · rw [decide_eq_false h2, decide_eq_false fun m => (List.mem_cons.mp m).elim (fun e => h e.symm) h2]; rfl
theorem free_of {z : Str} (h : freeB z = true) : z ∉ ownW := by
  unfold freeB at h
  rw [in_strs] at h
  intro m
  rw [decide_eq_true m] at h
  cases h
theorem NmW.nm {z : Str} (h : NmW z) (f : freeB z = true) : Nm z := ⟨h.l1, h.l8, h.lo, free_of f⟩
theorem app_list (x y : Str) : (x ++ y).cps.toList = x.cps.toList ++ y.cps.toList := by
  show (x.cps ++ y.cps).toList = _
  rw [Array.toList_append]
theorem varS_list (z : Str) (c : Nat) : (varS z c).cps.toList = ((cutS z none (some 6)).cps.toList ++ [113]) ++ [c] := by
  unfold varS
  rw [app_list, app_list]; rfl
theorem cut6 {z : Str} (h : z.length ≤ 8) : (cutS z none (some 6)).cps.toList.length ≤ 6 := by
  show ((z.cps.toList.drop (HT.sIx z.length 0 none)).take (HT.sIx z.length z.length (some 6) - HT.sIx z.length 0 none)).toArray.toList.length ≤ 6
  have e : HT.sIx z.length z.length (some 6) ≤ 6 := by
    generalize z.length = l at h
    match l, h with
    | 0, _ => decide
    | 1, _ => decide
    | 2, _ => decide
    | 3, _ => decide
    | 4, _ => decide
    | 5, _ => decide
    | 6, _ => decide
    | 7, _ => decide
    | 8, _ => decide
  rw [List.toList_toArray, List.length_take]
  omega
def cands (z : Str) : List Str := z :: abcL.map (varS z)
theorem cand_nmw {z y : Str} (h : NmW z) (hy : y ∈ cands z) : NmW y := by
  rcases List.mem_cons.mp hy with rfl | hy
  · exact h
  obtain ⟨c, hc, rfl⟩ := List.mem_map.mp hy
  have hl : (varS z c).cps.toList.length = (cutS z none (some 6)).cps.toList.length + 2 := by
    rw [varS_list, List.length_append, List.length_append]; rfl
  have h6 := cut6 h.l8
  refine ⟨?_, ?_, fun u hu => ?_⟩
  · show 1 ≤ (varS z c).cps.toList.length; omega
  · show (varS z c).cps.toList.length ≤ 8; omega
  · rw [varS_list] at hu
    rcases List.mem_append.mp hu with hu | hu
    · rcases List.mem_append.mp hu with hu | hu
      · exact h.lo u (cut_mem hu)
      · rw [List.mem_singleton.mp hu]; rfl
    · rw [List.mem_singleton.mp hu]; exact abcL_lo c hc
theorem varS_inj {z : Str} {c e : Nat} (h : varS z c = varS z e) : c = e := by
  have h2 := congrArg (fun s : Str => s.cps.toList) h
  simp only [varS_list] at h2
  have h3 := List.append_cancel_left h2
  exact (List.cons.inj h3).1
theorem varS_free (z : Str) (c : Nat) : freeB (varS z c) = true := by
  unfold freeB
  rw [in_strs, decide_eq_false]
  · rfl
  intro m
  have h : ∀ y ∈ ownW, 113 ∉ y.cps.toList := by decide +kernel
  refine h _ m ?_
  rw [varS_list]
  exact List.mem_append_left _ (List.mem_append_right _ List.mem_cons_self)
theorem nodup_map_inj {f : Nat → Str} (h : ∀ a b, f a = f b → a = b) : ∀ {l : List Nat}, l.Nodup → (l.map f).Nodup
  | [], _ => List.nodup_nil
  | a :: l, n => by
    obtain ⟨n1, n2⟩ := List.nodup_cons.mp n
    refine List.nodup_cons.mpr ⟨fun m => ?_, nodup_map_inj h n2⟩
    obtain ⟨b, hb, e⟩ := List.mem_map.mp m
    rw [h b a e] at hb
    exact n1 hb
/-- one of them is still free -/
theorem cand_some {z : Str} {zs : List Str} (h : zs.length ≤ 25) : ∃ y ∈ cands z, y ∉ zs ∧ freeB y = true := by
  apply Classical.byContradiction
  intro no
  have all : ∀ y ∈ abcL.map (varS z), y ∈ zs := by
    intro y hy
    apply Classical.byContradiction
    intro ny
    refine no ⟨y, List.mem_cons_of_mem _ hy, ny, ?_⟩
    obtain ⟨c, _, rfl⟩ := List.mem_map.mp hy
    exact varS_free z c
  have l := List.Nodup.length_le_of_subset (nodup_map_inj (f := varS z) (fun a b => varS_inj) (l := abcL) (by decide)) (fun y hy => all y hy)
  rw [List.length_map] at l
  have : abcL.length = 26 := rfl
  omega
theorem cands_eq (z : Str) : [V.str z] ++ given abcS.cps.size (fun _ => true) (fun i => V.str (varS z (abcL.getD i 0))) = (cands z).map V.str := rfl
/-- how many draws an expression takes at most -/
def cS : Nat → Nat
  | 0 => 0
  | d + 1 => 2 * cS d + 10
inductive Ex where
  | num (n : Int) | non | box (b : Str) | op (w : Str) (a b : Ex)
def exD : Ex → PyData
  | .num n => .tuple [.str "number", .int n]
  | .non => .tuple [.str "none"]
  | .box b => .tuple [.str "box", .str b]
  | .op w a b => .tuple [.str w, exD a, exD b]
inductive Sm where
  | set3 (w b : Str) (e : Ex)
  | one (w : Str) (e : Ex)
  | jump (w : Str)
  | make (b n : Str) (es : List Ex)
  | ifs (e : Ex) (x y : List Sm)
  | whl (e : Ex) (x : List Sm)
  | pull (b w : Str) (e f : Ex) (x : List Sm)
  | tri (x : List Sm) (c : Option Str) (y z : List Sm)
def optD : Option Str → PyData
  | none => .none
  | some b => .str b
mutual
def smD : Sm → PyData
  | .set3 w b e => .tuple [.str w, .str b, exD e]
  | .one w e => .tuple [.str w, exD e]
  | .jump w => .tuple [.str w]
  | .make b n es => .tuple [.str "make", .str b, .str n, .tuple (es.map exD)]
  | .ifs e x y => .tuple [.str "if", exD e, .tuple (smsD x), .tuple (smsD y)]
  | .whl e x => .tuple [.str "while", exD e, .tuple (smsD x)]
  | .pull b w e f x => .tuple [.str "pull", .str b, .str w, exD e, exD f, .tuple (smsD x)]
  | .tri x c y z => .tuple [.str "try", .tuple (smsD x), optD c, .tuple (smsD y), .tuple (smsD z)]
def smsD : List Sm → List PyData
  | [] => []
  | s :: r => smD s :: smsD r
end
def bodyD (l : List Sm) : PyData := .tuple (smsD l)
theorem smsD_map (l : List Sm) : smsD l = l.map smD := by
  induction l with
  | nil => rfl
  | cons s r ih => show smD s :: smsD r = _; rw [ih]; rfl
def opW : List Str := ["plus", "less", "times", "under", "same"]
/-- an expression as it is drawn over boxes bs, at most d deep -/
inductive OkE (bs : List Str) : Nat → Ex → Prop
  | num {d : Nat} {n : Int} (h0 : 0 ≤ n) (h1 : n < 1000003) : OkE bs d (.num n)
  | non {d : Nat} : OkE bs d .non
  | box {d : Nat} {b : Str} (h : b ∈ bs) : OkE bs d (.box b)
  | op {d : Nat} {w : Str} {a b : Ex} (hw : w ∈ opW) (ha : OkE bs d a) (hb : OkE bs d b) : OkE bs (d + 1) (.op w a b)
/-- a statement as it is drawn, at most d deep; ms: the functions' names and how many things each takes; l: within a while -/
inductive OkS (bs : List Str) (ms : List (Str × Nat)) (q : Nat) : Nat → Bool → Sm → Prop
  | set3 {d : Nat} {l : Bool} {w b : Str} {e : Ex} (hw : w ∈ (["set", "give", "all"] : List Str)) (hb : b ∈ bs) (he : OkE bs q e) : OkS bs ms q d l (.set3 w b e)
  | one {d : Nat} {l : Bool} {w : Str} {e : Ex} (hw : w ∈ (["say", "return", "close", "throw"] : List Str)) (he : OkE bs q e) : OkS bs ms q d l (.one w e)
  | jump {d : Nat} {w : Str} (hw : w ∈ (["break", "again"] : List Str)) : OkS bs ms q d true (.jump w)
  | make {d : Nat} {l : Bool} {b n : Str} {es : List Ex} (hb : b ∈ bs) (hn : (n, es.length) ∈ ms) (he : ∀ e ∈ es, OkE bs q e) : OkS bs ms q d l (.make b n es)
  | ifs {d : Nat} {l : Bool} {e : Ex} {x y : List Sm} (he : OkE bs q e) (hx : ∀ s ∈ x, OkS bs ms q d l s) (hy : ∀ s ∈ y, OkS bs ms q d l s) : OkS bs ms q (d + 1) l (.ifs e x y)
  | whl {d : Nat} {l : Bool} {e : Ex} {x : List Sm} (he : OkE bs q e) (hx : ∀ s ∈ x, OkS bs ms q d true s) : OkS bs ms q (d + 1) l (.whl e x)
  | pull {d : Nat} {l : Bool} {b w : Str} {e f : Ex} {x : List Sm} (hb : b ∈ bs) (hw : w ∈ (["ask", "toss"] : List Str)) (he : OkE bs q e) (hf : OkE bs q f) (hx : ∀ s ∈ x, OkS bs ms q d l s) : OkS bs ms q (d + 1) l (.pull b w e f x)
  | fin {d : Nat} {l : Bool} {x z : List Sm} (hx : ∀ s ∈ x, OkS bs ms q d l s) (hz : ∀ s ∈ z, OkS bs ms q d l s) (hn : z ≠ []) : OkS bs ms q (d + 1) l (.tri x none [] z)
  | tri {d : Nat} {l : Bool} {x y z : List Sm} {c : Str} (hc : c ∈ bs) (hx : ∀ s ∈ x, OkS bs ms q d l s) (hy : ∀ s ∈ y, OkS bs ms q d l s) (hz : ∀ s ∈ z, OkS bs ms q d l s) : OkS bs ms q (d + 1) l (.tri x (some c) y z)
/-! how many statements -/
mutual
def cnt : Sm → Nat
  | .ifs _ x y => 1 + cnts x + cnts y
  | .whl _ x => 1 + cnts x
  | .pull _ _ _ _ x => 1 + cnts x
  | .tri x _ y z => 1 + cnts x + cnts y + cnts z
  | _ => 1
def cnts : List Sm → Nat
  | [] => 0
  | s :: r => cnt s + cnts r
end
theorem cnts_app (x y : List Sm) : cnts (x ++ y) = cnts x + cnts y := by
  induction x with
  | nil => show cnts y = 0 + cnts y; omega
  | cons s r ih => show cnt s + cnts (r ++ y) = cnt s + cnts r + cnts y; rw [ih]; omega
/-! ### data made of tuples stay -/
mutual
def onlyT : PyData → Bool
  | .list _ => false
  | .dict _ => false
  | .tuple l => onlyTs l
  | _ => true
def onlyTs : List PyData → Bool
  | [] => true
  | d :: r => onlyT d && onlyTs r
end
/-- tuples stay -/
def Tk (H H' : Hp) : Prop := ∀ a u, (∃ xs, u = HO.tup xs) ∨ (∃ o v, u = HO.frz o v) → H a = some u → H' a = some u
theorem Tk.refl (H : Hp) : Tk H H := fun _ _ _ h => h
theorem Tk.trans {H H1 H2 : Hp} (a : Tk H H1) (b : Tk H1 H2) : Tk H H2 := fun c u hu h => b c u hu (a c u hu h)
theorem Tk.same {H H1 : Hp} (a : Same H H1) : Tk H H1 := fun c u _ h => a c u h
theorem Tk.new {H : Hp} {p : Addr} {o : HO} (h : H p = none) : Tk H (upd H p o) := .same (same_new h)
theorem Tk.seqT {K : PySem.W.Frag} {H H' : Hp} {a : Addr} {xs : List V} (t : Tk H H') (h : SqT K H a xs) : SqT K H' a xs := by
  rcases h with (h | ⟨o, h⟩) | h
  · exact .inl (.inl (t _ _ (.inl ⟨_, rfl⟩) h))
  · exact .inl (.inr ⟨o, t _ _ (.inr ⟨_, _, rfl⟩) h⟩)
  · exact .inr h
mutual
theorem Dp.tk {K : PySem.W.Frag} {H H' : Hp} (t : Tk H H') : ∀ (d : PyData) {v : V}, Dp K H v d → onlyT d = true → Dp K H' v d
  | .none, _, h, _ => by cases h; exact .non
  | .bool b, _, h, _ => by cases h; exact .bl b
  | .int i, _, h, _ => by cases h; exact .int i
  | .str x, _, h, _ => by cases h; exact .str x
  | .list l, _, _, o => by cases o
  | .tuple l, _, h, o => by
    cases h with
    | tup hs ha => exact .tup (t.seqT hs) (DpAll.tk t l ha o)
  | .dict l, _, h, _ => by cases h
theorem DpAll.tk {K : PySem.W.Frag} {H H' : Hp} (t : Tk H H') : ∀ (ds : List PyData) {vs : List V}, DpAll K H vs ds → onlyTs ds = true → DpAll K H' vs ds
  | [], _, h, _ => by cases h; exact .nil
  | d :: ds, _, h, o => by
    cases h with
    | cons h1 h2 =>
      have o' : (onlyT d && onlyTs ds) = true := o
      obtain ⟨o1, o2⟩ := Bool.and_eq_true_iff.mp o'
      exact .cons (Dp.tk t d h1 o1) (DpAll.tk t ds h2 o2)
end
theorem only_ex : ∀ e : Ex, onlyT (exD e) = true
  | .num n => rfl
  | .non => rfl
  | .box b => rfl
  | .op w a b => by show (true && (onlyT (exD a) && (onlyT (exD b) && true))) = true; rw [only_ex a, only_ex b]; rfl
theorem only_exs : ∀ l : List Ex, onlyTs (l.map exD) = true
  | [] => rfl
  | e :: l => by show (onlyT (exD e) && onlyTs (l.map exD)) = true; rw [only_ex e, only_exs l]; rfl
theorem only_opt (c : Option Str) : onlyT (optD c) = true := by cases c <;> rfl
mutual
theorem only_sm : ∀ s : Sm, onlyT (smD s) = true
  | .set3 w b e => by show (true && (true && (onlyT (exD e) && true))) = true; rw [only_ex]; rfl
  | .one w e => by show (true && (onlyT (exD e) && true)) = true; rw [only_ex]; rfl
  | .jump w => rfl
  | .make b n es => by show (true && (true && (true && (onlyTs (es.map exD) && true)))) = true; rw [only_exs]; rfl
  | .ifs e x y => by show (true && (onlyT (exD e) && (onlyTs (smsD x) && (onlyTs (smsD y) && true)))) = true; rw [only_ex, only_sms x, only_sms y]; rfl
  | .whl e x => by show (true && (onlyT (exD e) && (onlyTs (smsD x) && true))) = true; rw [only_ex, only_sms x]; rfl
  | .pull b w e f x => by show (true && (true && (true && (onlyT (exD e) && (onlyT (exD f) && (onlyTs (smsD x) && true)))))) = true; rw [only_ex, only_ex, only_sms x]; rfl
  | .tri x c y z => by show (true && (onlyTs (smsD x) && (onlyT (optD c) && (onlyTs (smsD y) && (onlyTs (smsD z) && true))))) = true; rw [only_opt, only_sms x, only_sms y, only_sms z]; rfl
theorem only_sms : ∀ l : List Sm, onlyTs (smsD l) = true
  | [] => rfl
  | s :: r => by show (onlyT (smD s) && onlyTs (smsD r)) = true; rw [only_sm s, only_sms r]; rfl
end
/-- all stands but the state's two things and what M tells -/
def Fq (d : Dr) (M : Addr → Prop) (H H' : Hp) : Prop := ∀ b o, H b = some o → b ≠ d.s → b ≠ d.g → ¬ M b → H' b = some o
section
variable {d : Dr} {M : Addr → Prop} {H H1 H2 H' : Hp} {n : Nat} {p : Addr} {o : HO}
theorem Fq.refl (H : Hp) : Fq d M H H := fun _ _ h _ _ _ => h
theorem Fq.trans (a : Fq d M H H1) (b : Fq d M H1 H2) : Fq d M H H2 := fun c o h h1 h2 h3 => b c o (a c o h h1 h2 h3) h1 h2 h3
theorem Fq.of (a : Fr d H H1) : Fq d M H H1 := fun c o h h1 h2 _ => a c o h h1 h2
theorem Fq.new (h : H p = none) : Fq d M H (upd H p o) := .of (.new h)
theorem Fq.same (a : Same H H1) : Fq d M H H1 := fun c o h _ _ _ => a c o h
theorem Fr.tk (f : Fr d H H') (S : StAt H d n) : Tk H H' := by
  obtain ⟨r, t, sd, gs, cs, R, _⟩ := S
  intro a u hu h
  refine f a u h ?_ ?_
  · rintro rfl
    rw [R.hs] at h
    cases h
    rcases hu with ⟨_, e⟩ | ⟨_, _, e⟩ <;> cases e
  · rintro rfl
    rw [R.hg] at h
    cases h
    rcases hu with ⟨_, e⟩ | ⟨_, _, e⟩ <;> cases e
theorem Fq.tk (f : Fq d M H H') (S : StAt H d n) (hm : ∀ a u, M a → H a = some u → ∃ kvs, u = HO.dK kvs) : Tk H H' := by
  obtain ⟨r, t, sd, gs, cs, R, _⟩ := S
  intro a u hu h
  refine f a u h ?_ ?_ ?_
  · rintro rfl
    rw [R.hs] at h
    cases h
    rcases hu with ⟨_, e⟩ | ⟨_, _, e⟩ <;> cases e
  · rintro rfl
    rw [R.hg] at h
    cases h
    rcases hu with ⟨_, e⟩ | ⟨_, _, e⟩ <;> cases e
  · intro m
    obtain ⟨kvs, rfl⟩ := hm a u m h
    rcases hu with ⟨_, e⟩ | ⟨_, _, e⟩ <;> cases e
end
/-! ### the kit from which statements are drawn -/
theorem kk_bm : ¬ (("boxes" : Str) = "makes") := by decide +kernel
theorem kk_bl : ¬ (("boxes" : Str) = "left") := by decide +kernel
theorem kk_bs : ¬ (("boxes" : Str) = "sums") := by decide +kernel
theorem kk_ml : ¬ (("makes" : Str) = "left") := by decide +kernel
theorem kk_ms : ¬ (("makes" : Str) = "sums") := by decide +kernel
theorem kk_ls : ¬ (("left" : Str) = "sums") := by decide +kernel
theorem kk_sl : ¬ (("sums" : Str) = "left") := by decide +kernel
def kitK (b m : Addr) (l q : Int) : List (Key × V) := [(.inr "boxes", .ref b), (.inr "makes", .ref m), (.inr "left", .int l), (.inr "sums", .int q)]
section
variable {H : Hp} {k b m : Addr} {l q : Int}
theorem kt_boxes (h : H k = some (.dK (kitK b m l q))) : DGet H k (.str "boxes") (some (.ref b)) :=
  (show valV (kitK b m l q) (.inr "boxes" : Key) = some (.ref b) from valV_pos rfl) ▸ DGet.k (k := (.inr "boxes" : Key)) h
theorem kt_makes (h : H k = some (.dK (kitK b m l q))) : DGet H k (.str "makes") (some (.ref m)) :=
  (show valV (kitK b m l q) (.inr "makes" : Key) = some (.ref m) from (valV_neg (kne kk_bm)).trans (valV_pos rfl)) ▸ DGet.k (k := (.inr "makes" : Key)) h
theorem kt_left (h : H k = some (.dK (kitK b m l q))) : DGet H k (.str "left") (some (.int l)) :=
  (show valV (kitK b m l q) (.inr "left" : Key) = some (.int l) from (valV_neg (kne kk_bl)).trans ((valV_neg (kne kk_ml)).trans (valV_pos rfl))) ▸ DGet.k (k := (.inr "left" : Key)) h
theorem kt_sums (h : H k = some (.dK (kitK b m l q))) : DGet H k (.str "sums") (some (.int q)) :=
  (show valV (kitK b m l q) (.inr "sums" : Key) = some (.int q) from (valV_neg (kne kk_bs)).trans ((valV_neg (kne kk_ms)).trans ((valV_neg (kne kk_ls)).trans (valV_pos rfl)))) ▸ DGet.k (k := (.inr "sums" : Key)) h
theorem put_left {y : Int} : putK (kitK b m l q) (.inr "left" : Key) (.int y) = kitK b m y q := by
  simp [putK, kitK, kk_bl, kk_ml, kk_sl]
  try decide +kernel
theorem kt_put (h : H k = some (.dK (kitK b m l q))) {y : Int} : DPut H k (.str "left") (.int y) (upd H k (.dK (kitK b m y q))) :=
  put_left (l := l) (y := y) ▸ DPut.k (k := (.inr "left" : Key)) (v := .int y) h (show 4 < sizeLine by decide)
theorem merge_kit {bv mv lv sv : V} : mergeK [] [((.inr "boxes" : Key), bv), (.inr "makes", mv), (.inr "left", lv), (.inr "sums", sv)] =
    [((.inr "boxes" : Key), bv), (.inr "makes", mv), (.inr "left", lv), (.inr "sums", sv)] := by
  simp [mergeK, putK, kk_bm, kk_bl, kk_bs, kk_ml, kk_ms, kk_ls]
end
/-- what a kit is, beside how many statements are left -/
structure KitN (d : Dr) (k b m : Addr) (bs : List Str) (ms : List (Str × Nat)) (q : Nat) : Prop where
  ks : k ≠ d.s
  kc : k ≠ d.c
  bg : b ≠ d.g
  mg : m ≠ d.g
  b0 : bs ≠ []
  bl : bs.length ≤ 100
  bn : ∀ z ∈ bs, Nm z
  m0 : ms ≠ []
  ml : ms.length ≤ 100
  m3 : ∀ u ∈ ms, u.2 ≤ 3
  mn : ∀ u ∈ ms, Nm u.1
  q1 : 1 ≤ q
  q4 : q ≤ 4
structure Kit (H : Hp) (k b m : Addr) (bs : List Str) (ms : List (Str × Nat)) (q L : Nat) : Prop where
  hk : H k = some (.dK (kitK b m (L : Int) (q : Int)))
  hb : H b = some (.lst (bs.map V.str))
  hm : ∃ xs, H m = some (.lst xs) ∧ xs.length = ms.length ∧ ∀ x ∈ xs, ∃ p t s, x = .ref p ∧ H p = some (.tup [.str t, .int ((s : Nat) : Int)]) ∧ (t, s) ∈ ms
abbrev Is (k : Addr) : Addr → Prop := fun a => a = k
section
variable {d : Dr} {k b m : Addr} {bs : List Str} {ms : List (Str × Nat)} {q L L' n : Nat} {H H' H1 : Hp} {p : Addr} {o : HO}
theorem Kit.kg (kt : Kit H k b m bs ms q L) (S : StAt H d n) : k ≠ d.g := by
  obtain ⟨r, t, sd, gs, cs, R, _⟩ := S
  exact ne_of kt.hk R.hg (by intro z; cases z)
theorem Kit.fq (kt : Kit H k b m bs ms q L) (N : KitN d k b m bs ms q) (S : StAt H d n) (f : Fq d (Is k) H H') (hk : H' k = some (.dK (kitK b m (L' : Int) (q : Int)))) : Kit H' k b m bs ms q L' := by
  obtain ⟨r, t, sd, gs, cs, R, _⟩ := S
  obtain ⟨xs, hx, hl, hi⟩ := kt.hm
  refine ⟨hk, f _ _ kt.hb (ne_of kt.hb R.hs (by intro z; cases z)) N.bg (ne_of kt.hb kt.hk (by intro z; cases z)), xs, f _ _ hx (ne_of hx R.hs (by intro z; cases z)) N.mg (ne_of hx kt.hk (by intro z; cases z)), hl, fun x m => ?_⟩
  obtain ⟨p, t, s, e, hp, h⟩ := hi x m
  exact ⟨p, t, s, e, f _ _ hp (ne_of hp R.hs (by intro z; cases z)) (ne_of hp R.hg (by intro z; cases z)) (ne_of hp kt.hk (by intro z; cases z)), h⟩
theorem Kit.fr (kt : Kit H k b m bs ms q L) (N : KitN d k b m bs ms q) (S : StAt H d n) (f : Fr d H H') : Kit H' k b m bs ms q L :=
  kt.fq N S (.of f) (f _ _ kt.hk N.ks (kt.kg S))
theorem Kit.new (kt : Kit H k b m bs ms q L) (N : KitN d k b m bs ms q) (S : StAt H d n) (h : H p = none) : Kit (upd H p o) k b m bs ms q L := kt.fr N S (.new h)
/-- one statement less is left -/
theorem Kit.put (kt : Kit H k b m bs ms q L) : Kit (upd H k (.dK (kitK b m (L' : Int) (q : Int)))) k b m bs ms q L' := by
  obtain ⟨xs, hx, hl, hi⟩ := kt.hm
  refine ⟨upd_same, by rw [upd_ne (ne_of kt.hb kt.hk (by intro z; cases z))]; exact kt.hb, xs, by rw [upd_ne (ne_of hx kt.hk (by intro z; cases z))]; exact hx, hl, fun x m => ?_⟩
  obtain ⟨p, t, s, e, hp, h⟩ := hi x m
  exact ⟨p, t, s, e, by rw [upd_ne (ne_of hp kt.hk (by intro z; cases z))]; exact hp, h⟩
theorem Kit.fput (o : HO) : Fq d (Is k) H (upd H k o) := fun c u e _ _ h => by rw [upd_ne h]; exact e
theorem Kit.tk (kt : Kit H k b m bs ms q L) (S : StAt H d n) (f : Fq d (Is k) H H') : Tk H H' :=
  f.tk S fun a u e h => by
    have e' : a = k := e
    subst e'
    rw [kt.hk] at h
    cases h
    exact ⟨_, rfl⟩
theorem cS_le (h : q ≤ 4) : cS q ≤ 150 := by
  match q, h with
  | 0, _ => decide
  | 1, _ => decide
  | 2, _ => decide
  | 3, _ => decide
  | 4, _ => decide
end
/-- how many draws a body takes at most, a statement, one with bodies -/
def cB : Nat → Nat
  | 0 => 0
  | d + 1 => 3009 + 12 * cB d
def cX : Nat → Nat
  | 0 => 0
  | d + 1 => 752 + 3 * cB d
def cO : Nat → Nat
  | 0 => 0
  | d + 1 => 150 + 3 * cB d
theorem Dp.same {K : PySem.W.Frag} {H H' : Hp} (s : Same H H') : ∀ (d : PyData) {v : V}, Dp K H v d → onlyT d = true → Dp K H' v d := fun d _ h o => Dp.tk (.same s) d h o
/-! ### how deep the data is, what signs stand in it -/
def Ly (D : Nat) (d : PyData) : Prop := d.canLay0 = true ∧ d.depth ≤ D
def Lys (D : Nat) (l : List PyData) : Prop := PyData.canLayAll0 l = true ∧ PyData.depthAll l ≤ D
theorem Lys.nil {D : Nat} : Lys D [] := ⟨rfl, Nat.zero_le _⟩
theorem Lys.cons {D : Nat} {d : PyData} {l : List PyData} (h : Ly D d) (h2 : Lys D l) : Lys D (d :: l) := by
  refine ⟨?_, ?_⟩
  · show (d.canLay0 && PyData.canLayAll0 l) = true
    rw [h.1, h2.1]; rfl
  · show max d.depth (PyData.depthAll l) ≤ D
    exact Nat.max_le.mpr ⟨h.2, h2.2⟩
theorem Ly.tup {D : Nat} {l : List PyData} (h : Lys D l) : Ly (D + 1) (.tuple l) := ⟨h.1, by show PyData.depthAll l + 1 ≤ D + 1; have := h.2; omega⟩
theorem Ly.mono {D E : Nat} {d : PyData} (h : Ly D d) (e : D ≤ E) : Ly E d := ⟨h.1, Nat.le_trans h.2 e⟩
theorem Ly.str {D : Nat} {z : Str} (h : Nm z) : Ly D (.str z) := ⟨h.tx.lay, Nat.zero_le _⟩
theorem Ly.word {D : Nat} {z : Str} (h : (PyData.str z).canLay0 = true) : Ly D (.str z) := ⟨h, Nat.zero_le _⟩
theorem Ly.int {D : Nat} {i : Int} : Ly D (.int i) := ⟨rfl, Nat.zero_le _⟩
theorem Ly.non {D : Nat} : Ly D .none := ⟨rfl, Nat.zero_le _⟩
theorem ly_word {D : Nat} {l : List Str} {w : Str} (h : w ∈ l) (hl : ∀ z ∈ l, (PyData.str z).canLay0 = true) : Ly D (.str w) := .word (hl w h)
theorem ly_ex {bs : List Str} (bn : ∀ z ∈ bs, Nm z) {d : Nat} {e : Ex} (h : OkE bs d e) : Ly (d + 1) (exD e) := by
  induction h with
  | num _ _ => exact .tup (.cons (.word (by decide +kernel)) (.cons .int .nil))
  | non => exact .tup (.cons (.word (by decide +kernel)) .nil)
  | box hb => exact .tup (.cons (.word (by decide +kernel)) (.cons (.str (bn _ hb)) .nil))
  | op hw _ _ i1 i2 => exact .tup (.cons (ly_word hw (by decide +kernel)) (.cons i1 (.cons i2 .nil)))
theorem ly_exs {bs : List Str} (bn : ∀ z ∈ bs, Nm z) {d : Nat} : ∀ {es : List Ex}, (∀ e ∈ es, OkE bs d e) → Lys (d + 1) (es.map exD)
  | [], _ => .nil
  | e :: es, h => .cons (ly_ex bn (h e List.mem_cons_self)) (ly_exs bn fun x hx => h x (List.mem_cons_of_mem _ hx))
theorem ly_sms {D : Nat} : ∀ {x : List Sm}, (∀ s ∈ x, Ly D (smD s)) → Lys D (smsD x)
  | [], _ => .nil
  | s :: x, h => .cons (h s List.mem_cons_self) (ly_sms fun y hy => h y (List.mem_cons_of_mem _ hy))
theorem ly_body {D : Nat} {x : List Sm} (h : ∀ s ∈ x, Ly D (smD s)) : Ly (D + 1) (bodyD x) := .tup (ly_sms h)
theorem ly_sm {bs : List Str} {ms : List (Str × Nat)} {q : Nat} (bn : ∀ z ∈ bs, Nm z) (mn : ∀ u ∈ ms, Nm u.1) {d : Nat} {l : Bool} {s : Sm} (h : OkS bs ms q d l s) : Ly (q + 3 + 2 * d) (smD s) := by
  induction h with
  | set3 hw hb he => exact (Ly.tup (.cons (ly_word hw (by decide +kernel)) (.cons (.str (bn _ hb)) (.cons (ly_ex bn he) .nil)))).mono (by omega)
  | one hw he => exact (Ly.tup (.cons (ly_word hw (by decide +kernel)) (.cons (ly_ex bn he) .nil))).mono (by omega)
  | jump hw => exact (Ly.tup (D := 0) (.cons (ly_word hw (by decide +kernel)) .nil)).mono (by omega)
  | make hb hn he => exact (Ly.tup (.cons (.word (by decide +kernel)) (.cons (.str (bn _ hb)) (.cons (.str (mn _ hn)) (.cons (.tup (ly_exs bn he)) .nil))))).mono (by omega)
  | @ifs d l e x y he hx hy i1 i2 => exact (Ly.tup (D := q + 3 + 2 * d + 1) (.cons (.word (by decide +kernel)) (.cons ((ly_ex bn he).mono (by omega)) (.cons (ly_body i1) (.cons (ly_body i2) .nil))))).mono (by omega)
  | @whl d l e x he hx i1 => exact (Ly.tup (D := q + 3 + 2 * d + 1) (.cons (.word (by decide +kernel)) (.cons ((ly_ex bn he).mono (by omega)) (.cons (ly_body i1) .nil)))).mono (by omega)
  | @pull d l b w e f x hb hw he hf hx i1 => exact (Ly.tup (D := q + 3 + 2 * d + 1) (.cons (.word (by decide +kernel)) (.cons (.str (bn _ hb)) (.cons (ly_word hw (by decide +kernel)) (.cons ((ly_ex bn he).mono (by omega)) (.cons ((ly_ex bn hf).mono (by omega)) (.cons (ly_body i1) .nil))))))).mono (by omega)
  | @fin d l x z hx hz hn i1 i2 => exact (Ly.tup (D := q + 3 + 2 * d + 1) (.cons (.word (by decide +kernel)) (.cons (ly_body i1) (.cons .non (.cons (.mono (.tup (D := 0) .nil) (by omega)) (.cons (ly_body i2) .nil)))))).mono (by omega)
  | @tri d l x y z c hc hx hy hz i1 i2 i3 => exact (Ly.tup (D := q + 3 + 2 * d + 1) (.cons (.word (by decide +kernel)) (.cons (ly_body i1) (.cons (.str (bn _ hc)) (.cons (ly_body i2) (.cons (ly_body i3) .nil)))))).mono (by omega)
theorem Ly.shapedT {D : Nat} {l : List PyData} (h : Ly D (.tuple l)) (e : D ≤ 60) : SeqAt.shaped (.tuple l) = true := by
  show (PyData.canLayAll0 l && decide (PyData.depthAll l + 1 ≤ 64)) = true
  have h2 : PyData.depthAll l + 1 ≤ D := h.2
  rw [show PyData.canLayAll0 l = true from h.1, decide_eq_true (by omega)]; rfl
theorem eqv_nilT (l : List PyData) : PyData.eqv (.tuple l) (.tuple []) = l.isEmpty := by cases l <;> rfl
theorem dp_snoc {K : PySem.W.Frag} {H : Hp} {v : V} {d : PyData} (h2 : Dp K H v d) : ∀ {vs : List V} {ds : List PyData}, DpAll K H vs ds → DpAll K H (vs ++ [v]) (ds ++ [d])
  | [], _, h => by cases h; exact .cons h2 .nil
  | x :: vs, _, h => by
    cases h with
    | cons h1 hr => exact .cons h1 (dp_snoc h2 hr)
theorem Tk.lst {H : Hp} {D : Addr} {xs : List V} {o : HO} (h : H D = some (.lst xs)) : Tk H (upd H D o) := by
  intro a u hu e
  rw [upd_ne]
  · exact e
  · rintro rfl
    rw [h] at e
    cases e
    rcases hu with ⟨_, z⟩ | ⟨_, _, z⟩ <;> cases z
theorem sms_snoc (x : List Sm) (s : Sm) : smsD (x ++ [s]) = smsD x ++ [smD s] := by
  rw [smsD_map, smsD_map, List.map_append]; rfl
theorem Kit.lst {k b m D : Addr} {bs : List Str} {ms : List (Str × Nat)} {q L : Nat} {H : Hp} {xs ys : List V} (kt : Kit H k b m bs ms q L) (hD : H D = some (.lst xs)) (nb : D ≠ b) (nm : D ≠ m) : Kit (upd H D (.lst ys)) k b m bs ms q L := by
  obtain ⟨zs, hy, hyl, hyi⟩ := kt.hm
  refine ⟨by rw [upd_ne (ne_of kt.hk hD (by intro z; cases z))]; exact kt.hk, by rw [upd_ne (Ne.symm nb)]; exact kt.hb, zs, by rw [upd_ne (Ne.symm nm)]; exact hy, hyl, fun x hx => ?_⟩
  obtain ⟨p2, t3, s3, e3, hp2, h3⟩ := hyi x hx
  refine ⟨p2, t3, s3, e3, ?_, h3⟩
  rw [upd_ne (ne_of hp2 hD (by intro z; cases z))]
  exact hp2
/-! ### functions -/
structure Fu where
  n : Str
  ps : List Str
  b : List Sm
def fuD (f : Fu) : PyData := .tuple [.str f.n, .tuple (f.ps.map PyData.str), bodyD f.b]
def fuM (f : Fu) : Str × Nat := (f.n, f.ps.length)
/-- a function as it is drawn: its boxes begin with its params -/
structure OkF (ms : List (Str × Nat)) (q d L : Nat) (f : Fu) : Prop where
  n : Nm f.n
  p3 : f.ps.length ≤ 3
  bs : ∃ bs : List Str, bs.Nodup ∧ bs.length ≤ 20 ∧ (∀ z ∈ bs, Nm z) ∧ (∃ r, bs = f.ps ++ r) ∧ ∀ s ∈ f.b, OkS bs ms q d false s
  c : cnts f.b ≤ L
theorem OkF.pn {ms : List (Str × Nat)} {q d L : Nat} {f : Fu} (h : OkF ms q d L f) : ∀ z ∈ f.ps, Nm z := by
  obtain ⟨bs, _, _, hn, ⟨r, rfl⟩, _⟩ := h.bs
  exact fun z hz => hn z (List.mem_append_left _ hz)
theorem OkF.nd {ms : List (Str × Nat)} {q d L : Nat} {f : Fu} (h : OkF ms q d L f) : f.ps.Nodup := by
  obtain ⟨bs, h1, _, hn, ⟨r, rfl⟩, _⟩ := h.bs
  exact (List.nodup_append.mp h1).1
theorem only_strs : ∀ l : List Str, onlyTs (l.map PyData.str) = true
  | [] => rfl
  | z :: l => by show (true && onlyTs (l.map PyData.str)) = true; rw [only_strs l]; rfl
theorem only_fu (f : Fu) : onlyT (fuD f) = true := by
  show (true && (onlyTs (f.ps.map PyData.str) && (onlyTs (smsD f.b) && true))) = true
  rw [only_strs, only_sms]; rfl
theorem only_fus : ∀ l : List Fu, onlyTs (l.map fuD) = true
  | [] => rfl
  | f :: l => by show (onlyT (fuD f) && onlyTs (l.map fuD)) = true; rw [only_fu f, only_fus l]; rfl
/-- the functions of a book as they are drawn -/
structure OkB (most q d L : Nat) (fs : List Fu) : Prop where
  f0 : fs ≠ []
  fl : fs.length ≤ most
  nd : (fs.map (·.n)).Nodup
  ok : ∀ f ∈ fs, OkF (fs.map fuM) q d L f
/-- the pairs of a name and how many things it takes, as they lie in a list -/
inductive Szs (H : Hp) : List V → List (Str × Nat) → Prop
  | nil : Szs H [] []
  | cons {p : Addr} {t : Str} {s : Nat} {vs : List V} {us : List (Str × Nat)} (h : H p = some (.tup [.str t, .int (s : Int)])) (r : Szs H vs us) : Szs H (.ref p :: vs) ((t, s) :: us)
theorem Szs.len {H : Hp} {vs : List V} {us : List (Str × Nat)} (h : Szs H vs us) : vs.length = us.length := by
  induction h with
  | nil => rfl
  | cons _ _ ih => rw [List.length_cons, List.length_cons, ih]
theorem Szs.tk {H H' : Hp} {vs : List V} {us : List (Str × Nat)} (h : Szs H vs us) (t : Tk H H') : Szs H' vs us := by
  induction h with
  | nil => exact .nil
  | cons e _ ih => exact .cons (t _ _ (.inl ⟨_, rfl⟩) e) ih
theorem Szs.snoc {H : Hp} {p : Addr} {t : Str} {s : Nat} (e : H p = some (.tup [.str t, .int (s : Int)])) : ∀ {vs : List V} {us : List (Str × Nat)}, Szs H vs us → Szs H (vs ++ [.ref p]) (us ++ [(t, s)])
  | _, _, .nil => .cons e .nil
  | _, _, .cons h r => .cons h (Szs.snoc e r)
theorem Szs.at {H : Hp} {vs : List V} {us : List (Str × Nat)} (h : Szs H vs us) : ∀ {i : Nat} {x : V}, vs[i]? = some x → ∃ p t s, x = .ref p ∧ us[i]? = some (t, s) ∧ H p = some (.tup [.str t, .int ((s : Nat) : Int)]) := by
  induction h with
  | nil => intro i x h; simp at h
  | @cons p t s vs us e r ih =>
    intro i x h
    cases i with
    | zero => exact ⟨p, t, s, (Option.some.inj h).symm, rfl, e⟩
    | succ i =>
      rw [List.getElem?_cons_succ] at h
      obtain ⟨p2, t2, s2, h1, h2, h3⟩ := ih h
      exact ⟨p2, t2, s2, h1, by rw [List.getElem?_cons_succ]; exact h2, h3⟩
theorem Szs.mem {H : Hp} {vs : List V} {us : List (Str × Nat)} (h : Szs H vs us) {x : V} (m : x ∈ vs) : ∃ p t s, x = .ref p ∧ H p = some (.tup [.str t, .int ((s : Nat) : Int)]) ∧ (t, s) ∈ us := by
  obtain ⟨i, hi, e⟩ := List.mem_iff_getElem.mp m
  obtain ⟨p, t, s, hx, hu, hp⟩ := h.at (i := i) (x := x) (by rw [List.getElem?_eq_getElem hi, e])
  exact ⟨p, t, s, hx, hp, List.mem_of_getElem? hu⟩
theorem cutV_take (l : List V) (s : Nat) : cutV l none (some (s : Int)) = l.take s := by
  have e : HT.sIx l.length l.length (some (s : Int)) = min s l.length := by
    show (if (s : Int) < 0 then ((s : Int) + (l.length : Int)).toNat else min (s : Int).toNat l.length) = _
    rw [if_neg (by omega)]
    rfl
  show (l.drop 0).take (HT.sIx l.length l.length (some (s : Int)) - 0) = _
  rw [e, List.drop_zero, Nat.sub_zero]
  by_cases h : s ≤ l.length
  · rw [Nat.min_eq_left h]
  · rw [Nat.min_eq_right (by omega), List.take_of_length_le (Nat.le_refl _), List.take_of_length_le (by omega)]
end LK
set_option Elab.async false
set_option linter.all false
set_option maxRecDepth 100000
set_option maxHeartbeats 2000000
namespace LK
open PySem PySem.Spec PyProof.Rows L2 Evl
/-! ### d.get(k) of a written dict with text keys -/
/-- what the written dict at a gives for z -/
def KGet (K : PySem.W.Frag) (w : World) (a : Addr) (z : Str) (v : V) : Prop :=
  ∃ es n r, KDict K w a es n ∧ PySem.W.nsIn K a z = some r ∧ RelV v (r.getD Value.none)
def tKGet (K : PySem.W.Frag) (w : World) (td ty : TE) : TE := fun σ H Q => td σ H fun x H1 => ∃ a, x = .ref a ∧ (∃ es n, KDict K w a es n) ∧ ty σ H1 fun y H2 => ∃ z v, y = .str z ∧ KGet K w a z v ∧ Q v H2
section
variable {X : Cx} {o e : Expr} {apos cpos : Pos} {td ty : TE}
theorem k_get1 {pins : List (Addr × Obj)} {σ : L2.St} {H : Hp} {s : Shared} {a : Addr} {z : Str} {v : V} {u : Value} {A : Around} {E Q : Value → Shared → Prop} (I : L2.Inv X pins σ H s) (g : KGet X.K X.w a z v) (ry : RelV (.str z) u)
    (h : ∀ (w' : Value) (s' : Shared), L2.Inv X pins σ H s' → RelV v w' → Q w' s') :
    wpAny (model X.prog X.w) A (call (.builtin "dict.get") [.ref a, u]) Q E s := by
  obtain ⟨es, n, r, D, hr, rv⟩ := g
  obtain ⟨t, rfl⟩ := ry
  have mo := PySem.W.mapOf_K (prog := X.prog) (w := X.w) I.kIn D.at_ D.lit
  have ti : s.TypeIs (.ref a) "dict" := ⟨_, I.kIn _ _ D.at_, rfl⟩
  exact call_meetsIn F.slot_dict_get ti F.entry_dict_get (F.args_dict_get_2 (.ref a) (.str z t)) (meets_dict_get (PySem.strKind X.prog X.w) a (strKind_is X.prog X.w z t) D.low)
    ⟨_, mo, h _ _ (I.tok (s.toks + 1)) (by rw [PySem.W.find_K D.at_ hr]; exact rv)⟩
theorem pe_kget1 (ho : PE X o td) (he : PE X e ty) (m : M1 X o "get" apos e cpos) :
    PE X (.Call (.Attribute o "get" apos) [e] [] cpos) (tKGet X.K X.w td ty) := by
  constructor
  intro pins s σ H Q I h
  refine wpAny_Call_method m.base m.few m.line PySem.F.plainAttrs_dict PySem.F.slot_dict_get PySem.F.type_dict_get (thn (ho.run pins s σ H _ I h) ?_)
  rintro u s1 ⟨x, H1, I1, rx, a, rfl, ⟨es, n, D⟩, q1⟩
  have rx' : Value.ref a = u := rx.symm
  subst rx'
  have ob := I1.kIn _ _ D.at_
  refine ⟨⟨_, ob, rfl⟩, fun b eb => ?_, ?_⟩
  · cases eb; exact ⟨_, ob, rfl⟩
  rw [m.trees]
  refine Calls.callWith_builtin rfl (Calls.evalArgs_plain (Calls.spliced_cons (thn (he.run pins s1 σ H1 _ I1 q1) ?_)))
  rintro iv s2 ⟨y, H2, I2, ry, z, v, rfl, g, q2⟩
  refine Calls.spliced_nil (k_get1 I2 g ry fun w' s3 I3 rw' => ⟨v, H2, I3, rw', q2⟩)
end
/-! ### what a written dict of texts to tuples of texts tells -/
def keysB (K : PySem.W.Frag) (a : Addr) (ks : List Str) : Bool :=
  match K.lookup a with
  | some { cls := _, dict := _, data := .dict es _, slots := _ } => decide (es.toList.map (fun e => match e.key with | .str x _ => some x | _ => none) = ks.map some)
  | _ => false
theorem key_shape {ks : List Str} {es : List DictEntry} (h : es.map (fun e => match e.key with | .str x _ => some x | _ => none) = ks.map some) : ∀ e ∈ es, ∃ x t, e.key = .str x t ∧ x ∈ ks := by
  intro e he
  have m : (match e.key with | .str x _ => some x | _ => (none : Option Str)) ∈ ks.map some := by
    rw [← h]; exact List.mem_map.mpr ⟨e, he, rfl⟩
  obtain ⟨x, hx, ex⟩ := List.mem_map.mp m
  cases hk : e.key with
  | str y t =>
    rw [hk] at ex
    exact ⟨y, t, rfl, by cases ex; exact hx⟩
  | _ => rw [hk] at ex; cases ex
theorem nsIn_no {K : PySem.W.Frag} {a : Addr} {ks : List Str} (h : keysB K a ks = true) {z : Str} (hz : z ∉ ks) : PySem.W.nsIn K a z = some none := by
  unfold keysB at h
  split at h
  · rename_i c dd es ep sl el
    have sh := key_shape (of_decide_eq_true h)
    unfold PySem.W.nsIn
    rw [el]
    simp only
    have e1 : List.find? (fun x => x.key.isStr z) es.toList = none := by
      rw [List.find?_eq_none]
      intro e he
      obtain ⟨x, t, ek, hx⟩ := sh e he
      rw [ek]
      intro hs
      have hs' : (x == z) = true := hs
      rw [eq_of_beq hs'] at hx
      exact hz hx
    have e2 : (es.toList.any fun x => x.refKey) = false := by
      rw [List.any_eq_false]
      intro e he
      obtain ⟨x, t, ek, hx⟩ := sh e he
      intro hr
      have : e.refKey = false := by
        unfold DictEntry.refKey
        rw [ek]
      rw [this] at hr
      cases hr
    rw [e1, e2]
    rfl
  · cases h
/-- the tuple of texts that the dict has for z -/
def rowB (K : PySem.W.Frag) (a : Addr) (z : Str) (vs : List Str) : Bool :=
  match PySem.W.nsIn K a z with
  | some (some (.ref t)) => He.relAll (vs.map V.str) (match K.lookup t with | some { cls := _, dict := _, data := .seq its _, slots := _ } => its.toList | _ => []) &&
      (match K.lookup t with | some { cls := .type c, dict := _, data := .seq its _, slots := _ } => decide (c = "tuple") && decide (its.size ≤ sizeLine) | _ => false)
  | _ => false
theorem rowB_ok {K : PySem.W.Frag} {a : Addr} {z : Str} {vs : List Str} (h : rowB K a z vs = true) : ∃ t, PySem.W.nsIn K a z = some (some (.ref t)) ∧ ∀ H, SqT K H t (vs.map V.str) := by
  unfold rowB at h
  split at h
  · rename_i t e
    refine ⟨t, e, fun H => ?_⟩
    obtain ⟨h1, h2⟩ := Bool.and_eq_true_iff.mp h
    split at h2
    · rename_i c dd its ep sl el
      rw [el] at h1
      obtain ⟨h3, h4⟩ := Bool.and_eq_true_iff.mp h2
      have hc := of_decide_eq_true h3
      exact .inr ⟨_, its, ep, el, by rw [hc], rfl, of_decide_eq_true h4, He.relAll_ok h1⟩
    · cases h2
  · cases h
end LK
set_option Elab.async false
set_option linter.all false
set_option maxRecDepth 100000
set_option maxHeartbeats 2000000
namespace LK
open PySem PySem.Spec PyProof.Rows L2 Evl
/-! ### what a body of a function is, of any data -/
def exprK : List (Str × List Str) := [("number", ["number"]), ("none", []), ("box", ["box"]), ("plus", ["expression", "expression"]), ("less", ["expression", "expression"]), ("times", ["expression", "expression"]), ("under", ["expression", "expression"]), ("same", ["expression", "expression"])]
def stmK : List (Str × List Str) := [("set", ["box", "expression"]), ("say", ["expression"]), ("give", ["box", "expression"]), ("if", ["expression", "body", "body"]), ("while", ["expression", "body"]), ("break", []), ("again", []), ("return", ["expression"]), ("throw", ["expression"]),
  ("try", ["body", "caught", "body", "body"]), ("make", ["box", "function", "things"]), ("pull", ["box", "way", "expression", "expression", "body"]), ("close", ["expression"]), ("all", ["box", "expression"])]
def nameOk (z : Str) : Bool := (decide (1 ≤ (z.length : Int)) && decide ((z.length : Int) ≤ 8)) && (Txt.isascii z && (Txt.isalpha z && (Txt.islower z && !inV (.str z) (ownW.map V.str))))
def nameD : PyData → Bool
  | .str z => nameOk z
  | _ => false
def kindsD (k : Str) : PyData → Option (List Str)
  | .tuple (.str z :: _) => if k = "statement" then stmK.lookup z else exprK.lookup z
  | _ => none
def isTup : PyData → Bool
  | .tuple _ => true
  | _ => false
def noneD : PyData → Bool
  | .none => true
  | _ => false
def lenT : PyData → Nat
  | .tuple l => l.length
  | _ => 0
def numD : PyData → Bool
  | .int i => decide (0 ≤ i) && decide (i < 1000003)
  | _ => false
def wayD : PyData → Bool
  | .str z => decide (z ∈ (["ask", "toss"] : List Str))
  | _ => false
def isPartD (k : Str) (d : PyData) : Bool :=
  if k = "statement" ∨ k = "expression" then
    match kindsD k d with
    | some ks => decide (lenT d = ks.length + 1)
    | none => false
  else if k = "body" ∨ k = "things" then isTup d
  else if k = "number" then numD d
  else if k = "way" then wayD d
  else (decide (k = "caught") && noneD d) || nameD d
def emptyD : PyData → Bool
  | .tuple [] => true
  | _ => false
/-- a statement that is one by its parts: whether it fits where it stands -/
def mayD (cs : List (Str × Int)) (l : Bool) : PyData → Bool
  | .tuple (.str z :: r) =>
    if z = "break" ∨ z = "again" then l
    else if z = "try" then
      match r with
      | [_, c, s, f] => !noneD c || (emptyD s && !emptyD f)
      | _ => false
    else if z = "make" then
      match r with
      | [_, .str n, .tuple t] => nameOk n && decide (cs.lookup n = some (t.length : Int))
      | _ => false
    else true
  | _ => false
def isWh : List PyData → Bool
  | .str z :: _ => decide (z = "while")
  | _ => false
mutual
def okD (cs : List (Str × Int)) (k : Str) (l : Bool) : PyData → Bool
  | .tuple ds => isPartD k (.tuple ds) &&
    (if k = "body" then okA cs "statement" l ds
     else if k = "things" then okA cs "expression" l ds
     else if k = "statement" then mayD cs l (.tuple ds) && okR cs ((kindsD k (.tuple ds)).getD []) (l || isWh ds) ds
     else if k = "expression" then okR cs ((kindsD k (.tuple ds)).getD []) l ds
     else true)
  | .none => isPartD k .none
  | .bool b => isPartD k (.bool b)
  | .int i => isPartD k (.int i)
  | .str z => isPartD k (.str z)
  | .list m => isPartD k (.list m)
  | .dict m => isPartD k (.dict m)
def okA (cs : List (Str × Int)) (k : Str) (l : Bool) : List PyData → Bool
  | [] => true
  | d :: r => okD cs k l d && okA cs k l r
def okR (cs : List (Str × Int)) (ks : List Str) (l : Bool) : List PyData → Bool
  | [] => true
  | _ :: r => okZ cs ks l r
def okZ (cs : List (Str × Int)) (ks : List Str) (l : Bool) : List PyData → Bool
  | [] => true
  | d :: r => match ks with
    | [] => true
    | k :: ks' => okD cs k l d && okZ cs ks' l r
end
/-! ### what is drawn is such a body -/
theorem signs128 : ∀ c, c < 128 → Unicode.isLower c = lo c ∧ Unicode.isUpper c = decide (65 ≤ c ∧ c ≤ 90) ∧ Unicode.isTitle c = false ∧ Unicode.isAlpha c = (lo c || decide (65 ≤ c ∧ c ≤ 90)) := by decide +kernel
theorem abc128 : ∀ c, c < 128 → decide (c ∈ ("abcdefghijklmnopqrstuvwxyz" : Str).cps.toList) = lo c := by decide +kernel
theorem name_signs {z : Str} (h : ∀ c ∈ z.cps.toList, c < 128) (h1 : 1 ≤ z.length) : (Txt.isascii z && (Txt.isalpha z && Txt.islower z)) = z.cps.toList.all lo := by
  have e1 : Txt.isascii z = true := by
    show z.cps.all (· < 128) = true
    rw [← Array.all_toList, List.all_eq_true]
    intro c hc
    exact decide_eq_true (h c hc)
  have hp : decide (z.length > 0) = true := decide_eq_true h1
  have e2 : Txt.isalpha z = z.cps.toList.all Unicode.isAlpha := by
    show (decide (z.length > 0) && z.cps.all Unicode.isAlpha) = _
    rw [hp, Bool.true_and, ← Array.all_toList]
  have e3 : Txt.islower z = (z.cps.toList.any Unicode.isLower && !z.cps.toList.any fun c => Unicode.isUpper c || Unicode.isTitle c) := by
    show (z.cps.any Unicode.isLower && !z.cps.any fun c => Unicode.isUpper c || Unicode.isTitle c) = _
    rw [← Array.any_toList, ← Array.any_toList]
  rw [e1, e2, e3, Bool.true_and]
  have hne : z.cps.toList ≠ [] := by
    intro e
    have : z.length = 0 := by show z.cps.toList.length = 0; rw [e]; rfl
    omega
  generalize z.cps.toList = l at h hne
  cases ha : l.all lo with
  | true =>
    have ha' := List.all_eq_true.mp ha
    have a1 : l.all Unicode.isAlpha = true := List.all_eq_true.mpr fun c hc => by rw [(signs128 c (h c hc)).2.2.2, ha' c hc]; rfl
    have a2 : l.any Unicode.isLower = true := by
      cases l with
      | nil => exact absurd rfl hne
      | cons c r => exact List.any_eq_true.mpr ⟨c, List.mem_cons_self, by rw [(signs128 c (h c List.mem_cons_self)).1]; exact ha' c List.mem_cons_self⟩
    have a3 : (l.any fun c => Unicode.isUpper c || Unicode.isTitle c) = false := by
      rw [List.any_eq_false]
      intro c hc
      obtain ⟨_, s2, s3, _⟩ := signs128 c (h c hc)
      have q := of_decide_eq_true (ha' c hc)
      rw [s2, s3, Bool.or_false]
      simp only [decide_eq_true_eq]
      omega
    rw [a1, a2, a3]; rfl
  | false =>
    obtain ⟨c, hc, hn⟩ := List.all_eq_false.mp ha
    obtain ⟨s1, s2, s3, s4⟩ := signs128 c (h c hc)
    cases hu : decide (65 ≤ c ∧ c ≤ 90) with
    | true =>
      have a3 : (l.any fun c => Unicode.isUpper c || Unicode.isTitle c) = true := List.any_eq_true.mpr ⟨c, hc, by rw [s2, hu]; rfl⟩
      rw [a3]
      simp
    | false =>
      have a1 : l.all Unicode.isAlpha = false := List.all_eq_false.mpr ⟨c, hc, by rw [s4, hu]; simpa using hn⟩
      rw [a1]; rfl
theorem Nm.nameOk {z : Str} (h : Nm z) : nameOk z = true := by
  unfold LK.nameOk
  have e : (Txt.isascii z && (Txt.isalpha z && (Txt.islower z && !inV (.str z) (ownW.map V.str)))) = ((Txt.isascii z && (Txt.isalpha z && Txt.islower z)) && !inV (.str z) (ownW.map V.str)) := by
    cases Txt.isascii z <;> cases Txt.isalpha z <;> cases Txt.islower z <;> rfl
  have h1 := h.l1
  have h8 := h.l8
  rw [e, name_signs h.c128 h1, in_strs, decide_eq_false h.free, List.all_eq_true.mpr h.lo, decide_eq_true (by omega), decide_eq_true (by omega)]
  rfl
section
variable {cs : List (Str × Int)} {bs : List Str} {ms : List (Str × Nat)} {q d : Nat} {l : Bool}
theorem ne_bool {a b : Str} (h : ¬ a = b) : decide (a = b) = false := decide_eq_false h
theorem okD_expr {z : Str} {ks : List Str} {r : List PyData} (h : exprK.lookup z = some ks) (hl : r.length = ks.length) : okD cs "expression" l (.tuple (.str z :: r)) = okZ cs ks l r := by
  have hk : kindsD "expression" (.tuple (.str z :: r)) = some ks := by
    show (if ("expression" : Str) = "statement" then stmK.lookup z else exprK.lookup z) = some ks
    rw [if_neg (by decide +kernel)]; exact h
  have hp : isPartD "expression" (.tuple (.str z :: r)) = true := by
    unfold isPartD
    rw [if_pos (Or.inr rfl), hk]
    show decide ((PyData.str z :: r).length = ks.length + 1) = true
    rw [List.length_cons, hl]
    exact decide_eq_true rfl
  unfold okD
  rw [hp, if_neg (by decide +kernel), if_neg (by decide +kernel), if_neg (by decide +kernel), if_pos rfl, hk]
  show (true && okR cs ks l (PyData.str z :: r)) = _
  rw [Bool.true_and]
  unfold okR
  rfl
theorem okD_stm {z : Str} {ks : List Str} {r : List PyData} (h : stmK.lookup z = some ks) (hl : r.length = ks.length) : okD cs "statement" l (.tuple (.str z :: r)) = (mayD cs l (.tuple (.str z :: r)) && okZ cs ks (l || decide (z = "while")) r) := by
  have hk : kindsD "statement" (.tuple (.str z :: r)) = some ks := by
    show (if ("statement" : Str) = "statement" then stmK.lookup z else exprK.lookup z) = some ks
    rw [if_pos rfl]; exact h
  have hp : isPartD "statement" (.tuple (.str z :: r)) = true := by
    unfold isPartD
    rw [if_pos (Or.inl rfl), hk]
    show decide ((PyData.str z :: r).length = ks.length + 1) = true
    rw [List.length_cons, hl]
    exact decide_eq_true rfl
  unfold okD
  rw [hp, if_neg (by decide +kernel), if_neg (by decide +kernel), if_pos rfl, hk]
  show (true && (mayD cs l (.tuple (.str z :: r)) && okR cs ks (l || decide (z = "while")) (PyData.str z :: r))) = _
  rw [Bool.true_and]
  unfold okR
  rfl
theorem okD_body {ds : List PyData} : okD cs "body" l (.tuple ds) = okA cs "statement" l ds := by
  have hp : isPartD "body" (.tuple ds) = true := by
    unfold isPartD
    rw [if_neg (by decide +kernel), if_pos (Or.inl rfl)]; rfl
  unfold okD
  rw [hp, if_pos rfl, Bool.true_and]
theorem okD_things {ds : List PyData} : okD cs "things" l (.tuple ds) = okA cs "expression" l ds := by
  have hp : isPartD "things" (.tuple ds) = true := by
    unfold isPartD
    rw [if_neg (by decide +kernel), if_pos (Or.inr rfl)]; rfl
  unfold okD
  rw [hp, if_neg (by decide +kernel), if_pos rfl, Bool.true_and]
theorem okA_all {k : Str} : ∀ {ds : List PyData}, (∀ d ∈ ds, okD cs k l d = true) → okA cs k l ds = true
  | [], _ => by unfold okA; rfl
  | d :: r, h => by
    unfold okA
    rw [h d List.mem_cons_self, okA_all fun x hx => h x (List.mem_cons_of_mem _ hx)]; rfl
theorem okZ_cons {k : Str} {ks : List Str} {d : PyData} {r : List PyData} (h : okD cs k l d = true) (h2 : okZ cs ks l r = true) : okZ cs (k :: ks) l (d :: r) = true := by
  unfold okZ
  show (okD cs k l d && okZ cs ks l r) = true
  rw [h, h2]; rfl
theorem okZ_nil {ks : List Str} : okZ cs ks l [] = true := by unfold okZ; rfl
theorem ok_num {n : Int} (h0 : 0 ≤ n) (h1 : n < 1000003) : okD cs "number" l (.int n) = true := by
  unfold okD isPartD
  rw [if_neg (by decide +kernel), if_neg (by decide +kernel), if_pos rfl]
  show (decide (0 ≤ n) && decide (n < 1000003)) = true
  rw [decide_eq_true h0, decide_eq_true h1]; rfl
theorem ok_way {w : Str} (h : w ∈ (["ask", "toss"] : List Str)) : okD cs "way" l (.str w) = true := by
  unfold okD isPartD
  rw [if_neg (by decide +kernel), if_neg (by decide +kernel), if_neg (by decide +kernel), if_pos rfl]
  exact decide_eq_true h
theorem ok_caught0 : okD cs "caught" l .none = true := by
  unfold okD isPartD
  rw [if_neg (by decide +kernel), if_neg (by decide +kernel), if_neg (by decide +kernel), if_neg (by decide +kernel)]
  rfl
theorem ok_name' {k : Str} {z : Str} (h : Nm z) (hk : k = "box" ∨ k = "caught" ∨ k = "function") : okD cs k l (.str z) = true := by
  have hn := Nm.nameOk h
  have e : isPartD k (.str z) = ((decide (k = "caught") && false) || nameOk z) := by
    unfold isPartD
    rcases hk with rfl | rfl | rfl
    · rw [if_neg (by decide +kernel), if_neg (by decide +kernel), if_neg (by decide +kernel), if_neg (by decide +kernel)]; rfl
    · rw [if_neg (by decide +kernel), if_neg (by decide +kernel), if_neg (by decide +kernel), if_neg (by decide +kernel)]; rfl
    · rw [if_neg (by decide +kernel), if_neg (by decide +kernel), if_neg (by decide +kernel), if_neg (by decide +kernel)]; rfl
  unfold okD
  rw [e, hn]; simp
theorem ok_ex (bn : ∀ z ∈ bs, Nm z) {e : Ex} (h : OkE bs d e) : okD cs "expression" l (exD e) = true := by
  induction h with
  | num h0 h1 => exact (okD_expr (ks := (["number"] : List Str)) (by decide +kernel) rfl).trans (okZ_cons (ok_num h0 h1) okZ_nil)
  | non => exact (okD_expr (ks := ([] : List Str)) (by decide +kernel) rfl).trans okZ_nil
  | box hb => exact (okD_expr (ks := (["box"] : List Str)) (by decide +kernel) rfl).trans (okZ_cons (ok_name' (bn _ hb) (Or.inl rfl)) okZ_nil)
  | op hw _ _ i1 i2 =>
    have hk : ∀ w ∈ opW, exprK.lookup w = some (["expression", "expression"] : List Str) := by decide +kernel
    exact (okD_expr (hk _ hw) rfl).trans (okZ_cons i1 (okZ_cons i2 okZ_nil))
theorem ok_sms {ds : List Sm} (h : ∀ s ∈ ds, okD cs "statement" l (smD s) = true) : okD cs "body" l (bodyD ds) = true := by
  rw [show bodyD ds = .tuple (smsD ds) from rfl, okD_body, smsD_map]
  exact okA_all fun x hx => by
    obtain ⟨s, hs, rfl⟩ := List.mem_map.mp hx
    exact h s hs
theorem may_other {z : Str} {r : List PyData} (h : ¬ (z = "break" ∨ z = "again")) (h2 : ¬ z = "try") (h3 : ¬ z = "make") : mayD cs l (.tuple (.str z :: r)) = true := by
  unfold mayD
  simp only
  rw [if_neg h, if_neg h2, if_neg h3]
theorem ok_sm (bn : ∀ z ∈ bs, Nm z) (mn : ∀ u ∈ ms, Nm u.1) (mc : ∀ u ∈ ms, cs.lookup u.1 = some (u.2 : Int)) {s : Sm} (h : OkS bs ms q d l s) : okD cs "statement" l (smD s) = true := by
  induction h with
  | @set3 d l w b e hw hb he =>
    have hk : ∀ w ∈ (["set", "give", "all"] : List Str), stmK.lookup w = some (["box", "expression"] : List Str) ∧ ¬ (w = "break" ∨ w = "again") ∧ ¬ w = "try" ∧ ¬ w = "make" := by decide +kernel
    obtain ⟨k1, k2, k3, k4⟩ := hk w hw
    refine (okD_stm k1 rfl).trans ?_
    rw [may_other k2 k3 k4, Bool.true_and]
    exact okZ_cons (ok_name' (bn _ hb) (Or.inl rfl)) (okZ_cons (ok_ex bn he) okZ_nil)
  | @one d l w e hw he =>
    have hk : ∀ w ∈ (["say", "return", "close", "throw"] : List Str), stmK.lookup w = some (["expression"] : List Str) ∧ ¬ (w = "break" ∨ w = "again") ∧ ¬ w = "try" ∧ ¬ w = "make" := by decide +kernel
    obtain ⟨k1, k2, k3, k4⟩ := hk w hw
    refine (okD_stm k1 rfl).trans ?_
    rw [may_other k2 k3 k4, Bool.true_and]
    exact okZ_cons (ok_ex bn he) okZ_nil
  | @jump d w hw =>
    have hk : ∀ w ∈ (["break", "again"] : List Str), stmK.lookup w = some ([] : List Str) ∧ (w = "break" ∨ w = "again") := by decide +kernel
    obtain ⟨k1, k2⟩ := hk w hw
    refine (okD_stm k1 rfl).trans ?_
    have m : mayD cs true (.tuple [.str w]) = true := by
      unfold mayD
      simp only
      rw [if_pos k2]
    rw [m, Bool.true_and]
    exact okZ_nil
  | @make d l b n es hb hn he =>
    refine (okD_stm (ks := (["box", "function", "things"] : List Str)) (by decide +kernel) rfl).trans ?_
    have m : mayD cs l (.tuple [.str "make", .str b, .str n, .tuple (es.map exD)]) = true := by
      unfold mayD
      simp only
      rw [if_neg (by decide +kernel), if_neg (by decide +kernel), if_pos trivial, Nm.nameOk (mn _ hn), mc _ hn, List.length_map, decide_eq_true rfl]; rfl
    rw [m, Bool.true_and]
    refine okZ_cons (ok_name' (bn _ hb) (Or.inl rfl)) (okZ_cons (ok_name' (mn _ hn) (Or.inr (Or.inr rfl))) (okZ_cons ?_ okZ_nil))
    rw [okD_things]
    exact okA_all fun x hx => by
      obtain ⟨e, hx2, rfl⟩ := List.mem_map.mp hx
      exact ok_ex bn (he e hx2)
  | @ifs d l e x y he hx hy i1 i2 =>
    refine (okD_stm (ks := (["expression", "body", "body"] : List Str)) (by decide +kernel) rfl).trans ?_
    rw [may_other (by decide +kernel) (by decide +kernel) (by decide +kernel), Bool.true_and, decide_eq_false (by decide +kernel), Bool.or_false]
    exact okZ_cons (ok_ex bn he) (okZ_cons (ok_sms i1) (okZ_cons (ok_sms i2) okZ_nil))
  | @whl d l e x he hx i1 =>
    refine (okD_stm (ks := (["expression", "body"] : List Str)) (by decide +kernel) rfl).trans ?_
    rw [may_other (by decide +kernel) (by decide +kernel) (by decide +kernel), Bool.true_and, decide_eq_true rfl, Bool.or_true]
    exact okZ_cons (ok_ex bn he) (okZ_cons (ok_sms i1) okZ_nil)
  | @pull d l b w e f x hb hw he hf hx i1 =>
    refine (okD_stm (ks := (["box", "way", "expression", "expression", "body"] : List Str)) (by decide +kernel) rfl).trans ?_
    rw [may_other (by decide +kernel) (by decide +kernel) (by decide +kernel), Bool.true_and, decide_eq_false (by decide +kernel), Bool.or_false]
    exact okZ_cons (ok_name' (bn _ hb) (Or.inl rfl)) (okZ_cons (ok_way hw) (okZ_cons (ok_ex bn he) (okZ_cons (ok_ex bn hf) (okZ_cons (ok_sms i1) okZ_nil))))
  | @fin d l x z hx hz hn i1 i2 =>
    refine (okD_stm (ks := (["body", "caught", "body", "body"] : List Str)) (by decide +kernel) rfl).trans ?_
    have m : mayD cs l (.tuple [.str "try", bodyD x, .none, bodyD [], bodyD z]) = true := by
      unfold mayD
      simp only
      rw [if_neg (by decide +kernel), if_pos trivial]
      have : emptyD (bodyD z) = false := by
        cases z with
        | nil => exact absurd rfl hn
        | cons => rfl
      rw [this]; rfl
    refine (congrArg (· && _) m).trans ?_
    rw [Bool.true_and, decide_eq_false (by decide +kernel), Bool.or_false]
    exact okZ_cons (ok_sms i1) (okZ_cons ok_caught0 (okZ_cons (ok_sms fun _ h => nomatch h) (okZ_cons (ok_sms i2) okZ_nil)))
  | @tri d l x y z c hc hx hy hz i1 i2 i3 =>
    refine (okD_stm (ks := (["body", "caught", "body", "body"] : List Str)) (by decide +kernel) rfl).trans ?_
    have m : mayD cs l (.tuple [.str "try", bodyD x, .str c, bodyD y, bodyD z]) = true := by
      unfold mayD
      simp only
      rw [if_neg (by decide +kernel), if_pos trivial]
      rfl
    refine (congrArg (· && _) m).trans ?_
    rw [Bool.true_and, decide_eq_false (by decide +kernel), Bool.or_false]
    exact okZ_cons (ok_sms i1) (okZ_cons (ok_name' (bn _ hc) (Or.inr (Or.inl rfl))) (okZ_cons (ok_sms i2) (okZ_cons (ok_sms i3) okZ_nil)))
end
end LK
set_option Elab.async false
set_option linter.all false
set_option maxRecDepth 100000
set_option maxHeartbeats 2000000
namespace LK
open PySem PySem.Spec PyProof.Rows L2 Evl
/-! ### type(x) of data -/
def tyD : PyData → String
  | .none => "NoneType"
  | .bool _ => "bool"
  | .int _ => "int"
  | .str _ => "str"
  | .list _ => "list"
  | .tuple _ => "tuple"
  | .dict _ => "dict"
section
variable {X : Cx}
def rTyD (K : PySem.W.Frag) : List V → Hp → VK → Prop := fun xs H Q => ∃ x d, xs = [x] ∧ Dp K H x d ∧ Q (.ty (tyD d)) H
theorem call_tyD : CallR X (.type "type") (rTyD X.K) := by
  intro pins s σ H xs us Q I r h
  obtain ⟨x, d, rfl, t, q⟩ := h
  obtain ⟨u, rfl, rx⟩ := vals1 r
  have fin : EP X pins σ Q (.type (tyD d)) s := ⟨.ty (tyD d), H, I, rfl, q⟩
  cases t with
  | non => cases rx; exact call_type_of (typeIs_none s) (by decide +kernel) fin
  | bl b => cases rx; exact call_type_of (PySem.typeIs_bool s b) (by decide +kernel) fin
  | int i => obtain ⟨k, rfl⟩ := rx; exact call_type_of (typeIs_int s i k) (by decide +kernel) fin
  | str z => obtain ⟨k, rfl⟩ := rx; exact call_type_of (typeIs_str s z k) (by decide +kernel) fin
  | lst e =>
    cases rx
    obtain ⟨its, rv, p, _⟩ := I.list e
    exact call_type_of p.isList.typeIs (by decide +kernel) fin
  | tup e =>
    cases rx
    obtain ⟨its, rv, p, _⟩ := I.tuple e
    exact call_type_of p.typeIs (by decide +kernel) fin
end
theorem ty_not {d : PyData} {s : String} (h : tyD d ≠ s) : (!decide (tyD d = s)) = true := by rw [decide_eq_false h]; rfl
theorem ty_yes {d : PyData} {s : String} (h : tyD d = s) : (!decide (tyD d = s)) = false := by rw [decide_eq_true h]; rfl
theorem tup_ty {d : PyData} (h : tyD d = "tuple") : ∃ l, d = .tuple l := by cases d <;> first | exact ⟨_, rfl⟩ | (simp [tyD] at h)
theorem str_ty {d : PyData} (h : tyD d = "str") : ∃ z, d = .str z := by cases d <;> first | exact ⟨_, rfl⟩ | (simp [tyD] at h)
theorem int_ty {d : PyData} (h : tyD d = "int") : ∃ z, d = .int z := by cases d <;> first | exact ⟨_, rfl⟩ | (simp [tyD] at h)
theorem notNone {d : PyData} (h : d ≠ .none) : noneD d = false := by cases d <;> first | rfl | exact absurd rfl h
theorem dp_len {K : PySem.W.Frag} {H : Hp} : ∀ {vs : List V} {ds : List PyData}, DpAll K H vs ds → vs.length = ds.length
  | _, _, .nil => rfl
  | _, _, .cons _ r => by rw [List.length_cons, List.length_cons, dp_len r]
/-! no dict, no long text -/
mutual
def smallD : PyData → Bool
  | .str z => decide (z.length ≤ 1000)
  | .tuple l => smallL l
  | .list l => smallL l
  | .dict _ => false
  | _ => true
def smallL : List PyData → Bool
  | [] => true
  | d :: r => smallD d && smallL r
end
theorem smallL_mem : ∀ {l : List PyData} {d : PyData}, smallL l = true → d ∈ l → smallD d = true
  | a :: l, d, h, m => by
    have h' : (smallD a && smallL l) = true := h
    obtain ⟨h1, h2⟩ := Bool.and_eq_true_iff.mp h'
    rcases List.mem_cons.mp m with rfl | m
    · exact h1
    · exact smallL_mem h2 m
/-- a written table of texts to tuples of texts -/
structure Tabl (K : PySem.W.Frag) (w : World) (a : Addr) (tb : List (Str × List Str)) : Prop where
  d : ∃ es n, KDict K w a es n
  has : ∀ z ks, tb.lookup z = some ks → ∃ t, KGet K w a z (.ref t) ∧ ∀ H, SqT K H t (ks.map V.str)
  no : ∀ z, tb.lookup z = none → KGet K w a z .non
theorem len_pos {x : V} {xs : List V} : decide (V.int ((x :: xs).length : Int) = V.int 0) = false := decide_eq_false fun e => by
  have := V.int.inj e
  rw [List.length_cons] at this
  omega
theorem len_empty {vs : List V} {l : List PyData} (h : vs.length = l.length) : emptyD (.tuple l) = decide (V.int (vs.length : Int) = V.int 0) := by
  cases l with
  | nil => rw [h]; rfl
  | cons a r =>
    cases vs with
    | nil => rw [List.length_cons] at h; exact absurd h (by show ¬ 0 = _; omega)
    | cons x xs => rw [len_pos]; rfl
theorem in_two {k a b : Str} : inV (.str k) [V.str a, V.str b] = decide (k = a ∨ k = b) := by
  rw [show [V.str a, V.str b] = ([a, b] : List Str).map V.str from rfl, in_strs]
  by_cases h : k = a ∨ k = b
  · rw [decide_eq_true h, decide_eq_true]
    rcases h with rfl | rfl
    · exact List.mem_cons_self
    · exact List.mem_cons_of_mem _ List.mem_cons_self
  · rw [decide_eq_false h, decide_eq_false]
    intro m
    rcases List.mem_cons.mp m with e | m
    · exact h (.inl e)
    · exact h (.inr (List.mem_singleton.mp m))
theorem is_tup (d : PyData) : isTup d = decide (tyD d = "tuple") := by cases d <;> first | rfl | (simp [isTup, tyD])
theorem str_dec {a b : Str} : decide (V.str a = V.str b) = decide (a = b) := by
  by_cases h : a = b
  · rw [h, decide_eq_true rfl, decide_eq_true rfl]
  · rw [decide_eq_false h, decide_eq_false fun z => h (V.str.inj z)]
theorem int_dec {a b : Int} : decide (V.int a = V.int b) = decide (a = b) := by
  by_cases h : a = b
  · rw [h, decide_eq_true rfl, decide_eq_true rfl]
  · rw [decide_eq_false h, decide_eq_false fun z => h (V.int.inj z)]
mutual
/-- what stands stays: data without dicts is told as ahead -/
theorem Dp.small {K : PySem.W.Frag} {H H' : Hp} (t : Same H H') : ∀ (d : PyData) {v : V}, Dp K H v d → smallD d = true → Dp K H' v d
  | .none, _, h, _ => by cases h; exact .non
  | .bool b, _, h, _ => by cases h; exact .bl b
  | .int i, _, h, _ => by cases h; exact .int i
  | .str x, _, h, _ => by cases h; exact .str x
  | .list l, _, h, o => by
    cases h with
    | lst hs ha => exact .lst (t.seq hs) (DpAll.small t l ha o)
  | .tuple l, _, h, o => by
    cases h with
    | tup hs ha => exact .tup ((Tk.same t).seqT hs) (DpAll.small t l ha o)
  | .dict l, _, h, _ => by cases h
theorem DpAll.small {K : PySem.W.Frag} {H H' : Hp} (t : Same H H') : ∀ (ds : List PyData) {vs : List V}, DpAll K H vs ds → smallL ds = true → DpAll K H' vs ds
  | [], _, h, _ => by cases h; exact .nil
  | d :: ds, _, h, o => by
    cases h with
    | cons h1 h2 =>
      have o' : (smallD d && smallL ds) = true := o
      obtain ⟨o1, o2⟩ := Bool.and_eq_true_iff.mp o'
      exact .cons (Dp.small t d h1 o1) (DpAll.small t ds h2 o2)
end
/-- a dict of names to numbers -/
def kvC (cs : List (Str × Int)) : List (Key × V) := cs.map fun p => ((.inr p.1 : Key), .int p.2)
theorem val_kvC (n : Str) : ∀ cs : List (Str × Int), valV (kvC cs) (.inr n : Key) = (cs.lookup n).map V.int
  | [] => rfl
  | (m, i) :: cs => by
    by_cases h : n = m
    · subst h
      rw [show kvC ((n, i) :: cs) = ((.inr n : Key), .int i) :: kvC cs from rfl]
      rw [valV_pos rfl]
      simp [List.lookup]
    · rw [show kvC ((m, i) :: cs) = ((.inr m : Key), .int i) :: kvC cs from rfl]
      rw [valV_neg (kne fun e => h e.symm), val_kvC n cs]
      have : (n == m) = false := beq_eq_false_iff_ne.mpr h
      simp [List.lookup, this]
def strD : PyData → Str
  | .str z => z
  | _ => ""
theorem may_make {cs : List (Str × Int)} {l : Bool} {b d1 d2 : PyData} : mayD cs l (.tuple [.str "make", b, d1, d2]) = (nameD d1 && (isTup d2 && decide (cs.lookup (strD d1) = some (lenT d2 : Int)))) := by
  unfold mayD
  simp only
  rw [if_neg (by decide +kernel), if_neg (by decide +kernel), if_pos trivial]
  cases d1 with
  | str n =>
    cases d2 with
    | tuple t => show _ = (nameOk n && (true && _)); rw [Bool.true_and]; rfl
    | _ => show false = (nameOk n && (false && _)); rw [Bool.false_and, Bool.and_false]
  | _ => cases d2 <;> rfl
theorem may_try {cs : List (Str × Int)} {l : Bool} {a c s f : PyData} : mayD cs l (.tuple [.str "try", a, c, s, f]) = (!noneD c || (emptyD s && !emptyD f)) := by
  unfold mayD
  simp only
  rw [if_neg (by decide +kernel), if_pos trivial]
theorem part_stm {d : PyData} (h : isPartD "statement" d = true) : ∃ z r ks, d = .tuple (.str z :: r) ∧ stmK.lookup z = some ks ∧ r.length = ks.length := by
  unfold isPartD at h
  rw [if_pos (.inl rfl)] at h
  cases e : kindsD "statement" d with
  | none => rw [e] at h; cases h
  | some ks =>
    rw [e] at h
    have h' := of_decide_eq_true h
    unfold kindsD at e
    split at e
    · rename_i z r
      rw [if_pos rfl] at e
      refine ⟨z, r, ks, rfl, e, ?_⟩
      have h2 : (PyData.str z :: r).length = ks.length + 1 := h'
      rw [List.length_cons] at h2
      omega
    · cases e
theorem len4 {l : List PyData} (h : l.length = 4) : ∃ a b c d, l = [a, b, c, d] := by
  cases l with
  | nil => cases h
  | cons a l =>
    cases l with
    | nil => cases h
    | cons b l =>
      cases l with
      | nil => cases h
      | cons c l =>
        cases l with
        | nil => cases h
        | cons d l =>
          cases l with
          | nil => exact ⟨a, b, c, d, rfl⟩
          | cons e l => rw [List.length_cons, List.length_cons, List.length_cons, List.length_cons, List.length_cons] at h; omega
theorem len3 {l : List PyData} (h : l.length = 3) : ∃ a b c, l = [a, b, c] := by
  cases l with
  | nil => cases h
  | cons a l =>
    cases l with
    | nil => cases h
    | cons b l =>
      cases l with
      | nil => cases h
      | cons c l =>
        cases l with
        | nil => exact ⟨a, b, c, rfl⟩
        | cons e l => rw [List.length_cons, List.length_cons, List.length_cons, List.length_cons] at h; omega
theorem dp4 {K : PySem.W.Frag} {H : Hp} {vs : List V} {a b c d : PyData} (h : DpAll K H vs [a, b, c, d]) : ∃ x y z w, vs = [x, y, z, w] ∧ Dp K H x a ∧ Dp K H y b ∧ Dp K H z c ∧ Dp K H w d := by
  cases h with | cons h1 h => cases h with | cons h2 h => cases h with | cons h3 h => cases h with | cons h4 h => cases h; exact ⟨_, _, _, _, rfl, h1, h2, h3, h4⟩
theorem dp3 {K : PySem.W.Frag} {H : Hp} {vs : List V} {a b c : PyData} (h : DpAll K H vs [a, b, c]) : ∃ x y z, vs = [x, y, z] ∧ Dp K H x a ∧ Dp K H y b ∧ Dp K H z c := by
  cases h with | cons h1 h => cases h with | cons h2 h => cases h with | cons h3 h => cases h; exact ⟨_, _, _, rfl, h1, h2, h3⟩
end LK
set_option Elab.async false
set_option linter.all false
set_option maxRecDepth 100000
set_option maxHeartbeats 2000000
/-! LExc: exceptions of the text's own classes as values: made, their fields read, isinstance of them. -/
namespace LK
open PySem PySem.Spec PyProof.Rows L2
/-- at a stands an exception of the class at C -/
def ExI (H : Hp) (a C : Addr) : Prop :=
  (∃ φ, H a = some (.ext φ) ∧ ∀ h : Heap, φ h → ∃ (oe : Obj) (vs : Array Value), h.get? a = some oe ∧ Zc (.ref C) none oe ∧ oe.data = .fields vs) ∨
  ∃ φ d fs, H a = some (.ext φ) ∧ (H d = some (exd d fs) ∨ H d = some (.xd fs)) ∧ ∀ h : Heap, φ h → ∃ (oe : Obj) (vs : Array Value), h.get? a = some oe ∧ Zc (.ref C) (some d) oe ∧ oe.data = .fields vs
theorem ExI.same {H H' : Hp} {a C : Addr} (h : ExI H a C) (s : Same H H') : ExI H' a C := by
  rcases h with ⟨φ, e, f⟩ | ⟨φ, d, fs, e, ed, f⟩
  · exact .inl ⟨φ, s _ _ e, f⟩
  · exact .inr ⟨φ, d, fs, s _ _ e, ed.imp (s _ _) (s _ _), f⟩
theorem ExI.of_ExO {H : Hp} {a C : Addr} (e : H a = some (ExO (.ref C) a)) : ExI H a C :=
  .inl ⟨_, e, fun h ⟨oe, vs, q, z, d, _⟩ => ⟨oe, vs, q, z, d⟩⟩
theorem ExI.of_exo {H : Hp} {a C d : Addr} {fs : List (Str × V)} (e : H a = some (exo a C (some d))) (ed : H d = some (exd d fs)) : ExI H a C :=
  .inr ⟨_, d, fs, e, .inl ed, fun h ⟨t, q⟩ => ⟨_, _, q, ⟨rfl, rfl⟩, rfl⟩⟩
/-- what the written part says of such a class -/
structure ExK (K : PySem.W.Frag) (C : Addr) : Prop where
  cl : (PySem.W.clsIn K C).isSome = true
  ga : PySem.W.findIn K (.ref C) "__getattribute__" = some (some (.builtin "BaseException.__getattribute__"))
  gg : PySem.W.findIn K (.ref C) "__getattr__" = some none
  sb : PySem.W.subIn K (.ref C) (.type "BaseException") = some true
  ca : PySem.W.findIn K (.ref C) "__class__" = some (some (.builtin "object.__class__"))
  cg : PySem.W.specialIn K (.builtin "object.__class__") "__get__" = some (some (.builtin "getset_descriptor.__get__"))
  ct : PySem.W.takesIn K (.builtin "object.__class__") = some true
  cm : PySem.W.mroIn K C (.type "object") = some true
section
variable {X : Cx} {pins : List (Addr × Obj)} {σ : L2.St} {H : Hp} {s : Shared}
theorem inst_none {h : Heap} {a C : Addr} {oe : Obj} {vs : Array Value} (q : h.get? a = some oe) (z : Zc (.ref C) none oe) (d : oe.data = .fields vs) : PySem.W.InstAt h a oe C none := by
  obtain ⟨oc, od, oda, osl⟩ := oe
  obtain ⟨h1, h2⟩ := z
  dsimp only at h1 h2 d
  subst h1 h2 d
  exact ⟨q, rfl, rfl, trivial⟩
theorem inst_some {h : Heap} {a C dx : Addr} {oe o : Obj} {vs : Array Value} (q : h.get? a = some oe) (z : Zc (.ref C) (some dx) oe) (d : oe.data = .fields vs) (e : h.get? dx = some o) : PySem.W.InstAt h a oe C (some o) := by
  obtain ⟨oc, od, oda, osl⟩ := oe
  obtain ⟨h1, h2⟩ := z
  dsimp only at h1 h2 d
  subst h1 h2 d
  exact ⟨q, rfl, rfl, e⟩
theorem ExI.inst {a C : Addr} (I : Inv X pins σ H s) (e : ExI H a C) : ∃ ox od, PySem.W.InstAt s.heap a ox C od := by
  rcases e with ⟨φ, e, f⟩ | ⟨φ, d, fs, e, ed, f⟩
  · have x : ObjOk X.prog X.w H s.heap a (.ext φ) := I.hok a _ e
    obtain ⟨oe, vs, q, z, dd⟩ := f _ x.1
    exact ⟨oe, none, inst_none q z dd⟩
  · have x : ObjOk X.prog X.w H s.heap a (.ext φ) := I.hok a _ e
    obtain ⟨oe, vs, q, z, dd⟩ := f _ x.1
    have hd : ∃ o, s.heap.get? d = some o := by
      rcases ed with ed | ed
      · obtain ⟨_, ⟨o, _, _, e1, _⟩, _⟩ := exd_at I.hok ed
        exact ⟨o, e1⟩
      · have y : ObjOk X.prog X.w H s.heap d (.xd fs) := I.hok d _ ed
        obtain ⟨_, ⟨o, _, _, e1, _⟩, _⟩ := y
        exact ⟨o, e1⟩
    obtain ⟨o, e1⟩ := hd
    exact ⟨oe, some o, inst_some q z dd e1⟩
/-- isinstance(e, c) of such a one -/
def rIsEx (K : PySem.W.Frag) : List V → Hp → VK → Prop := fun xs H Q => ∃ (a C : Addr) (c : V) (u : Value) (b : Bool), xs = [.ref a, c] ∧ ClsV c u ∧ ExI H a C ∧ ExK K C ∧ PySem.W.kitOne K (.ref C) u = some b ∧ Q (.bl b) H
theorem call_isEx : CallR X (.builtin "isinstance") (rIsEx X.K) := by
  intro pins s σ H xs us Q I r h
  obtain ⟨a, C, c, u, b, rfl, k, e, T, hk, q⟩ := h
  obtain ⟨u1, u2, rfl, r1, r2⟩ := vals2 r
  have e2 := k.eq r2
  subst e2
  cases r1
  obtain ⟨ox, od, J⟩ := e.inst I
  exact PySem.W.kia_one (PySem.W.kitx_exc T.cl T.ga T.gg T.sb T.ca T.cg T.ct T.cm) I.kIn J hk (fun z => nomatch z) fun tk => ⟨.bl b, H, I.tok tk, rfl, q⟩
/-! ### its field -/
def tXo (K : PySem.W.Frag) (f : Str) (te : TE) : TE := fun σ H Q => te σ H fun x H1 => ∃ (a C d : Addr) (fs : List (Str × V)) (v : V), x = .ref a ∧ XfC K C ∧ PySem.W.findIn K (.ref C) f = some none ∧
  H1 a = some (exo a C (some d)) ∧ H1 d = some (exd d fs) ∧ fs.lookup f = some v ∧ Q v H1
theorem pe_xo {e : Expr} {te : TE} {pos : Pos} {n : Str} (he : PE X e te) (hb : attributeBase e n X.env (eval e X.env) = eval e X.env := by rfl) : PE X (.Attribute e n pos) (tXo X.K n te) := by
  refine ⟨fun pins s σ H Q I h => ?_⟩
  refine attr_of hb (thn (he.run pins s σ H _ I h) fun u s1 hh => ?_)
  obtain ⟨x, H1, I1, rx, a, C, d, fs, v, ex, T, hno, ea, ed, l, q⟩ := hh
  subst ex
  obtain rfl : u = Value.ref a := rx
  obtain ⟨t1, ho⟩ := exo_at I1.hok ea
  obtain ⟨mA, hns, hr⟩ := exd_at I1.hok ed
  obtain ⟨od, hod, hl⟩ := lookIn_ns hns
  obtain ⟨u, hu, ru⟩ := RelO.some_of (v := v) (o := mA n) (by rw [← l]; exact hr n)
  have J : PySem.W.InstAt s1.heap a { cls := .ref C, dict := some d, data := .fields #[.ref t1, .none, .none, .none, .bool false, .none] } C (some od) := ⟨ho, rfl, rfl, hod⟩
  exact HandSPX.exc_get I1.kIn J T.ga T.gg T.exC (PySem.W.findObj_own T.hdC hno rfl (by rw [hl, hu])) (handed_of ru) ⟨v, H1, I1.tok _, ru, q⟩
/-! ### C(e, ..), C with an own __init__ -/
def tMkE (C : Addr) (sp : Sp) (ta : TA) : TE := fun σ H Q => ta σ H fun vs H1 => vs.length ≤ 1000 ∧ ∀ a, H1 a = none → sp (.ref a :: vs) (upd H1 a (exo a C none)) (fun v H2 => v = .non ∧ Q (.ref a) H2) E0
theorem pe_mkE {k : Nat} {fI C : Addr} {fd : FuncData} {ps : List Str} {sp : Sp} {x : Str} {p pos : Pos} {e : Expr} {es : List Expr} {ta : TA} (T : OexC X.K C) (iC : PySem.W.findIn X.K (.ref C) "__init__" = some (some (.ref fI))) (tI : PySem.W.typeIn X.K (.ref fI) = some (.type "function"))
    (F1 : FnOk X.prog X.w X.K X.mg X.base CX0 k fI fd ps sp) (hr : Room (k + 1) X.A) (hb : L2.Binds X.K fd ps []) (hg : Gl X x) (hm : X.mg x = some (.ref C)) (ha : PA X (e :: es) ta)
    (hdb : (x == ("__debug__" : Str)) = false := by decide) (he : starEach (e :: es) X.env = (false, eval e X.env) :: starEach es X.env := by rfl) (hpl : (backTo pos (starEach es X.env)).any (·.1) = false := by rfl) :
    PE X (.Call (.Name x p) (e :: es) [] pos) (tMkE C sp ta) := by
  refine ⟨fun pins s σ H Q I h => ?_⟩
  obtain ⟨nm, q, N, bs, bm, sn, sub, ab, col, dd, k0, k1, k2, k3, k5, hC, hbm⟩ := T.cls
  refine wpAny_Call_Name_kw (ld_glob I hg hm ?_ hdb)
  refine PySem.W.callWith_K (h₀ := X.base) I.ok.mod.kin T.kC (thn (ha.run pos pins s σ H _ I h) fun us s1 ⟨vs, H1, I1, r1, hz, q1⟩ => ⟨I1.kIn, ?_⟩) he hpl
  show wpAny _ _ (call (.ref C) us) _ _ _
  obtain ⟨hp, g, dr, tk, os⟩ := s1
  have hsz : hp.objs.size ≤ hp.objs.size + 1 := Nat.le_succ _
  have hn : H1 (hp.objs.size + 1) = none := I1.hok.fresh hsz
  have hq := q1 (hp.objs.size + 1) hn
  have kk : ∀ b o, hp.get? b = some o → ((hp.push (PySem.W.kdv_tup us)).push (PySem.HandSPX.excO C hp.objs.size)).get? b = some o := fun b o e => Heap.get?_push_of_some _ (Heap.get?_push_of_some _ e)
  have hget : ((hp.push (PySem.W.kdv_tup us)).push (PySem.HandSPX.excO C hp.objs.size)).get? (hp.objs.size + 1) = some (PySem.HandSPX.excO C hp.objs.size) := by heap_get
  have I2 : Inv X pins σ (upd H1 (hp.objs.size + 1) (exo (hp.objs.size + 1) C none)) ⟨(hp.push (PySem.W.kdv_tup us)).push (PySem.HandSPX.excO C hp.objs.size), g, dr, tk, os⟩ :=
    I1.laid (t' := tk) (a := hp.objs.size + 1) (o := exo (hp.objs.size + 1) C none) (h' := (hp.push (PySem.W.kdv_tup us)).push (PySem.HandSPX.excO C hp.objs.size)) kk hsz (exo_ok hget)
  have r2 : Vals (V.ref (hp.objs.size + 1) :: vs) (Value.ref (hp.objs.size + 1) :: us) := .cons rfl r1
  have hl : (Value.ref (hp.objs.size + 1) :: us).length = ps.length := by
    have e := r2.length
    rw [F1.len _ _ _ _ hq] at e
    exact e.symm
  have hus : us.length ≤ sizeLine := by
    rw [← Paired.length r1, sizeLine_eq]
    omega
  have hb' := hb ⟨(hp.push (PySem.W.kdv_tup us)).push (PySem.HandSPX.excO C hp.objs.size), g, dr, tk, os⟩ (Value.ref (hp.objs.size + 1) :: us) I2.kIn (by rw [List.append_nil]; exact hl)
  rw [List.append_nil] at hb'
  refine wpAny_call (PySem.HandSPX.call_own F.excBase_ValueError (fun Y => PySem.HandSPX.refsVE_contains Y bm hbm) (I1.kIn _ _ hC) (PySem.W.looks_findIn I1.kIn iC) (fun self => PySem.W.bind_fn I1.kIn self tI) hus
    (codeAny_mono (F1.run _ X.stack _ _ ⟨Value.ref (hp.objs.size + 1) :: us, []⟩ (Value.ref (hp.objs.size + 1) :: us) _ _ E0 (hr.make C us []) (I2.env0.make C us []) hb' r2 hq) fun r s' hq' => ?_))
  cases r with
  | error er => exact False.elim hq'
  | ok fl =>
    cases fl with
    | ret u =>
      obtain ⟨v, H2, I3, rv, ev, q2⟩ := I2.after hq'
      subst ev
      exact ⟨rv, ⟨.ref (hp.objs.size + 1), H2, I3, rfl, q2⟩⟩
    | next => exact False.elim hq'
    | brk => exact False.elim hq'
    | cont => exact False.elim hq'
/-! ### Base.__init__(self, ..), Base an own class over ValueError -/
theorem pe_seinit {pl : Sem Bool} {x : Str} {S : Addr} {mc : Value} {e : Expr} {es : List Expr} {ta : TA} {p1 p2 pos : Pos} (R : ClX.CRead X.K S mc) (hg : Gl X x) (hm : X.mg x = some (.ref S)) (vV : PySem.W.findCls X.K (.ref S) mc "__init__" = some (.val (.builtin "ValueError.__init__"))) (ha : PA X (e :: es) ta)
    (hdb : (x == ("__debug__" : Str)) = false := by decide)
    (hc : eval (.Call (.Attribute (.Name x p1) "__init__" p2) (e :: es) [] pos) X.env = (do
      let ov ← eval (.Name x p1) X.env
      standAt p2.atName
      let (f, first) ← holding [ov] (getMethod ov "__init__" pl)
      callWith pos f first (backTo pos (starEach (e :: es) X.env)) (backToKw pos (keywordEach [] X.env))) := by rfl)
    (he : starEach (e :: es) X.env = (false, eval e X.env) :: starEach es X.env := by rfl) (hpl : (backTo pos (starEach es X.env)).any (·.1) = false := by rfl) :
    PE X (.Call (.Attribute (.Name x p1) "__init__" p2) (e :: es) [] pos) (tVeI X.K ta) := by
  refine ⟨fun pins s σ H Q I h => ?_⟩
  refine PySem.W.methodCall_KW (ld_glob I hg hm ?_ hdb) hc
  refine PySem.W.method_cls I.kIn R.ga (PySem.W.cls_value I.kIn R.rd vV (by decide +kernel) ?_)
  show wpAny _ _ (callWith pos (Value.builtin "ValueError.__init__") [] (backTo pos (starEach (e :: es) X.env)) []) _ _ _
  refine PyProof.Rows.callWith_method1 (thn (ha.run pos pins _ σ H _ (I.tok _) h) fun us s1 ⟨vs, H1, I1, r1, a, C, ws, ev, hl, T, ea, q⟩ => ?_) he hpl
  subst ev
  cases r1 with
  | @cons _ u0 _ ur ra rw' =>
    obtain rfl : u0 = Value.ref a := ra
    have hlen : ur.length ≤ sizeLine := by
      rw [← Paired.length rw', sizeLine_eq]
      omega
    exact oinit_ok T I1 ea hlen fun s' J => ⟨.non, H1, J, rfl, q⟩
end
end LK
set_option Elab.async false
set_option linter.all false
set_option maxRecDepth 100000
set_option maxHeartbeats 2000000
namespace PySem
namespace HandSPX
open PySem.W PySem.Calls PyProof.Rows
/-! ### type.__call__ on such a class: BaseException.__new__, then the own __init__ -/
section
variable {Md : Model} {Ar : Around} {Er : Value → Shared → Prop} {hp0 : Heap} {gs0 : Array GenState} {dr0 : Drawn} {tk0 : Nat} {os0 : OsState}
variable {nmC qnC : Str} {Cl Nn : Addr} {bsC mroC mroB : List Value} {hasD : Bool} {slC : List Str} {subC : List Value} {absC : Bool} {colC : Option Bool} {dicC : Option Addr} {w0 w1 w2 w3 w5 : Option Value} {Bs idN idI : String}

theorem check_new_ownK (Fb : ExcBaseFacts Bs idN idI mroB) (sameT : ∀ X : String, mroC.contains (.type X) = mroB.contains (.type X)) {args : List Value} {kw : List (Str × Value)} {Wq : Unit → Shared → Prop}
    (atC : hp0.get? Cl = some (excClassObj nmC qnC Cl Nn bsC mroC hasD slC subC absC colC dicC w0 w1 w2 w3 w5 idN)) (goOn : Wq () ⟨hp0, gs0, dr0, tk0, os0⟩) : wpAny Md Ar (checkBuiltinCall idN ⟨.ref Cl :: args, kw⟩) Wq Er ⟨hp0, gs0, dr0, tk0, os0⟩ := by
  have inB : (Value.ref Cl :: mroC).contains (.type Bs) = true := by rw [List.contains_cons, sameT, Fb.hasB, Bool.or_true]
  have starB := Fb.noStar
  simp only [checkBuiltinCall, Fb.newKind, Fb.newSplit, Fb.newRow]
  repeat (first | refine wpAny_loadPart_at atC ?_ | (refine wpAny_isSubtype_exc atC ?_; rw [inB]) | refine wpAny_staticBase_exc atC ?_ | refine wpAny_madeBy_exc atC ?_ | simp only [bne_self_eq_false, Bool.false_eq_true, if_false] | wp_step)
  exact goOn
end

section
variable {prg : Program} {wd : World} {Ar : Around} {Er : Value → Shared → Prop} {Rs : Result → Shared → Prop} {hp0 : Heap} {gs0 : Array GenState} {dr0 : Drawn} {tk0 : Nat} {os0 : OsState}
variable {nmC qnC : Str} {Cl Nn : Addr} {bsC mroC mroB : List Value} {hasD : Bool} {slC : List Str} {subC : List Value} {absC : Bool} {colC : Option Bool} {dicC : Option Addr} {w0 w1 w2 w3 w5 : Option Value} {Bs idN idI : String}

theorem new_ownK (Fb : ExcBaseFacts Bs idN idI mroB) (sameT : ∀ X : String, mroC.contains (.type X) = mroB.contains (.type X)) {args : List Value} {kw : List (Str × Value)}
    (atC : hp0.get? Cl = some (excClassObj nmC qnC Cl Nn bsC mroC hasD slC subC absC colC dicC w0 w1 w2 w3 w5 idN))
    (goOn : Rs (.ok (.ret (.ref (hp0.objs.size + 1)))) ⟨(hp0.push { cls := .type "tuple", data := .seq args.toArray }).push
      { cls := .ref Cl, data := .fields #[.ref hp0.objs.size, .none, .none, .none, .bool false, .none] }, gs0, dr0, tk0, os0⟩) (fewR : args.length ≤ sizeLine) :
    codeAny (model prg wd) Ar (.builtin idN ⟨.ref Cl :: args, kw⟩) Rs ⟨hp0, gs0, dr0, tk0, os0⟩ := by
  have endsB := Fb.ends
  have isB : (Value.ref Cl :: mroC).contains (.type Bs) = true := by rw [List.contains_cons, sameT, Fb.hasB, Bool.or_true]
  have noA : (Value.ref Cl :: mroC).contains (.type "AttributeError") = false := by rw [List.contains_cons, sameT, Fb.noAttr]; rfl
  have noN : (Value.ref Cl :: mroC).contains (.type "NameError") = false := by rw [List.contains_cons, sameT, Fb.noName]; rfl
  refine codeAny_builtinAt Fb.entry ?_
  unfold Builtin.«BaseException.__new__»
  refine wpAt_bind ?_
  show wpAt _ _ _ (stack >>= _) _ _ _
  refine wpAt_bind (wpAt_stack fun p below => wpAt_of_wpAny ?_)
  wp_walk
  refine wpAt_of_wpAny ?_
  rw [Fb.owner]
  repeat (first | with_reducible refine wpAny_madeHere_exc Fb.canon atC ?_ | with_reducible refine wpAny_loadPart_at atC ?_ | (with_reducible refine wpAny_isSubtype_exc atC ?_; first | rw [isB] | rw [noA] | rw [noN]) | wp_step)
  show Rs _ _
  rw [Heap.size_push]
  exact goOn

theorem type_call_ownK (Fb : ExcBaseFacts Bs idN idI mroB) (sameT : ∀ X : String, mroC.contains (.type X) = mroB.contains (.type X)) {args : List Value} {kw : List (Str × Value)} {fIn : Addr} {Wq : Fin → Shared → Prop}
    (atC : hp0.get? Cl = some (excClassObj nmC qnC Cl Nn bsC mroC hasD slC subC absC colC dicC w0 w1 w2 w3 w5 idN))
    (iniC : W.Looks (model prg wd) hp0 (typeLookup (.ref Cl) "__init__") (some (.ref fIn))) (bindC : ∀ self, W.Looks (model prg wd) hp0 (bindSpecial (.ref fIn) self) (.ref fIn, [self])) (fewR : args.length ≤ sizeLine)
    (goOn : codeAny (model prg wd) Ar (.call (.ref fIn) ⟨.ref (hp0.objs.size + 1) :: args, kw⟩)
      (fun rr st' => match rr with | .ok (.ret vv) => vv = .none ∧ Wq (.done (.ret (.ref (hp0.objs.size + 1)))) st' | .ok _ => False | .error er => Er er st')
      ⟨(hp0.push (W.kdv_tup args)).push (excO Cl hp0.objs.size), gs0, dr0, tk0, os0⟩) :
    wpAny (model prg wd) Ar (Builtin.«type.__call__» ⟨.ref Cl :: args, kw⟩) Wq Er ⟨hp0, gs0, dr0, tk0, os0⟩ := by
  repeat (first | with_reducible refine wpAny_loadPart_at atC ?_ | with_reducible refine wpAny_madeBy_exc atC ?_ | wp_step)
  refine codeAny_call_builtin_code (Code.quiet_builtin _ Fb.quiet) (check_new_ownK Fb sameT atC ?_)
  refine new_ownK Fb sameT atC ?_ fewR
  show wpAny _ _ _ _ _ _
  have kp0 : ∀ b o, hp0.get? b = some o → ((hp0.push (W.kdv_tup args)).push (excO Cl hp0.objs.size)).get? b = some o := fun b o er => Heap.get?_push_of_some _ (Heap.get?_push_of_some _ er)
  have atC2 := kp0 _ _ atC
  have atE : ((hp0.push (W.kdv_tup args)).push (excO Cl hp0.objs.size)).get? (hp0.objs.size + 1) = some (excO Cl hp0.objs.size) := by heap_get
  have isC : (Value.ref Cl :: mroC).contains (.ref Cl) = true := by simp
  have iniK := iniC.keeps kp0
  have bindK := (bindC (.ref (hp0.objs.size + 1))).keeps kp0
  unfold isInstance
  repeat (first | with_reducible refine wpAny_loadPart_at atE ?_ | (with_reducible refine wpAny_isSubtype_exc atC2 ?_; rw [isC]) | wp_step)
  show wpAny _ _ (typeLookup (.ref Cl) _) _ _ _
  refine iniK.at ?_
  refine wpAny_holding (wpAny_bind (bindK.at ?_))
  refine wpAny_bind (wpAny_call (codeAny_mono goOn fun rr st' zz => ?_))
  rcases rr with er | (vv | _ | _ | _) <;> first | exact zz | exact zz.elim | skip
  obtain ⟨rfl, zz⟩ := zz
  first
    | exact wpAny_pure (wpAny_pure zz)
    | (wp_walk; exact zz)

theorem call_ownK (Fb : ExcBaseFacts Bs idN idI mroB) (sameT : ∀ X : String, mroC.contains (.type X) = mroB.contains (.type X)) {args : List Value} {kw : List (Str × Value)} {fIn : Addr}
    (atC : hp0.get? Cl = some (excClassObj nmC qnC Cl Nn bsC mroC hasD slC subC absC colC dicC w0 w1 w2 w3 w5 idN))
    (iniC : W.Looks (model prg wd) hp0 (typeLookup (.ref Cl) "__init__") (some (.ref fIn))) (bindC : ∀ self, W.Looks (model prg wd) hp0 (bindSpecial (.ref fIn) self) (.ref fIn, [self])) (fewR : args.length ≤ sizeLine)
    (goOn : codeAny (model prg wd) (Ar.under (.builtin "type.__call__" ⟨.ref Cl :: args, kw⟩)) (.call (.ref fIn) ⟨.ref (hp0.objs.size + 1) :: args, kw⟩) (W.InitBack (hp0.objs.size + 1) Rs)
      ⟨(hp0.push (W.kdv_tup args)).push (excO Cl hp0.objs.size), gs0, dr0, tk0, os0⟩) :
    codeAny (model prg wd) Ar (.call (.ref Cl) ⟨args, kw⟩) Rs ⟨hp0, gs0, dr0, tk0, os0⟩ := by
  have lookT := tc_lookup
  have bindT := tc_bind (.ref Cl)
  have typC : (⟨hp0, gs0, dr0, tk0, os0⟩ : Shared).TypeIs (.ref Cl) "type" := ⟨_, atC, rfl⟩
  refine codeAny_of_tree ?_
  show wpAny _ _ (callAny (.ref Cl) _) _ _ _
  repeat (any_goals (first | assumption | with_reducible refine wpAny_loadPart_at atC ?_ | wp_step))
  refine ⟨rfl, ?_⟩
  refine codeAny_call_builtin_at (Code.quiet_builtin _ (by decide +kernel)) entry_typeCall (wpAny_check_type_call_sub atC (type_call_ownK Fb sameT atC iniC bindC fewR ?_))
  refine codeAny_mono goOn fun rr st' zz => ?_
  rcases rr with er | (vv | _ | _ | _) <;> exact zz

end
end HandSPX
end PySem
set_option Elab.async false
set_option linter.all false
set_option maxRecDepth 100000
set_option maxHeartbeats 2000000
/-! LExT: C(k = v) of an own exception class; except .. as e, where e outlives the suite. -/
namespace LK
open PySem PySem.Spec PyProof.Rows L2
section
variable {X : Cx}
def tMkEK (C : Addr) (sp : Sp) (m : Nat) (gV : List V → List V → List V) (tk : TA) : TE := fun σ H Q => tk σ H fun zs H1 => zs.length = m ∧ ∀ a, H1 a = none → sp (gV [.ref a] zs) (upd H1 a (exo a C none)) (fun v H2 => v = .non ∧ Q (.ref a) H2) E0
/-- C(k = v, ..) of an exception class with an own __init__ -/
theorem pe_mkEK {k : Nat} {fI C : Addr} {fd : FuncData} {ps ks : List Str} {sp : Sp} {x : Str} {p pos : Pos} {kws : List Keyword} {tk : TA} {g : List Value → List Value → List Value} {gV : List V → List V → List V} (T : OexC X.K C) (iC : PySem.W.findIn X.K (.ref C) "__init__" = some (some (.ref fI))) (tI : PySem.W.typeIn X.K (.ref fI) = some (.type "function"))
    (F1 : FnOk X.prog X.w X.K X.mg X.base CX0 k fI fd ps sp) (hr : Room (k + 1) X.A) (hb : KBn X.K fd ps 1 ks g gV) (hg : Gl X x) (hm : X.mg x = some (.ref C)) (hkw : PK X kws tk)
    (hall : (backToKw pos (keywordEach kws X.env)).all (·.1.isSome) = true := by rfl) (hks : (backToKw pos (keywordEach kws X.env)).filterMap (·.1) = ks := by rfl) (hdb : (x == ("__debug__" : Str)) = false := by decide)
    (hpl : ((backTo pos (starEach [] X.env)).any (·.1) || (backToKw pos (keywordEach kws X.env)).any (·.1.isNone)) = false := by rfl) :
    PE X (.Call (.Name x p) [] kws pos) (tMkEK C sp ks.length gV tk) := by
  refine ⟨fun pins s σ H Q I h => ?_⟩
  obtain ⟨nm, q, N, bs, bm, sn, sub, ab, col, dd, k0, k1, k2, k3, k5, hC, hbm⟩ := T.cls
  refine wpAny_Call_Name_kw (ld_glob I hg hm ?_ hdb)
  refine PySem.W.callWith_KW0 (h₀ := X.base) I.ok.mod.kin T.kC hall ?_ hpl
  refine thn (hkw.run pos pins s σ H _ I h) fun ws s1 ⟨zs, H1, I1, rz, lz, q1⟩ => ⟨I1.kIn, ?_⟩
  rw [hks]
  obtain ⟨hp, gs, dr, tk, os⟩ := s1
  have hsz : hp.objs.size ≤ hp.objs.size + 1 := Nat.le_succ _
  have hn : H1 (hp.objs.size + 1) = none := I1.hok.fresh hsz
  have hq := q1 (hp.objs.size + 1) hn
  have kk : ∀ b o, hp.get? b = some o → ((hp.push (PySem.W.kdv_tup [])).push (PySem.HandSPX.excO C hp.objs.size)).get? b = some o := fun b o e => Heap.get?_push_of_some _ (Heap.get?_push_of_some _ e)
  have hget : ((hp.push (PySem.W.kdv_tup [])).push (PySem.HandSPX.excO C hp.objs.size)).get? (hp.objs.size + 1) = some (PySem.HandSPX.excO C hp.objs.size) := by heap_get
  have I2 : Inv X pins σ (upd H1 (hp.objs.size + 1) (exo (hp.objs.size + 1) C none)) ⟨(hp.push (PySem.W.kdv_tup [])).push (PySem.HandSPX.excO C hp.objs.size), gs, dr, tk, os⟩ :=
    I1.laid (t' := tk) (a := hp.objs.size + 1) (o := exo (hp.objs.size + 1) C none) (h' := (hp.push (PySem.W.kdv_tup [])).push (PySem.HandSPX.excO C hp.objs.size)) kk hsz (exo_ok hget)
  have r2 := hb.rel (.cons (show RelV (V.ref (hp.objs.size + 1)) (Value.ref (hp.objs.size + 1)) from rfl) .nil) rz
  refine wpAny_call (PySem.HandSPX.call_ownK F.excBase_ValueError (fun Y => PySem.HandSPX.refsVE_contains Y bm hbm) (I1.kIn _ _ hC) (PySem.W.looks_findIn I1.kIn iC) (fun self => PySem.W.bind_fn I1.kIn self tI) (Nat.zero_le _)
    (codeAny_mono (F1.run _ X.stack _ _ ⟨[Value.ref (hp.objs.size + 1)], ks.zip ws⟩ (g [Value.ref (hp.objs.size + 1)] ws) _ _ E0 (hr.make C [] (ks.zip ws)) (I2.env0.make C [] (ks.zip ws)) (hb.to _ [Value.ref (hp.objs.size + 1)] ws I2.kIn rfl (rz.length.symm.trans lz)) r2 hq) fun r s' hq' => ?_))
  cases r with
  | error er => exact False.elim hq'
  | ok fl =>
    cases fl with
    | ret u =>
      obtain ⟨v, H2, I3, rv, ev, q2⟩ := I2.after hq'
      subst ev
      exact ⟨rv, ⟨.ref (hp.objs.size + 1), H2, I3, rfl, q2⟩⟩
    | next => exact False.elim hq'
    | brk => exact False.elim hq'
    | cont => exact False.elim hq'
end
/-! ### except .. as e: e outlives the suite -/
/-- an exception of the class cls, raised, its dict d -/
def exh (a : Addr) (cls : Value) (d : Option Addr) : HO := .ext fun h => ∃ (oe : Obj) (vs : Array Value), h.get? a = some oe ∧ Zc cls d oe ∧ oe.data = .fields vs
theorem exh_ok {P : Program} {w : World} {H : Hp} {h : Heap} {a : Addr} {cls : Value} {d : Option Addr} {oe : Obj} {vs : Array Value} (e : h.get? a = some oe) (z : Zc cls d oe) (q : oe.data = .fields vs) : ObjOk P w H h a (exh a cls d) :=
  ⟨⟨oe, vs, e, z, q⟩, ⟨oe, e⟩, fun _ _ ⟨o, v, q1, r⟩ k => ⟨o, v, k o q1, r⟩⟩
theorem ExI.of_exh {H : Hp} {a C : Addr} (e : H a = some (exh a (.ref C) none)) : ExI H a C := .inl ⟨_, e, fun _ q => q⟩
theorem ExI.of_exhd {H : Hp} {a C d : Addr} {fs : List (Str × V)} (e : H a = some (exh a (.ref C) (some d))) (ed : H d = some (.xd fs)) : ExI H a C := .inr ⟨_, d, fs, e, .inr ed, fun _ q => q⟩
section
variable {X : Cx} {pins : List (Addr × Obj)} {σ : L2.St} {H : Hp} {s : Shared}
/-- an object that came in after the state sI is tracked -/
theorem inv_track {sI : Shared} {a : Addr} {o : HO} {oe : Obj} {vs : Array Value} (J : Inv X pins σ H sI) (I : Inv X pins σ H s) (nI : sI.heap.get? a = none) (na : H a = none) (ea : s.heap.get? a = some oe) (da : oe.data = .fields vs) (nL : a ≠ X.env.locals) (new : ObjOk X.prog X.w (upd H a o) s.heap a o) :
    Inv X pins σ (upd H a o) s := by
  have ne : ∀ {b : Addr} {u : Obj}, sI.heap.get? b = some u → b ≠ a := fun {b u} e z => by rw [z, nI] at e; cases e
  have nt : ∀ {b : Addr} {u : HO}, H b = some u → b ≠ a := fun {b u} e z => by rw [z, na] at e; cases e
  refine ⟨I.ok, I.os, I.bare, ⟨I.base.keep, I.base.slot, fun b u e n hx => ?_, I.base.there, fun b xs e => ?_, fun b u v e => ?_, fun b ps e => ?_⟩, I.loc, I.cell, ?_, fun x c e => ?_, fun p hp => ?_, fun b u e => ?_, I.len⟩
  · obtain ⟨o', q⟩ := J.base.there b u e hx
    rw [upd_ne (ne q)]
    exact I.base.free b u e n hx
  · have q := I.base.tups b xs e
    rw [upd_ne (nt q)]; exact q
  · have q := I.base.frzs b u v e
    rw [upd_ne (nt q)]; exact q
  · obtain ⟨m, q⟩ := I.base.tbls b ps e
    exact ⟨m, by rw [upd_ne (nt q)]; exact q⟩
  · rw [upd_ne (Ne.symm nL)]; exact I.free
  · have hc : c ≠ a := fun z => by
      obtain ⟨v, o', ho, hd⟩ := I.cell x c e
      rw [z, ea] at ho
      cases ho
      rw [da] at hd
      cases hd
    rw [upd_ne hc]; exact I.freeC x c e
  · obtain ⟨e1, n1, n2, n3, n4⟩ := I.pin p hp
    obtain ⟨e2, _⟩ := J.pin p hp
    exact ⟨e1, by rw [upd_ne (ne e2)]; exact n1, n2, n3, n4⟩
  · by_cases hb : b = a
    · rw [hb, upd_same] at e
      cases e
      rw [hb]
      exact new
    · rw [upd_ne hb] at e
      exact (I.hok b u e).stay (fun c v _ q => q) (fun c q => by rw [upd_ne (nt q)]; exact q) fun c xs q => by rw [upd_ne (nt q)]; exact q
theorem inv_hot (I : Inv X pins σ H s) (a : Addr) : Inv (X.suite a (X.pn ++ pins)) [] σ H s :=
  ⟨I.ok.suite _ _, I.os, I.bare, I.base, I.loc, I.cell, I.free, I.freeC, fun p hp => I.pin p (by rw [List.append_nil] at hp; exact hp), I.hok, I.len⟩
theorem inv_cold {a : Addr} {pn' : List (Addr × Obj)} (I : Inv (X.suite a (X.pn ++ pins)) pn' σ H s) (ok : X.Ok) : Inv X pins σ H s :=
  ⟨ok, I.os, I.bare, I.base, I.loc, I.cell, I.free, I.freeC, fun p hp => I.pin p (List.mem_append_left _ hp), I.hok, I.len⟩
end
/-- what such a clause wishes -/
def wAsT (K : PySem.W.Frag) (c : Value) (i : Nat) (ts : Addr → Value → Option Addr → TS) (D : Ends) : WX := fun cls d σ H => PySem.W.exmOne K cls c = some true ∧ ∀ a, H a = none →
  ts a cls d { nx := fun σ' H' => D.nx (σ'.set i none) H', rt := D.rt, bk := fun σ' H' => D.bk (σ'.set i none) H', ct := fun σ' H' => D.ct (σ'.set i none) H' } (σ.set i (some (.ref a))) (upd H a (exh a cls d))
section
variable {X : Cx} {x n : Str} {c : Value} {i : Nat} {body suite : List Stmt} {b₀ : Stmt} {np pos pos' : Pos} {tb : WX → TS} {ts : Addr → Value → Option Addr → TS}
/-- try: body / except x as n: suite, x the class of all that the body raises -/
theorem ps_try_asT (hs : X.stack = X.env :: X.outer) (hf : X.env.frame = some X.env.locals) (hN : X.N.Nodup) (hi : X.N[i]? = some n) (hln : X.env.kindOf n = some .local) (hc : Names X x c)
    (hb : ∀ (W : WX) (pn : List (Addr × Obj)) (xe : Value → Shared → Prop), Takes (X.tr pn xe) W → PassesOwn (model X.prog X.w) X.A X.env xe → PSs (X.tr pn xe) body (tb W))
    (hsu : ∀ (a : Addr) (cls : Value) (d : Option Addr) (pn : List (Addr × Obj)), PSs (X.suite a pn) (b₀ :: suite) (ts a cls d)) :
    PS X (.Try body [.ExceptHandler (some (.Name x np)) (some n) (b₀ :: suite) pos'] [] [] pos) (fun D σ H => tb (wAsT X.K c i ts D) D σ H) := by
  refine ⟨fun pins s σ H D I h => ?_⟩
  have ok := I.ok
  have frm : X.A.frames = some (X.env :: X.outer) := by rw [ok.frames, hs]
  have vis : Loc X.env.scope n := .inl hln
  refine wpAny_Try_except ?_
  refine wpAny_mono ((hb (wAsT X.K c i ts D) (X.pn ++ pins) (fun u s₁ => wpAny (model X.prog X.w) X.A (noteFrame u X.env) (fun _ s₂ => wpAny (model X.prog X.w) X.A (setFlight u none) (fun _ s₃ =>
    wpAny (model X.prog X.w) X.A (handleBy u X.env [.ExceptHandler (some (.Name x np)) (some n) (b₀ :: suite) pos']) (SP X pins D) X.xe s₃) X.xe s₂) X.xe s₁) (fun u s' air => ?_) PassesOwn.looking).run [] s σ H D (I.toTry _) h) (fun fl s1 sp => ?_) (fun _ _ z => z)
  · obtain ⟨a, B, sI, pins', σ', H', cls, d, rfl, J', nb, up, sky, na, os, ag, hb1, yes⟩ := air
    have J : Inv X pins σ' H' sI := J'.ofTry ok
    have sky' : Sky B (X.env :: X.outer) a (Zc cls d) X.env.locals s'.heap := by rw [← hs]; exact sky
    show wpAny (model X.prog X.w) X.A (noteFrame (.ref a) X.env) _ _ _
    refine Sky.land Zc.steady frm hf sky' fun h3 f3 up3 => ?_
    have J3 : Inv X pins σ' H' { s' with heap := h3 } := J.landed nb f3.1 (up.trans up3) os ag
    obtain ⟨o3, v3, e3, z3, d3⟩ := f3.there
    have far : ∀ {h : Heap} {o : Obj} {vs : Array Value}, h.FunFrames B (X.env :: X.outer) → h.get? a = some o → o.data = .fields vs → a ∉ frs (X.env :: X.outer) := fun {h o vs} ff e q hm => by
      obtain ⟨_, o', e', nf⟩ := ff.mem hm
      rw [e] at e'
      cases e'
      exact nf _ q
    have nfr := far f3.2.2.1 e3 d3
    have nL : a ≠ X.env.locals := fun z => nfr (List.mem_filterMap.mpr ⟨X.env, List.mem_cons_self, by rw [hf, z]⟩)
    have nI : sI.heap.get? a = none := by
      cases e : sI.heap.get? a with
      | none => rfl
      | some o =>
        have q := nb a o e (by rw [hs]; exact nfr)
        rw [f3.2.1] at q
        cases q
    have T3 : Inv X pins σ' (upd H' a (exh a cls d)) { s' with heap := h3 } := inv_track J J3 nI na e3 d3 nL (exh_ok e3 z3 d3)
    refine wpAny_handleBy_cons (codeAny_handlers_test ?_) (by intro q; cases q)
    have tyA : PySem.W.Looks (model X.prog X.w) h3 (typeOf (.ref a)) cls := fun A Q E s k q => wpAny_typeOf_ref (k _ _ e3) (by rw [z3.1]; exact q)
    have mat := PySem.W.exm_one (M := model X.prog X.w) (J3.kIn) tyA hb1
    have test : ∀ {Q : Value → Shared → Prop} {E : Value → Shared → Prop}, Q c { s' with heap := h3 } → wpAny (model X.prog X.w) (X.A.mark (some (.ref a))) (eval (.Name x np) X.env) Q E { s' with heap := h3 } := fun {Q E} q => by
      obtain ⟨hg, hdbg, hm | ⟨hm, hv, hnn⟩⟩ := hc
      · exact ld_glob (X := X.suite a (X.pn ++ pins)) (inv_hot T3 a) hg hm q hdbg
      · exact ld_blt (X := X.suite a (X.pn ++ pins)) (inv_hot T3 a) hg hm hv q hnn hdbg
    refine test (mat.here (codeAny_handlers_suite_as ?_))
    refine HandSPX.lands_againZ f3 fun h4 f4 up4 => ?_
    have J4 : Inv X pins σ' H' { s' with heap := h4 } := J.landed nb f4.1 ((up.trans up3).trans up4) os ag
    obtain ⟨o4, v4, e4, z4, d4⟩ := f4.there
    have T4 : Inv X pins σ' (upd H' a (exh a cls d)) { s' with heap := h4 } := inv_track J J4 nI na e4 d4 nL (exh_ok e4 z4 d4)
    refine store_ok (X := X.suite a (X.pn ++ pins)) (v := .ref a) (inv_hot T4 a) hN hi vis rfl (fun s5 S5 => ?_) (.inr hln)
    refine wpAny_mono ((hsu a cls d (X.pn ++ pins)).run [] s5 _ _ _ S5 (yes a na)) (fun fl s6 sp => ?_) (fun _ _ z => False.elim z)
    have ends : ∀ {σ6 : L2.St} {H6 : Hp} {Q : Shared → Prop}, Inv (X.suite a (X.pn ++ pins)) [] σ6 H6 s6 → (∀ s7, Inv X pins (σ6.set i none) H6 s7 → Q s7) →
        wpAny (model X.prog X.w) X.A (do bindName X.env n .none; unbindBehindTheSuite X.env n pos') (fun _ s7 => Q s7) X.xe s6 := fun {σ6 H6 Q} S6 go => gone_ok (inv_cold S6 ok) hN hi hln go
    cases fl with
    | next =>
      obtain ⟨σ6, H6, S6, q6⟩ := sp
      exact ends S6 fun s7 J7 => ⟨_, _, J7, q6⟩
    | brk =>
      obtain ⟨σ6, H6, S6, q6⟩ := sp
      exact ends S6 fun s7 J7 => ⟨_, _, J7, q6⟩
    | cont =>
      obtain ⟨σ6, H6, S6, q6⟩ := sp
      exact ends S6 fun s7 J7 => ⟨_, _, J7, q6⟩
    | ret u =>
      obtain ⟨v6, σ6, H6, S6, r6, q6⟩ := sp
      exact ends S6 fun s7 J7 => ⟨_, _, _, J7, r6, q6⟩
  · cases fl with
    | next =>
      obtain ⟨σ', H', J', q⟩ := sp
      exact wpAny_execs_nil ⟨σ', H', J'.ofTry ok, q⟩
    | brk =>
      obtain ⟨σ', H', J', q⟩ := sp
      exact ⟨σ', H', J'.ofTry ok, q⟩
    | cont =>
      obtain ⟨σ', H', J', q⟩ := sp
      exact ⟨σ', H', J'.ofTry ok, q⟩
    | ret u =>
      obtain ⟨v, σ', H', J', r, q⟩ := sp
      exact ⟨v, σ', H', J'.ofTry ok, r, q⟩
end
end LK
set_option Elab.async false
set_option linter.all false
set_option maxRecDepth 100000
set_option maxHeartbeats 2000000
/-! LFmt: {x} in an f-string, x None, a text, an int, a tuple of texts. -/
namespace LK
open PySem PySem.Spec PyProof.Rows L2
/-- what may be shown so, in 1000 signs at most -/
def Fmt (K : PySem.W.Frag) (H : Hp) (x : V) : Prop := x = .non ∨ (∃ y : Str, x = .str y ∧ y.length ≤ 1000) ∨ (∃ i : Int, x = .int i ∧ i.natAbs.log2 < 1920 ∧ (toString i : Str).length ≤ 1000) ∨
  ∃ (a : Addr) (l : List Str), x = .ref a ∧ SqT K H a (l.map V.str) ∧ (∀ y ∈ l, ∀ c ∈ y.cps.toList, c < 16 ^ 8) ∧ fmtCost l + 7 ≤ 1000
theorem Fmt.same {K : PySem.W.Frag} {H H' : Hp} {x : V} (h : Fmt K H x) (s : Same H H') : Fmt K H' x := by
  rcases h with h | h | h | ⟨a, l, e, q, h⟩
  · exact .inl h
  · exact .inr (.inl h)
  · exact .inr (.inr (.inl h))
  · refine .inr (.inr (.inr ⟨a, l, e, ?_, h⟩))
    rcases q with (q | ⟨o, q⟩) | q
    · exact .inl (.inl (s _ _ q))
    · exact .inl (.inr ⟨o, s _ _ q⟩)
    · exact .inr q
def tFmtA (K : PySem.W.Frag) (te : TE) : TE := fun σ H Q => te σ H fun x H1 => Fmt K H1 x ∧ ∀ m : Str, m.length ≤ 1000 → Q (.str m) H1
theorem pe_fmtA {X : Cx} {e : Expr} {te : TE} {pos : Pos} {k : Nat} (hr : Room k X.A) (he : PE X e te) : PE X (.FormattedValue e (-1) none pos) (tFmtA X.K te) := by
  refine ⟨fun pins s σ H Q I h => ?_⟩
  refine wpAny_FormattedValue_plain (thn (he.run pins s σ H _ I h) fun v s1 ⟨x, H1, I1, r1, g, q⟩ => ?_)
  have big : ∀ {n : Nat}, n ≤ 1000 → n ≤ sizeLine := fun h => Nat.le_trans h (by decide)
  rcases g with rfl | ⟨y, rfl, hy⟩ | ⟨i, rfl, h1, h2⟩ | ⟨a, l, rfl, ht, hc, hz⟩
  · obtain rfl : v = .none := r1
    exact wpAny_formatField_none ⟨.str "None", H1, (I1.tok _).tok _, ⟨_, rfl⟩, q "None" (by decide +kernel)⟩
  · obtain ⟨t, rfl⟩ := r1
    exact wpAny_formatField_str ⟨.str y, H1, I1, ⟨t, rfl⟩, q y hy⟩ ⟨.str y, H1, I1.tok _, ⟨_, rfl⟩, q y hy⟩ (big hy)
  · obtain ⟨t, rfl⟩ := r1
    exact wpAny_formatField_int h1 ⟨.str (toString i), H1, I1.tok _, ⟨_, rfl⟩, q _ h2⟩
  · cases r1
    obtain ⟨its, rv, ⟨o, ho, hcl, n, hd⟩, _⟩ := I1.tuple ht
    have cost := fmt_piled l hc
    have len := fmt_text (l.map reprText)
    have hu := hr.units
    have h1000 : 1000 ≤ sizeLine := by decide
    refine fmt_tuple (ts := l.map reprText) (by omega) ho hcl hd (repr_all rv fun y hy => ?_) (by omega) fun m u tk hm => ⟨.str m, H1, I1.tok _, ⟨u, rfl⟩, q m (by omega)⟩
    have h1 := StrLaws.reprText_len y (hc y hy)
    have h2 := fmtCost_mem hy
    omega
end LK
set_option Elab.async false
set_option linter.all false
set_option maxRecDepth 100000
set_option maxHeartbeats 4000000
namespace K10
open PySem PySem.Spec PyProof.Rows L2 Evl LK
def top (i : Nat) : Stmt := PySem.Challenge.pw_frozenmakers_k10_refusals_apart.main.body.getD i (.Pass ⟨0, 0, 0, 0⟩)
abbrev rw_ := PySem.Challenge.rw_frozenmakers_k10_refusals_apart
abbrev FnP (K : PySem.W.Frag) (x : Str) (st : Stmt) (f : Addr) (fd : FuncData) : Prop := FunD K x x (defArgs st) (defBody st) (defScope st) [] [] f fd
abbrev s_law_begun : Stmt := top 20
abbrev s_law_take : Stmt := top 21
abbrev s_law_pick : Stmt := top 22
abbrev s_law_all : Stmt := top 23
abbrev s_law_kinds : Stmt := top 24
abbrev s_law_taken : Stmt := top 25
abbrev s_law : Stmt := top 26
end K10

set_option Elab.async false
set_option linter.all false
set_option maxRecDepth 100000
set_option maxHeartbeats 4000000
namespace K10
open PySem PySem.Spec PyProof.Rows L2 Evl LK
/-! ### draws -/
def spTake : Sp := fun vs H Q _ => ∃ (d : Dr) (m : Int) (n : Nat), vs = [.ref d.s, .int m] ∧ StAt H d n ∧ n < 1000000000000000 ∧ 0 < m ∧ m < 1073741824 ∧
  ∀ (r : Int) (H' : Hp), 0 ≤ r → r < m → StAt H' d (n + 1) → LK.Fr d H H' → Q (.int r) H'
section
variable {P : Program} {w : World} {K : PySem.W.Frag} {mg : Str → Option Value} {base : Heap}
theorem scTake : FnScope ["state", "many", "found", "turn", "cell", "seed", "mixed"] ["state", "many"] (defScope s_law_take) := ⟨rfl, rfl, rfl, by decide +kernel, rfl, by decide +kernel, by decide +kernel⟩
theorem ok_take {f : Addr} {fd : FuncData} (F : FnP K "_law_take" s_law_take f fd) (mlen : mg "len" = none) : FnOk P w K mg base CX0 1 f fd ["state", "many"] spTake := by
  refine F.ok scTake (fun vs H Q E h => ?_) (fun cdv A outer s H vs Q E hr h => ?_)
  · obtain ⟨d, m, n, rfl, _⟩ := h
    rfl
  · obtain ⟨d, m, n, rfl, S, hn, hm0, hm1, q⟩ := h
    have hu := hu_of hr
    have hu64 := hr.units
    refine ⟨_, PSs.nox (pss_cut (ps_if (PW.pt (pw_and (pt_cmpR op_eq (pe_dget hu (pv 0) pe_str (fun _ _ => rfl)) pe_int (nomark _)) (pw_and1 (pt_cmpR (op_neD hu64) (pe_dget hu (pv 0) pe_str (fun _ _ => rfl)) (pe_lst pa_nil) (nomark _)))))
        (pss_one (ps_dput hu (pv 0) pe_str (pe_bm PySem.F.plainAttrs_list PySem.F.slot_list_pop PySem.F.type_list_pop mt_popAt (pe_dget hu (pv 0) pe_str (fun _ _ => rfl)) (pa_cons pe_int pa_nil)) rfl)) pss_nil)
      (pss_cons (ps_if (pt_cmpR op_gt (pe_dget hu (pv 0) pe_str (fun _ _ => rfl)) pe_int (nomark _))
        (pss_cons (ps_set (i := 2) scTake.nd rfl (Or.inl rfl) (pe_op op_mod (pe_dget hu (pv 0) pe_str (fun _ _ => rfl)) (pv 1)))
        (pss_cons (ps_dput hu (pv 0) pe_str (pe_op op_fdiv (pe_dget hu (pv 0) pe_str (fun _ _ => rfl)) (pv 1)) rfl)
        (pss_one (ps_ret (pv 2))))) pss_nil)
      (pss_cons (ps_set (i := 3) scTake.nd rfl (Or.inl rfl) (pe_dget hu (pv 0) pe_str (fun _ _ => rfl)))
      (pss_cons (ps_dput hu (pv 0) pe_str (pe_op op_add (pv 3) pe_int) rfl)
      (pss_cons (ps_set (i := 4) scTake.nd rfl (Or.inl rfl) (pe_ix ix_list (pe_dget hu (pv 0) pe_str (fun _ _ => rfl)) (pe_op op_mod (pv 3) (pe_callB call_len_seq (by rfl) mlen PySem.boot_len (pa_cons (pe_dget hu (pv 0) pe_str (fun _ _ => rfl)) pa_nil))) (fun _ _ => rfl)))
      (pss_cons (ps_set (i := 5) scTake.nd rfl (Or.inl rfl) (pe_op op_mod (pe_op op_add (pe_op op_add (pe_op op_mul (pe_dget hu (pv 0) pe_str (fun _ _ => rfl)) pe_int) (pe_op op_mul (pv 4) (pe_op op_add (pe_op op_mul pe_int (pv 3)) pe_int))) (pe_op op_pow (pv 3) pe_int)) pe_int))
      (pss_cons (ps_dput hu (pv 0) pe_str (pv 5) rfl)
      (pss_cons (ps_set (i := 6) scTake.nd rfl (Or.inl rfl) (pe_op op_add (pe_op op_mul (pe_op op_mod (pe_op op_pow (pv 5) pe_int) pe_int) pe_int) (pe_op op_mod (pe_op op_pow (pv 5) pe_int) pe_int)))
      (pss_one (ps_ret (pe_op op_mod (pe_op op_fdiv (pv 6) pe_int) (pv 1))))))))))) ), ?_⟩
    obtain ⟨r, t, sd, gs, cs, R, N⟩ := S
    have e0 := N.s0
    have e1 := N.s1
    -- if state['rest'] == 0 and state['great'] != []: state['rest'] = state['great'].pop(0)
    refine ⟨fun σ' H' => σ' = [some (.ref d.s), some (.int m), none, none, none, none, none] ∧ StAt H' d n ∧ LK.Fr d H H', ?_, ?_⟩
    · refine ⟨_, rfl, _, _, rfl, g_rest R, rfl, _, rfl, ?_⟩
      refine ite2 (fun z => ?_) (fun z => ?_)
      · refine ⟨_, rfl, _, _, rfl, g_great R, by show 0 ≤ sizeLine; exact Nat.zero_le _, fun p hp => ?_⟩
        have R1 := R.new (o := .lst []) hp
        refine ⟨.list (gs.map .int), .list [], .lst (SqL.of R1.hg) (dp_ints gs), .lst (SqL.of upd_same) .nil, shaped_ints gs, by decide, _, rfl, ?_⟩
        cases gs with
        | nil =>
          refine iteF ?_
          exact ⟨rfl, ⟨r, t, sd, [], cs, R1, N⟩, LK.Fr.new hp⟩
        | cons y gs =>
          refine iteT ?_
          refine ⟨_, rfl, _, _, rfl, g_great R1, Or.inl ⟨rfl, _, SqL.of R1.hg⟩, ?_⟩
          refine ⟨d.g, _, 0, 0, .int y, rfl, rfl, R1.hg, by decide, by decide, seq0, rfl, ?_⟩
          have R2 := R1.pop (gs' := gs)
          refine ⟨_, rfl, d.s, _, rfl, p_rest R2, ?_⟩
          refine ⟨rfl, ⟨y, t, sd, gs, cs, R2.put, { N with r0 := N.gs0 y List.mem_cons_self, gs0 := fun z hz => N.gs0 z (List.mem_cons_of_mem _ hz), gsl := by have := N.gsl; rw [List.length_cons] at this; omega }⟩, ?_⟩
          exact ((LK.Fr.new hp).trans LK.Fr.g).trans LK.Fr.s
      · refine iteF ?_
        exact ⟨rfl, ⟨r, t, sd, gs, cs, R, N⟩, LK.Fr.refl H⟩
    clear R N e0 e1 r t sd gs cs
    rintro σ' H1 ⟨rfl, ⟨r, t, sd, gs, cs, R, N⟩, fr⟩
    have e0 := N.s0
    have e1 := N.s1
    -- if state['rest'] > 0
    refine ⟨_, rfl, _, _, rfl, g_rest R, _, _, rfl, rfl, _, rfl, ?_⟩
    refine ite2 (fun z => ?_) (fun z => ?_)
    · refine ⟨_, rfl, _, _, rfl, g_rest R, _, rfl, _, _, rfl, rfl, hm0, ?_⟩
      refine ⟨_, rfl, _, _, rfl, g_rest R, _, rfl, _, _, rfl, rfl, ⟨hm0, hm1⟩, _, rfl, d.s, _, rfl, p_rest R, ?_⟩
      refine ⟨_, rfl, ?_⟩
      refine q _ _ (Int.emod_nonneg _ (by omega)) (Int.emod_lt_of_pos _ hm0) ⟨_, t, sd, gs, cs, R.put, { N with r0 := Int.ediv_nonneg N.r0 (by omega), t1 := by have := N.t1; omega }⟩ (fr.trans LK.Fr.s)
    -- turn = state['turn']; state['turn'] = turn + 1
    refine ⟨_, rfl, _, _, rfl, g_turn R, ?_⟩
    refine ⟨_, rfl, _, _, rfl, rfl, _, rfl, d.s, _, rfl, p_turn R, ?_⟩
    have R2 := R.put (r' := r) (t' := t + 1) (sd' := sd)
    have ht0 := N.t0
    have ht1 := N.t1
    -- cell = state['cells'][turn % len(state['cells'])]
    have cpos : 0 < cs.length := List.length_pos_iff.mpr N.cs0
    have cidx : ((t % (cs.length : Int)).toNat) < cs.length := by
      have a := Int.emod_nonneg t (show (cs.length : Int) ≠ 0 by omega)
      have b := Int.emod_lt_of_pos t (show (0 : Int) < cs.length by omega)
      omega
    have cat : atI (cs.map V.int) (t % (cs.length : Int)) = some (.int (cs[(t % (cs.length : Int)).toNat])) := by
      refine LK.at_of (j := (t % (cs.length : Int)).toNat) ?_ ?_
      · have a := Int.emod_nonneg t (show (cs.length : Int) ≠ 0 by omega)
        omega
      · rw [List.getElem?_map, List.getElem?_eq_getElem cidx]; rfl
    have cb := N.cs1 _ (List.getElem_mem cidx)
    generalize cs[(t % (cs.length : Int)).toNat] = cell at cat cb
    obtain ⟨cb0, cb1⟩ := cb
    refine ⟨_, rfl, _, _, rfl, g_cells R2, _, rfl, _, rfl, _, _, rfl, g_cells R2, d.c, _, rfl, .inl (SqL.of R2.hc), _, _, rfl, rfl, by rw [List.length_map]; omega, d.c, _, _, _, rfl, rfl, SqL.of R2.hc, by rw [List.length_map]; exact cat, ?_⟩
    -- seed = ..
    refine ⟨_, rfl, _, _, rfl, g_seed R2, _, _, rfl, rfl, .inl ⟨by omega, by omega⟩, ?_⟩
    refine ⟨_, rfl, _, rfl, _, _, rfl, rfl, .inl ⟨by omega, by omega⟩, _, _, rfl, rfl, _, _, rfl, rfl, .inl ⟨by omega, by omega⟩, _, _, rfl, rfl, ?_⟩
    refine ⟨_, rfl, _, _, rfl, rfl, ⟨by decide, by decide, by omega⟩, _, _, rfl, rfl, _, _, rfl, rfl, (by show (0 : Int) < 2147483647; decide), ?_⟩
    generalize hX : sd * 48271 + cell * (2 * t + 3) + t ^ (3 : Int).toNat = X
    have x0 := Int.emod_nonneg X (show (2147483647 : Int) ≠ 0 by decide)
    have x1 := Int.emod_lt_of_pos X (show (0 : Int) < 2147483647 by decide)
    refine ⟨_, rfl, _, rfl, d.s, _, rfl, p_seed R2, ?_⟩
    -- mixed = ..
    refine ⟨_, rfl, _, _, rfl, rfl, ⟨by decide, by decide, by omega⟩, _, _, rfl, rfl, (by show (0 : Int) < 2147483629; decide), ?_⟩
    have y0 := Int.emod_nonneg ((X % 2147483647) ^ (2 : Int).toNat) (show (2147483629 : Int) ≠ 0 by decide)
    have y1 := Int.emod_lt_of_pos ((X % 2147483647) ^ (2 : Int).toNat) (show (0 : Int) < 2147483629 by decide)
    refine ⟨_, _, rfl, rfl, .inl ⟨by omega, by omega⟩, ?_⟩
    refine ⟨_, rfl, _, _, rfl, rfl, ⟨by decide, by decide, by omega⟩, _, _, rfl, rfl, (by show (0 : Int) < 2147483579; decide), _, _, rfl, rfl, ?_⟩
    refine ⟨_, rfl, _, _, rfl, rfl, ⟨by decide, by decide⟩, _, rfl, _, _, rfl, rfl, hm0, ?_⟩
    refine q _ _ (Int.emod_nonneg _ (by omega)) (Int.emod_lt_of_pos _ hm0) ⟨_, _, _, gs, cs, R2.put, { N with t0 := by omega, t1 := by omega, s0 := x0, s1 := by omega }⟩ ((fr.trans LK.Fr.s).trans LK.Fr.s)
def spPick (K : PySem.W.Frag) : Sp := fun vs H Q _ => ∃ (d : Dr) (v : V) (xs : List V) (n : Nat), vs = [.ref d.s, v] ∧ StAt H d n ∧ n < 1000000000000000 ∧ Pk K H v xs ∧ v ≠ .ref d.g ∧ xs ≠ [] ∧ xs.length ≤ 1000 ∧
  ∀ (x : V) (H' : Hp), x ∈ xs → StAt H' d (n + 1) → LK.Fr d H H' → Q x H'
theorem scPick : FnScope ["state", "some"] ["state", "some"] (defScope s_law_pick) := ⟨rfl, rfl, rfl, by decide +kernel, rfl, by decide +kernel, by decide +kernel⟩
theorem ok_pick {f fT : Addr} {fd fdT : FuncData} (F : FnP K "_law_pick" s_law_pick f fd) (FT : FnP K "_law_take" s_law_take fT fdT) (mT : mg "_law_take" = some (.ref fT)) (mlen : mg "len" = none) : FnOk P w K mg base CX0 2 f fd ["state", "some"] (spPick K) := by
  have GT : FnOk P w K mg base CX0 1 fT fdT ["state", "many"] spTake := ok_take FT mlen
  have bT : Binds K fdT ["state", "many"] [] := FT.bindsN fun _ _ _ _ _ _ us hl => match us, hl with | [_, _], _ => rfl
  refine F.ok scPick (fun vs H Q E h => ?_) (fun cdv A outer s H vs Q E hr h => ?_)
  · obtain ⟨d, v, xs, n, rfl, _⟩ := h
    rfl
  · obtain ⟨d, v, xs, n, rfl, S, hn, hp, hg, h0, hl, q⟩ := h
    refine ⟨_, PSs.nox (pss_one (ps_ret (pe_ix ix_seq (pv 1) (pe_call GT hr rfl mT FT.kp bT .nil pass0 (pa_cons (pv 0) (pa_cons (pe_callB call_len (by rfl) mlen PySem.boot_len (pa_cons (pv 1) pa_nil)) pa_nil))) (fun _ _ => rfl)))), ?_⟩
    have hpos : 0 < xs.length := List.length_pos_iff.mpr h0
    refine ⟨_, rfl, _, rfl, _, rfl, _, _, rfl, hp.len hl, ?_⟩
    refine ⟨d, _, n, rfl, S, hn, by omega, by omega, fun r H' r0 r1 S' f => ?_⟩
    exact (hp.fr f S hg).ix hl r0 r1 fun x hx => q x H' hx S' f
def spBegun (K : PySem.W.Frag) : Sp := fun vs H Q _ => ∃ (a : Addr) (ns : List Int), vs = [.ref a] ∧ SqL K H a (ns.map V.int) ∧ ns.length ≤ 63 ∧
  ∀ (d : Dr) (H' : Hp), Same H H' → H d.s = none → H d.g = none → StAt H' d 0 → Q (.ref d.s) H'
theorem scBegun : FnScope ["script", "cell"] ["script"] (defScope s_law_begun) := ⟨rfl, rfl, rfl, by decide +kernel, rfl, by decide +kernel, by decide +kernel⟩
theorem ok_begun {f : Addr} {fd : FuncData} (F : FnP K "_law_begun" s_law_begun f fd) : FnOk P w K mg base CX0 1 f fd ["script"] (spBegun K) := by
  refine F.ok scBegun (fun vs H Q E h => ?_) (fun cdv A outer s H vs Q E hr h => ?_)
  · obtain ⟨a, ns, rfl, _⟩ := h
    rfl
  · obtain ⟨a, ns, rfl, hS, hl, q⟩ := h
    have nd := scBegun.nd
    refine ⟨_, PSs.nox (pss_one (ps_ret (pe_disp
      (pps_cons pe_str (pe_lc (own := [("cell", 1)]) (g := gName 1) rfl nd (pi_list (pv 0)) (blkOk_by (N := ["script", "cell"]) (sc := defScope s_law_begun) (by decide +kernel)) (fun _ _ _ _ _ => pg_name (i := 1) nd rfl (Or.inl rfl))
          (fun _ _ _ _ _ => pts_one (pt_cmpR op_ge (pv 1) (pe_op op_pow pe_int pe_int) (nomark _))) (fun _ _ _ _ _ => pv 1))
      (pps_cons pe_str pe_int (pps_cons pe_str pe_int (pps_cons pe_str pe_int
      (pps_cons pe_str (pe_op op_cat (pe_lc (own := [("cell", 1)]) (g := gName 1) rfl nd (pi_list (pv 0)) (blkOk_by (N := ["script", "cell"]) (sc := defScope s_law_begun) (by decide +kernel)) (fun _ _ _ _ _ => pg_name (i := 1) nd rfl (Or.inl rfl))
          (fun _ _ _ _ _ => pts_nil) (fun _ _ _ _ _ => pe_op op_mod (pv 1) pe_int)) (pe_lst (pa_cons pe_int pa_nil))) pps_nil)))))
      (by rfl) (by rfl) (fun z => by cases z) (by decide)))), ?_⟩
    have item : ∀ (i : Nat) (x : V), (ns.map V.int)[i]? = some x → x = .int (ns.getD i 0) := by
      intro i x hi
      rw [List.getElem?_map] at hi
      cases e : ns[i]? with
      | none => rw [e] at hi; cases hi
      | some z =>
        rw [e] at hi
        rw [List.getD_eq_getElem?_getD, e]
        exact (Option.some.inj hi).symm
    have hl2 : (ns.map V.int).length ≤ 40000 := by rw [List.length_map]; omega
    intro p hp
    have s1 : Same H (upd H p (.dK [])) := same_new hp
    simp only [tPairs]
    refine t_c ?_
    refine el_lcL (σ := [some (.ref a), none]) (j := 1) (vs := [1]) (fun i => decide ((1000000000000000000 : Int) ≤ ns.getD i 0)) (fun i => .int (ns.getD i 0)) (ev_var (i := 0) rfl) (s1.seq hS) hl2 (fun x => rfl)
      (fun i x H1 e1 hi => ?_) (fun i x H1 e1 hi _ => ?_) _ (Ex.refl _) _ (fun g H2 hg e2 hgl => ?_)
    · obtain rfl := item i x hi
      exact et_test (ev_op (ev_var rfl) (ev_op ev_c ev_c (rv_I ⟨by decide, by decide, by decide⟩)) rv_I0)
    · obtain rfl := item i x hi
      exact ev_var rfl
    have hg0 : H g = none := s1.free hg
    have gp : g ≠ p := fun z => by rw [z, upd_same] at hg; cases hg
    have s2 : Same H H2 := fun b o z => e2 _ _ (s1 _ _ z)
    have hp2 : H2 p = some (.dK []) := e2 _ _ upd_same
    refine t_c (t_c (t_c (t_c (t_c (t_c (t_c ?_))))))
    refine el_lcL (σ := [some (.ref a), none]) (j := 1) (vs := [1]) (fun _ => true) (fun i => .int (ns.getD i 0 % 2147483629)) (ev_var (i := 0) rfl) (s2.seq hS) hl2 (fun x => rfl)
      (fun i x H1 e1 hi => et_yes) (fun i x H1 e1 hi _ => ?_) _ (Ex.refl _) _ (fun c H3 hc e3 hcl => ?_)
    · obtain rfl := item i x hi
      exact ev_op (ev_var rfl) ev_c (rv_I (by show (0 : Int) < 2147483629; decide))
    refine ⟨by show 1 ≤ sizeLine; decide, fun d hd => ?_⟩
    have hgl2 : (upd H3 d (.lst [.int 77])) c = some (.lst (given (ns.map V.int).length (fun _ => true) fun i => .int (ns.getD i 0 % 2147483629))) := by
      rw [upd_ne (ne_of_none hcl hd)]; exact hcl
    have glen := given_len (ns.map V.int).length (fun _ => true) fun i => V.int (ns.getD i 0 % 2147483629)
    refine ⟨c, d, _, _, rfl, rfl, hgl2, upd_same, Nat.le_trans (Nat.add_le_add glen (Nat.le_refl 1)) (by rw [List.length_map]; exact Nat.le_trans (by omega) (by decide : 64 ≤ sizeLine)), fun e he => ?_⟩
    have s3 : Same H2 (upd (upd H3 d (.lst [.int 77])) e (.lst (given (ns.map V.int).length (fun _ => true) (fun i => .int (ns.getD i 0 % 2147483629)) ++ [.int 77]))) := fun b o z =>
      same_new he _ _ (same_new hd _ _ (e3 _ _ z))
    have ep : e ≠ p := fun z => by
      have := same_new (o := .lst [.int 77]) hd _ _ (e3 _ _ hp2)
      rw [← z, he] at this; cases this
    refine ⟨s3 _ _ hp2, [((.inr "great" : Key), .ref g), (.inr "rest", .int 0), (.inr "turn", .int 0), (.inr "seed", .int 7), (.inr "cells", .ref e)], rfl, by show 5 ≤ 15; decide, ?_⟩
    rw [merge_st]
    rw [given_ints] at hgl
    rw [given_ints] at s3 ⊢
    refine q ⟨p, g, e⟩ _ (fun b o z => ?_) hp hg0 ⟨0, 0, 7, ((List.range (ns.map V.int).length).filter (fun i => decide ((1000000000000000000 : Int) ≤ ns.getD i 0))).map (fun i => ns.getD i 0), ((List.range (ns.map V.int).length).filter (fun _ => true)).map (fun i => ns.getD i 0 % 2147483629) ++ [77], ⟨upd_same, ?_, ?_, ?_⟩, ?_⟩
    · rw [upd_ne (ne_of_none z hp)]
      exact s3 _ _ (s2 _ _ z)
    · rw [upd_ne gp]
      exact s3 _ _ hgl
    · rw [upd_ne ep, upd_same, List.map_append]
      rfl
    · intro z
      have z' : e = g := z
      have h := same_new (o := .lst [.int 77]) hd _ _ (e3 _ _ hgl)
      rw [← z', he] at h
      cases h
    · have lens : ∀ (f : Nat → Bool), ((List.range (ns.map V.int).length).filter f).length ≤ 63 := by
        intro f
        have h := List.length_filter_le f (List.range (ns.map V.int).length)
        rw [List.length_range] at h
        have h2 : (ns.map V.int).length = ns.length := List.length_map _
        omega
      refine ⟨by decide, by decide, by decide, by decide, by decide, ?_, ?_, ?_, ?_, ?_⟩
      · intro z hz
        obtain ⟨i, hi, rfl⟩ := List.mem_map.mp hz
        have h := of_decide_eq_true (List.mem_filter.mp hi).2
        omega
      · intro z
        have h := congrArg List.length z
        rw [List.length_append] at h
        exact absurd h (by show ¬ _ + 1 = 0; omega)
      · intro z hz
        rcases List.mem_append.mp hz with h | h
        · obtain ⟨i, hi, rfl⟩ := List.mem_map.mp h
          have h0 := Int.emod_nonneg (ns.getD i 0) (show (2147483629 : Int) ≠ 0 by decide)
          have h1 := Int.emod_lt_of_pos (ns.getD i 0) (show (0 : Int) < 2147483629 by decide)
          omega
        · obtain rfl := List.mem_singleton.mp h
          decide
      · rw [List.length_append, List.length_map]
        have h := lens fun _ => true
        show _ + 1 ≤ 100
        omega
      · rw [List.length_map]
        have h := lens fun i => decide ((1000000000000000000 : Int) ≤ ns.getD i 0)
        omega
end
end K10
set_option Elab.async false
set_option linter.all false
set_option maxRecDepth 100000
set_option maxHeartbeats 4000000
namespace K10
open PySem PySem.Spec PyProof.Rows L2 Evl LK
/-! the refusals' inits -/
structure TSe (K : PySem.W.Frag) (mg : Str → Option Value) (S : Addr) : Prop where
  gS : mg "StillError" = some (.ref S)
  rd : ClX.CRead K S (.type "type")
  vi : PySem.W.findCls K (.ref S) (.type "type") "__init__" = some (.val (.builtin "ValueError.__init__"))
def spEI (K : PySem.W.Frag) (f : Str) : Sp := fun vs H Q _ => ∃ (a C : Addr) (x : V), vs = [.ref a, x] ∧ OexC K C ∧ PySem.W.findIn K (.ref C) f = some none ∧ H a = some (exo a C none) ∧ Fmt K H x ∧
  ∀ (d : Addr) (H' : Hp), H d = none → d ≠ a → (∀ b o, b ≠ a → H b = some o → H' b = some o) → H' a = some (exo a C (some d)) → H' d = some (exd d [(f, x)]) → Q .non H'
theorem str_fit {a b : Str} {n m : Nat} (h1 : a.length ≤ n) (h2 : b.length ≤ m) (h : n + m ≤ 3000) : (a ++ b).length ≤ sizeLine := by
  rw [app_len]
  exact Nat.le_trans (show a.length + b.length ≤ 3000 by omega) (by decide)
theorem str_in {a b : Str} {n m : Nat} (h1 : a.length ≤ n) (h2 : b.length ≤ m) : (a ++ b).length ≤ n + m := by rw [app_len]; omega
section
variable {P : Program} {w : World} {K : PySem.W.Frag} {mg : Str → Option Value} {base : Heap} {S : Addr}
abbrev sI_NoBook : Stmt := inClass (top 2) 0
theorem scI_NoBook : FnScope ["self", "at"] ["self", "at"] (defScope sI_NoBook) := ⟨rfl, rfl, rfl, by decide +kernel, rfl, by decide +kernel, by decide +kernel⟩
theorem okI_NoBook {f : Addr} {fd : FuncData} (F : FunD K "__init__" "NoBook.__init__" (defArgs sI_NoBook) (defBody sI_NoBook) (defScope sI_NoBook) [] [] f fd) (T : TSe K mg S) : FnOk P w K mg base CX0 1 f fd ["self", "at"] (spEI K "at") := by
  refine F.ok scI_NoBook (fun vs H Q E h => ?_) (fun cdv A outer s H vs Q E hr h => ?_)
  · obtain ⟨a, C, x, rfl, _⟩ := h; rfl
  · obtain ⟨a, C, x, rfl, TC, hno, ha, hx, q⟩ := h
    refine ⟨_, PSs.nox (pss_cons (ps_expr (pe_seinit T.rd (by rfl) T.gS T.vi (pa_cons (pv 0) (pa_cons (pe_joined (.cons pe_str (.cons (pe_fmtA hr (pv 1)) (.cons pe_str .nil)))) pa_nil)))) (pss_one (ps_ost (pv 0) (pv 1)))), ?_⟩
    have c1 : (Str.empty ++ ("function " : Str)).length ≤ 40 := by decide +kernel
    have c2 : (" can't stand in the book" : Str).length ≤ 40 := by decide +kernel
    refine ⟨_, rfl, _, rfl, Nat.le_trans c1 (by decide), ?_⟩
    refine ⟨_, rfl, hx, fun m hm => ⟨_, rfl, str_fit c1 hm (by decide), _, rfl, str_fit (str_in c1 hm) c2 (by decide), ?_⟩⟩
    refine ⟨a, C, _, rfl, by show 1 ≤ 1000; decide, TC, ha, ?_⟩
    refine ⟨_, rfl, _, rfl, a, C, rfl, TC, hno, .inl ⟨ha, fun dx hdx ne => ?_⟩⟩
    exact q dx _ hdx ne (fun b o hb e => by rw [upd_ne hb, upd_ne (ne_of_none e hdx)]; exact e) upd_same (by rw [upd_ne ne]; exact upd_same)
abbrev sI_NoText : Stmt := inClass (top 3) 0
theorem scI_NoText : FnScope ["self", "row"] ["self", "row"] (defScope sI_NoText) := ⟨rfl, rfl, rfl, by decide +kernel, rfl, by decide +kernel, by decide +kernel⟩
theorem okI_NoText {f : Addr} {fd : FuncData} (F : FunD K "__init__" "NoText.__init__" (defArgs sI_NoText) (defBody sI_NoText) (defScope sI_NoText) [] [] f fd) (T : TSe K mg S) : FnOk P w K mg base CX0 1 f fd ["self", "row"] (spEI K "row") := by
  refine F.ok scI_NoText (fun vs H Q E h => ?_) (fun cdv A outer s H vs Q E hr h => ?_)
  · obtain ⟨a, C, x, rfl, _⟩ := h; rfl
  · obtain ⟨a, C, x, rfl, TC, hno, ha, hx, q⟩ := h
    refine ⟨_, PSs.nox (pss_cons (ps_expr (pe_seinit T.rd (by rfl) T.gS T.vi (pa_cons (pv 0) (pa_cons (pe_joined (.cons pe_str (.cons (pe_fmtA hr (pv 1)) (.cons pe_str .nil)))) pa_nil)))) (pss_one (ps_ost (pv 0) (pv 1)))), ?_⟩
    have c1 : (Str.empty ++ ("row " : Str)).length ≤ 40 := by decide +kernel
    have c2 : (" can't stand in the text" : Str).length ≤ 40 := by decide +kernel
    refine ⟨_, rfl, _, rfl, Nat.le_trans c1 (by decide), ?_⟩
    refine ⟨_, rfl, hx, fun m hm => ⟨_, rfl, str_fit c1 hm (by decide), _, rfl, str_fit (str_in c1 hm) c2 (by decide), ?_⟩⟩
    refine ⟨a, C, _, rfl, by show 1 ≤ 1000; decide, TC, ha, ?_⟩
    refine ⟨_, rfl, _, rfl, a, C, rfl, TC, hno, .inl ⟨ha, fun dx hdx ne => ?_⟩⟩
    exact q dx _ hdx ne (fun b o hb e => by rw [upd_ne hb, upd_ne (ne_of_none e hdx)]; exact e) upd_same (by rw [upd_ne ne]; exact upd_same)
abbrev sI_NoName : Stmt := inClass (top 4) 0
theorem scI_NoName : FnScope ["self", "name"] ["self", "name"] (defScope sI_NoName) := ⟨rfl, rfl, rfl, by decide +kernel, rfl, by decide +kernel, by decide +kernel⟩
theorem okI_NoName {f : Addr} {fd : FuncData} (F : FunD K "__init__" "NoName.__init__" (defArgs sI_NoName) (defBody sI_NoName) (defScope sI_NoName) [] [] f fd) (T : TSe K mg S) : FnOk P w K mg base CX0 1 f fd ["self", "name"] (spEI K "name") := by
  refine F.ok scI_NoName (fun vs H Q E h => ?_) (fun cdv A outer s H vs Q E hr h => ?_)
  · obtain ⟨a, C, x, rfl, _⟩ := h; rfl
  · obtain ⟨a, C, x, rfl, TC, hno, ha, hx, q⟩ := h
    refine ⟨_, PSs.nox (pss_cons (ps_expr (pe_seinit T.rd (by rfl) T.gS T.vi (pa_cons (pv 0) (pa_cons pe_str pa_nil)))) (pss_one (ps_ost (pv 0) (pv 1)))), ?_⟩
    refine ⟨_, rfl, a, C, _, rfl, by show 1 ≤ 1000; decide, TC, ha, ?_⟩
    refine ⟨_, rfl, _, rfl, a, C, rfl, TC, hno, .inl ⟨ha, fun dx hdx ne => ?_⟩⟩
    exact q dx _ hdx ne (fun b o hb e => by rw [upd_ne hb, upd_ne (ne_of_none e hdx)]; exact e) upd_same (by rw [upd_ne ne]; exact upd_same)
abbrev sI_NoMaker : Stmt := inClass (top 7) 0
theorem scI_NoMaker : FnScope ["self", "number"] ["self", "number"] (defScope sI_NoMaker) := ⟨rfl, rfl, rfl, by decide +kernel, rfl, by decide +kernel, by decide +kernel⟩
theorem okI_NoMaker {f : Addr} {fd : FuncData} (F : FunD K "__init__" "NoMaker.__init__" (defArgs sI_NoMaker) (defBody sI_NoMaker) (defScope sI_NoMaker) [] [] f fd) (T : TSe K mg S) : FnOk P w K mg base CX0 1 f fd ["self", "number"] (spEI K "number") := by
  refine F.ok scI_NoMaker (fun vs H Q E h => ?_) (fun cdv A outer s H vs Q E hr h => ?_)
  · obtain ⟨a, C, x, rfl, _⟩ := h; rfl
  · obtain ⟨a, C, x, rfl, TC, hno, ha, hx, q⟩ := h
    refine ⟨_, PSs.nox (pss_cons (ps_expr (pe_seinit T.rd (by rfl) T.gS T.vi (pa_cons (pv 0) (pa_cons pe_str pa_nil)))) (pss_one (ps_ost (pv 0) (pv 1)))), ?_⟩
    refine ⟨_, rfl, a, C, _, rfl, by show 1 ≤ 1000; decide, TC, ha, ?_⟩
    refine ⟨_, rfl, _, rfl, a, C, rfl, TC, hno, .inl ⟨ha, fun dx hdx ne => ?_⟩⟩
    exact q dx _ hdx ne (fun b o hb e => by rw [upd_ne hb, upd_ne (ne_of_none e hdx)]; exact e) upd_same (by rw [upd_ne ne]; exact upd_same)
abbrev sI_TooLong : Stmt := inClass (top 8) 0
theorem scI_TooLong : FnScope ["self", "most"] ["self", "most"] (defScope sI_TooLong) := ⟨rfl, rfl, rfl, by decide +kernel, rfl, by decide +kernel, by decide +kernel⟩
theorem okI_TooLong {f : Addr} {fd : FuncData} (F : FunD K "__init__" "TooLong.__init__" (defArgs sI_TooLong) (defBody sI_TooLong) (defScope sI_TooLong) [] [] f fd) (T : TSe K mg S) : FnOk P w K mg base CX0 1 f fd ["self", "most"] (spEI K "most") := by
  refine F.ok scI_TooLong (fun vs H Q E h => ?_) (fun cdv A outer s H vs Q E hr h => ?_)
  · obtain ⟨a, C, x, rfl, _⟩ := h; rfl
  · obtain ⟨a, C, x, rfl, TC, hno, ha, hx, q⟩ := h
    refine ⟨_, PSs.nox (pss_cons (ps_expr (pe_seinit T.rd (by rfl) T.gS T.vi (pa_cons (pv 0) (pa_cons (pe_joined (.cons pe_str (.cons (pe_fmtA hr (pv 1)) (.cons pe_str .nil)))) pa_nil)))) (pss_one (ps_ost (pv 0) (pv 1)))), ?_⟩
    have c1 : (Str.empty ++ ("more than " : Str)).length ≤ 40 := by decide +kernel
    have c2 : (" statements are begun" : Str).length ≤ 40 := by decide +kernel
    refine ⟨_, rfl, _, rfl, Nat.le_trans c1 (by decide), ?_⟩
    refine ⟨_, rfl, hx, fun m hm => ⟨_, rfl, str_fit c1 hm (by decide), _, rfl, str_fit (str_in c1 hm) c2 (by decide), ?_⟩⟩
    refine ⟨a, C, _, rfl, by show 1 ≤ 1000; decide, TC, ha, ?_⟩
    refine ⟨_, rfl, _, rfl, a, C, rfl, TC, hno, .inl ⟨ha, fun dx hdx ne => ?_⟩⟩
    exact q dx _ hdx ne (fun b o hb e => by rw [upd_ne hb, upd_ne (ne_of_none e hdx)]; exact e) upd_same (by rw [upd_ne ne]; exact upd_same)
abbrev sI_NoTable : Stmt := inClass (top 9) 0
theorem scI_NoTable : FnScope ["self", "name"] ["self", "name"] (defScope sI_NoTable) := ⟨rfl, rfl, rfl, by decide +kernel, rfl, by decide +kernel, by decide +kernel⟩
theorem okI_NoTable {f : Addr} {fd : FuncData} (F : FunD K "__init__" "NoTable.__init__" (defArgs sI_NoTable) (defBody sI_NoTable) (defScope sI_NoTable) [] [] f fd) (T : TSe K mg S) : FnOk P w K mg base CX0 1 f fd ["self", "name"] (spEI K "name") := by
  refine F.ok scI_NoTable (fun vs H Q E h => ?_) (fun cdv A outer s H vs Q E hr h => ?_)
  · obtain ⟨a, C, x, rfl, _⟩ := h; rfl
  · obtain ⟨a, C, x, rfl, TC, hno, ha, hx, q⟩ := h
    refine ⟨_, PSs.nox (pss_cons (ps_expr (pe_seinit T.rd (by rfl) T.gS T.vi (pa_cons (pv 0) (pa_cons pe_str pa_nil)))) (pss_one (ps_ost (pv 0) (pv 1)))), ?_⟩
    refine ⟨_, rfl, a, C, _, rfl, by show 1 ≤ 1000; decide, TC, ha, ?_⟩
    refine ⟨_, rfl, _, rfl, a, C, rfl, TC, hno, .inl ⟨ha, fun dx hdx ne => ?_⟩⟩
    exact q dx _ hdx ne (fun b o hb e => by rw [upd_ne hb, upd_ne (ne_of_none e hdx)]; exact e) upd_same (by rw [upd_ne ne]; exact upd_same)
abbrev sI_NoRow : Stmt := inClass (top 10) 0
theorem scI_NoRow : FnScope ["self", "number"] ["self", "number"] (defScope sI_NoRow) := ⟨rfl, rfl, rfl, by decide +kernel, rfl, by decide +kernel, by decide +kernel⟩
theorem okI_NoRow {f : Addr} {fd : FuncData} (F : FunD K "__init__" "NoRow.__init__" (defArgs sI_NoRow) (defBody sI_NoRow) (defScope sI_NoRow) [] [] f fd) (T : TSe K mg S) : FnOk P w K mg base CX0 1 f fd ["self", "number"] (spEI K "number") := by
  refine F.ok scI_NoRow (fun vs H Q E h => ?_) (fun cdv A outer s H vs Q E hr h => ?_)
  · obtain ⟨a, C, x, rfl, _⟩ := h; rfl
  · obtain ⟨a, C, x, rfl, TC, hno, ha, hx, q⟩ := h
    refine ⟨_, PSs.nox (pss_cons (ps_expr (pe_seinit T.rd (by rfl) T.gS T.vi (pa_cons (pv 0) (pa_cons pe_str pa_nil)))) (pss_one (ps_ost (pv 0) (pv 1)))), ?_⟩
    refine ⟨_, rfl, a, C, _, rfl, by show 1 ≤ 1000; decide, TC, ha, ?_⟩
    refine ⟨_, rfl, _, rfl, a, C, rfl, TC, hno, .inl ⟨ha, fun dx hdx ne => ?_⟩⟩
    exact q dx _ hdx ne (fun b o hb e => by rw [upd_ne hb, upd_ne (ne_of_none e hdx)]; exact e) upd_same (by rw [upd_ne ne]; exact upd_same)
abbrev sI_Pinned : Stmt := inClass (top 12) 0
theorem scI_Pinned : FnScope ["self", "number"] ["self", "number"] (defScope sI_Pinned) := ⟨rfl, rfl, rfl, by decide +kernel, rfl, by decide +kernel, by decide +kernel⟩
theorem okI_Pinned {f : Addr} {fd : FuncData} (F : FunD K "__init__" "Pinned.__init__" (defArgs sI_Pinned) (defBody sI_Pinned) (defScope sI_Pinned) [] [] f fd) (T : TSe K mg S) : FnOk P w K mg base CX0 1 f fd ["self", "number"] (spEI K "number") := by
  refine F.ok scI_Pinned (fun vs H Q E h => ?_) (fun cdv A outer s H vs Q E hr h => ?_)
  · obtain ⟨a, C, x, rfl, _⟩ := h; rfl
  · obtain ⟨a, C, x, rfl, TC, hno, ha, hx, q⟩ := h
    refine ⟨_, PSs.nox (pss_cons (ps_expr (pe_seinit T.rd (by rfl) T.gS T.vi (pa_cons (pv 0) (pa_cons pe_str pa_nil)))) (pss_one (ps_ost (pv 0) (pv 1)))), ?_⟩
    refine ⟨_, rfl, a, C, _, rfl, by show 1 ≤ 1000; decide, TC, ha, ?_⟩
    refine ⟨_, rfl, _, rfl, a, C, rfl, TC, hno, .inl ⟨ha, fun dx hdx ne => ?_⟩⟩
    exact q dx _ hdx ne (fun b o hb e => by rw [upd_ne hb, upd_ne (ne_of_none e hdx)]; exact e) upd_same (by rw [upd_ne ne]; exact upd_same)
abbrev sI_Shared : Stmt := inClass (top 13) 0
theorem scI_Shared : FnScope ["self", "number"] ["self", "number"] (defScope sI_Shared) := ⟨rfl, rfl, rfl, by decide +kernel, rfl, by decide +kernel, by decide +kernel⟩
theorem okI_Shared {f : Addr} {fd : FuncData} (F : FunD K "__init__" "Shared.__init__" (defArgs sI_Shared) (defBody sI_Shared) (defScope sI_Shared) [] [] f fd) (T : TSe K mg S) : FnOk P w K mg base CX0 1 f fd ["self", "number"] (spEI K "number") := by
  refine F.ok scI_Shared (fun vs H Q E h => ?_) (fun cdv A outer s H vs Q E hr h => ?_)
  · obtain ⟨a, C, x, rfl, _⟩ := h; rfl
  · obtain ⟨a, C, x, rfl, TC, hno, ha, hx, q⟩ := h
    refine ⟨_, PSs.nox (pss_cons (ps_expr (pe_seinit T.rd (by rfl) T.gS T.vi (pa_cons (pv 0) (pa_cons pe_str pa_nil)))) (pss_one (ps_ost (pv 0) (pv 1)))), ?_⟩
    refine ⟨_, rfl, a, C, _, rfl, by show 1 ≤ 1000; decide, TC, ha, ?_⟩
    refine ⟨_, rfl, _, rfl, a, C, rfl, TC, hno, .inl ⟨ha, fun dx hdx ne => ?_⟩⟩
    exact q dx _ hdx ne (fun b o hb e => by rw [upd_ne hb, upd_ne (ne_of_none e hdx)]; exact e) upd_same (by rw [upd_ne ne]; exact upd_same)
abbrev sI_NoThaw : Stmt := inClass (top 14) 0
theorem scI_NoThaw : FnScope ["self", "at"] ["self", "at"] (defScope sI_NoThaw) := ⟨rfl, rfl, rfl, by decide +kernel, rfl, by decide +kernel, by decide +kernel⟩
theorem okI_NoThaw {f : Addr} {fd : FuncData} (F : FunD K "__init__" "NoThaw.__init__" (defArgs sI_NoThaw) (defBody sI_NoThaw) (defScope sI_NoThaw) [] [] f fd) (T : TSe K mg S) : FnOk P w K mg base CX0 1 f fd ["self", "at"] (spEI K "at") := by
  refine F.ok scI_NoThaw (fun vs H Q E h => ?_) (fun cdv A outer s H vs Q E hr h => ?_)
  · obtain ⟨a, C, x, rfl, _⟩ := h; rfl
  · obtain ⟨a, C, x, rfl, TC, hno, ha, hx, q⟩ := h
    refine ⟨_, PSs.nox (pss_cons (ps_expr (pe_seinit T.rd (by rfl) T.gS T.vi (pa_cons (pv 0) (pa_cons (pe_joined (.cons pe_str (.cons (pe_fmtA hr (pv 1)) (.cons pe_str .nil)))) pa_nil)))) (pss_one (ps_ost (pv 0) (pv 1)))), ?_⟩
    have c1 : (Str.empty ++ ("maker " : Str)).length ≤ 40 := by decide +kernel
    have c2 : (" of the text can't be thawed" : Str).length ≤ 40 := by decide +kernel
    refine ⟨_, rfl, _, rfl, Nat.le_trans c1 (by decide), ?_⟩
    refine ⟨_, rfl, hx, fun m hm => ⟨_, rfl, str_fit c1 hm (by decide), _, rfl, str_fit (str_in c1 hm) c2 (by decide), ?_⟩⟩
    refine ⟨a, C, _, rfl, by show 1 ≤ 1000; decide, TC, ha, ?_⟩
    refine ⟨_, rfl, _, rfl, a, C, rfl, TC, hno, .inl ⟨ha, fun dx hdx ne => ?_⟩⟩
    exact q dx _ hdx ne (fun b o hb e => by rw [upd_ne hb, upd_ne (ne_of_none e hdx)]; exact e) upd_same (by rw [upd_ne ne]; exact upd_same)
abbrev sI_NoLog : Stmt := inClass (top 15) 0
theorem scI_NoLog : FnScope ["self", "at"] ["self", "at"] (defScope sI_NoLog) := ⟨rfl, rfl, rfl, by decide +kernel, rfl, by decide +kernel, by decide +kernel⟩
theorem okI_NoLog {f : Addr} {fd : FuncData} (F : FunD K "__init__" "NoLog.__init__" (defArgs sI_NoLog) (defBody sI_NoLog) (defScope sI_NoLog) [] [] f fd) (T : TSe K mg S) : FnOk P w K mg base CX0 1 f fd ["self", "at"] (spEI K "at") := by
  refine F.ok scI_NoLog (fun vs H Q E h => ?_) (fun cdv A outer s H vs Q E hr h => ?_)
  · obtain ⟨a, C, x, rfl, _⟩ := h; rfl
  · obtain ⟨a, C, x, rfl, TC, hno, ha, hx, q⟩ := h
    refine ⟨_, PSs.nox (pss_cons (ps_expr (pe_seinit T.rd (by rfl) T.gS T.vi (pa_cons (pv 0) (pa_cons (pe_joined (.cons pe_str (.cons (pe_fmtA hr (pv 1)) (.cons pe_str .nil)))) pa_nil)))) (pss_one (ps_ost (pv 0) (pv 1)))), ?_⟩
    have c1 : (Str.empty ++ ("row " : Str)).length ≤ 40 := by decide +kernel
    have c2 : (" of the log isn't so" : Str).length ≤ 40 := by decide +kernel
    refine ⟨_, rfl, _, rfl, Nat.le_trans c1 (by decide), ?_⟩
    refine ⟨_, rfl, hx, fun m hm => ⟨_, rfl, str_fit c1 hm (by decide), _, rfl, str_fit (str_in c1 hm) c2 (by decide), ?_⟩⟩
    refine ⟨a, C, _, rfl, by show 1 ≤ 1000; decide, TC, ha, ?_⟩
    refine ⟨_, rfl, _, rfl, a, C, rfl, TC, hno, .inl ⟨ha, fun dx hdx ne => ?_⟩⟩
    exact q dx _ hdx ne (fun b o hb e => by rw [upd_ne hb, upd_ne (ne_of_none e hdx)]; exact e) upd_same (by rw [upd_ne ne]; exact upd_same)
abbrev sI_NoHouse : Stmt := inClass (top 16) 0
theorem scI_NoHouse : FnScope ["self", "number"] ["self", "number"] (defScope sI_NoHouse) := ⟨rfl, rfl, rfl, by decide +kernel, rfl, by decide +kernel, by decide +kernel⟩
theorem okI_NoHouse {f : Addr} {fd : FuncData} (F : FunD K "__init__" "NoHouse.__init__" (defArgs sI_NoHouse) (defBody sI_NoHouse) (defScope sI_NoHouse) [] [] f fd) (T : TSe K mg S) : FnOk P w K mg base CX0 1 f fd ["self", "number"] (spEI K "number") := by
  refine F.ok scI_NoHouse (fun vs H Q E h => ?_) (fun cdv A outer s H vs Q E hr h => ?_)
  · obtain ⟨a, C, x, rfl, _⟩ := h; rfl
  · obtain ⟨a, C, x, rfl, TC, hno, ha, hx, q⟩ := h
    refine ⟨_, PSs.nox (pss_cons (ps_expr (pe_seinit T.rd (by rfl) T.gS T.vi (pa_cons (pv 0) (pa_cons pe_str pa_nil)))) (pss_one (ps_ost (pv 0) (pv 1)))), ?_⟩
    refine ⟨_, rfl, a, C, _, rfl, by show 1 ≤ 1000; decide, TC, ha, ?_⟩
    refine ⟨_, rfl, _, rfl, a, C, rfl, TC, hno, .inl ⟨ha, fun dx hdx ne => ?_⟩⟩
    exact q dx _ hdx ne (fun b o hb e => by rw [upd_ne hb, upd_ne (ne_of_none e hdx)]; exact e) upd_same (by rw [upd_ne ne]; exact upd_same)
abbrev sI_NoPost : Stmt := inClass (top 17) 0
theorem scI_NoPost : FnScope ["self", "house"] ["self", "house"] (defScope sI_NoPost) := ⟨rfl, rfl, rfl, by decide +kernel, rfl, by decide +kernel, by decide +kernel⟩
theorem okI_NoPost {f : Addr} {fd : FuncData} (F : FunD K "__init__" "NoPost.__init__" (defArgs sI_NoPost) (defBody sI_NoPost) (defScope sI_NoPost) [] [] f fd) (T : TSe K mg S) : FnOk P w K mg base CX0 1 f fd ["self", "house"] (spEI K "house") := by
  refine F.ok scI_NoPost (fun vs H Q E h => ?_) (fun cdv A outer s H vs Q E hr h => ?_)
  · obtain ⟨a, C, x, rfl, _⟩ := h; rfl
  · obtain ⟨a, C, x, rfl, TC, hno, ha, hx, q⟩ := h
    refine ⟨_, PSs.nox (pss_cons (ps_expr (pe_seinit T.rd (by rfl) T.gS T.vi (pa_cons (pv 0) (pa_cons pe_str pa_nil)))) (pss_one (ps_ost (pv 0) (pv 1)))), ?_⟩
    refine ⟨_, rfl, a, C, _, rfl, by show 1 ≤ 1000; decide, TC, ha, ?_⟩
    refine ⟨_, rfl, _, rfl, a, C, rfl, TC, hno, .inl ⟨ha, fun dx hdx ne => ?_⟩⟩
    exact q dx _ hdx ne (fun b o hb e => by rw [upd_ne hb, upd_ne (ne_of_none e hdx)]; exact e) upd_same (by rw [upd_ne ne]; exact upd_same)
end
end K10
set_option Elab.async false
set_option linter.all false
set_option maxRecDepth 100000
set_option maxHeartbeats 4000000
namespace K10
open PySem PySem.Spec PyProof.Rows L2 Evl LK
/-! the kinds of an exception -/
structure TCs (K : PySem.W.Frag) (mg : Str → Option Value) (S : Addr) (Cs : Nat → Addr) : Prop where
  g0 : mg "NoBook" = some (.ref (Cs 0))
  g1 : mg "NoText" = some (.ref (Cs 1))
  g2 : mg "NoName" = some (.ref (Cs 2))
  g3 : mg "NoTable" = some (.ref (Cs 3))
  g4 : mg "NoMaker" = some (.ref (Cs 4))
  g5 : mg "NoRow" = some (.ref (Cs 5))
  g6 : mg "Pinned" = some (.ref (Cs 6))
  g7 : mg "Shared" = some (.ref (Cs 7))
  g8 : mg "NoHouse" = some (.ref (Cs 8))
  g9 : mg "NoThaw" = some (.ref (Cs 9))
  g10 : mg "NoLog" = some (.ref (Cs 10))
  g11 : mg "TooLong" = some (.ref (Cs 11))
  g12 : mg "NoPost" = some (.ref (Cs 12))
  g13 : mg "NoThings" = some (.ref (Cs 13))
  g14 : mg "NoWorth" = some (.ref (Cs 14))
  g15 : mg "NoWay" = some (.ref (Cs 15))
  g16 : mg "NoFall" = some (.ref (Cs 16))
  ex : ∀ i, i < 17 → ExK K (Cs i)
  kit : ∀ i j, i < 17 → j < 17 → PySem.W.kitOne K (.ref (Cs i)) (.ref (Cs j)) = some (decide (i = j))
  ve : ∀ i, i < 17 → PySem.W.kitOne K (.ref (Cs i)) (.type "ValueError") = some true
  se : ∀ i, i < 17 → PySem.W.kitOne K (.ref (Cs i)) (.ref S) = some true
def kindsL (i : Nat) : List V := (List.range 17).map fun j => V.bl (decide (i = j))
def spKinds (Cs : Nat → Addr) : Sp := fun vs H Q _ => ∃ (a : Addr) (i : Nat), vs = [.ref a] ∧ i < 17 ∧ ExI H a (Cs i) ∧ ∀ (D : Addr) (H' : Hp), H D = none → Same H H' → H' D = some (.lst (kindsL i)) → Q (.ref D) H'
section
variable {P : Program} {w : World} {K : PySem.W.Frag} {mg : Str → Option Value} {base : Heap} {S : Addr} {Cs : Nat → Addr}
theorem scKinds : FnScope ["e", "found"] ["e"] (defScope s_law_kinds) := ⟨rfl, rfl, rfl, by decide +kernel, rfl, by decide +kernel, by decide +kernel⟩
theorem ok_kinds {f : Addr} {fd : FuncData} (F : FnP K "_law_kinds" s_law_kinds f fd) (T : TCs K mg S Cs) (isi : mg "isinstance" = none) : FnOk P w K mg base CX0 1 f fd ["e"] (spKinds Cs) := by
  have nd := scKinds.nd
  refine F.ok scKinds (fun vs H Q E h => ?_) (fun cdv A outer s H vs Q E hr h => ?_)
  · obtain ⟨a, i, rfl, _⟩ := h; rfl
  · obtain ⟨a, i, rfl, hi, he, q⟩ := h
    have small : ∀ {a : Nat}, a ≤ 1000000 → a ≤ sizeLine := fun h => Nat.le_trans h (by decide)
    refine ⟨_, PSs.nox (pss_cons (ps_set (i := 1) nd rfl (Or.inl rfl) (pe_lst (pa_cons (pe_callB (id := "isinstance") (r := rIsEx K) call_isEx (by rfl) isi (by decide +kernel) (pa_cons (pv 0) (pa_cons (pe_glob (v := .ref (Cs 0)) rfl T.g0 rfl) pa_nil))) (pa_cons (pe_callB (id := "isinstance") (r := rIsEx K) call_isEx (by rfl) isi (by decide +kernel) (pa_cons (pv 0) (pa_cons (pe_glob (v := .ref (Cs 1)) rfl T.g1 rfl) pa_nil))) (pa_cons (pe_callB (id := "isinstance") (r := rIsEx K) call_isEx (by rfl) isi (by decide +kernel) (pa_cons (pv 0) (pa_cons (pe_glob (v := .ref (Cs 2)) rfl T.g2 rfl) pa_nil))) (pa_cons (pe_callB (id := "isinstance") (r := rIsEx K) call_isEx (by rfl) isi (by decide +kernel) (pa_cons (pv 0) (pa_cons (pe_glob (v := .ref (Cs 3)) rfl T.g3 rfl) pa_nil))) pa_nil))))))
      (pss_cons (ps_set (i := 1) nd rfl (Or.inl rfl) (pe_op op_cat (pv 1) (pe_lst (pa_cons (pe_callB (id := "isinstance") (r := rIsEx K) call_isEx (by rfl) isi (by decide +kernel) (pa_cons (pv 0) (pa_cons (pe_glob (v := .ref (Cs 4)) rfl T.g4 rfl) pa_nil))) (pa_cons (pe_callB (id := "isinstance") (r := rIsEx K) call_isEx (by rfl) isi (by decide +kernel) (pa_cons (pv 0) (pa_cons (pe_glob (v := .ref (Cs 5)) rfl T.g5 rfl) pa_nil))) (pa_cons (pe_callB (id := "isinstance") (r := rIsEx K) call_isEx (by rfl) isi (by decide +kernel) (pa_cons (pv 0) (pa_cons (pe_glob (v := .ref (Cs 6)) rfl T.g6 rfl) pa_nil))) (pa_cons (pe_callB (id := "isinstance") (r := rIsEx K) call_isEx (by rfl) isi (by decide +kernel) (pa_cons (pv 0) (pa_cons (pe_glob (v := .ref (Cs 7)) rfl T.g7 rfl) pa_nil))) pa_nil)))))))
      (pss_cons (ps_set (i := 1) nd rfl (Or.inl rfl) (pe_op op_cat (pv 1) (pe_lst (pa_cons (pe_callB (id := "isinstance") (r := rIsEx K) call_isEx (by rfl) isi (by decide +kernel) (pa_cons (pv 0) (pa_cons (pe_glob (v := .ref (Cs 8)) rfl T.g8 rfl) pa_nil))) (pa_cons (pe_callB (id := "isinstance") (r := rIsEx K) call_isEx (by rfl) isi (by decide +kernel) (pa_cons (pv 0) (pa_cons (pe_glob (v := .ref (Cs 9)) rfl T.g9 rfl) pa_nil))) (pa_cons (pe_callB (id := "isinstance") (r := rIsEx K) call_isEx (by rfl) isi (by decide +kernel) (pa_cons (pv 0) (pa_cons (pe_glob (v := .ref (Cs 10)) rfl T.g10 rfl) pa_nil))) (pa_cons (pe_callB (id := "isinstance") (r := rIsEx K) call_isEx (by rfl) isi (by decide +kernel) (pa_cons (pv 0) (pa_cons (pe_glob (v := .ref (Cs 11)) rfl T.g11 rfl) pa_nil))) pa_nil)))))))
      (pss_cons (ps_set (i := 1) nd rfl (Or.inl rfl) (pe_op op_cat (pv 1) (pe_lst (pa_cons (pe_callB (id := "isinstance") (r := rIsEx K) call_isEx (by rfl) isi (by decide +kernel) (pa_cons (pv 0) (pa_cons (pe_glob (v := .ref (Cs 12)) rfl T.g12 rfl) pa_nil))) (pa_cons (pe_callB (id := "isinstance") (r := rIsEx K) call_isEx (by rfl) isi (by decide +kernel) (pa_cons (pv 0) (pa_cons (pe_glob (v := .ref (Cs 13)) rfl T.g13 rfl) pa_nil))) (pa_cons (pe_callB (id := "isinstance") (r := rIsEx K) call_isEx (by rfl) isi (by decide +kernel) (pa_cons (pv 0) (pa_cons (pe_glob (v := .ref (Cs 14)) rfl T.g14 rfl) pa_nil))) (pa_cons (pe_callB (id := "isinstance") (r := rIsEx K) call_isEx (by rfl) isi (by decide +kernel) (pa_cons (pv 0) (pa_cons (pe_glob (v := .ref (Cs 15)) rfl T.g15 rfl) pa_nil))) pa_nil)))))))
      (pss_one (ps_ret (pe_op op_cat (pv 1) (pe_lst (pa_cons (pe_callB (id := "isinstance") (r := rIsEx K) call_isEx (by rfl) isi (by decide +kernel) (pa_cons (pv 0) (pa_cons (pe_glob (v := .ref (Cs 16)) rfl T.g16 rfl) pa_nil))) pa_nil))))))))), ?_⟩
    refine ⟨_, rfl, a, Cs i, .ref (Cs 0), .ref (Cs 0), decide (i = 0), rfl, .own _, he, T.ex i hi, T.kit i 0 hi (by decide), ?_⟩
    refine ⟨_, rfl, a, Cs i, .ref (Cs 1), .ref (Cs 1), decide (i = 1), rfl, .own _, he, T.ex i hi, T.kit i 1 hi (by decide), ?_⟩
    refine ⟨_, rfl, a, Cs i, .ref (Cs 2), .ref (Cs 2), decide (i = 2), rfl, .own _, he, T.ex i hi, T.kit i 2 hi (by decide), ?_⟩
    refine ⟨_, rfl, a, Cs i, .ref (Cs 3), .ref (Cs 3), decide (i = 3), rfl, .own _, he, T.ex i hi, T.kit i 3 hi (by decide), ?_⟩
    refine ⟨by show 4 ≤ sizeLine; decide, fun f0 hf0 => ?_⟩
    have s0 : Same H (upd H f0 (.lst [.bl (decide (i = 0)), .bl (decide (i = 1)), .bl (decide (i = 2)), .bl (decide (i = 3))])) := same_new hf0
    have k0 : upd H f0 (.lst [.bl (decide (i = 0)), .bl (decide (i = 1)), .bl (decide (i = 2)), .bl (decide (i = 3))]) f0 = some (.lst [.bl (decide (i = 0)), .bl (decide (i = 1)), .bl (decide (i = 2)), .bl (decide (i = 3))]) := upd_same
    generalize upd H f0 (.lst [.bl (decide (i = 0)), .bl (decide (i = 1)), .bl (decide (i = 2)), .bl (decide (i = 3))]) = H0 at s0 k0
    have he0 := he.same s0
    refine ⟨_, rfl, ?_⟩
    refine ⟨_, rfl, a, Cs i, .ref (Cs 4), .ref (Cs 4), decide (i = 4), rfl, .own _, he0, T.ex i hi, T.kit i 4 hi (by decide), ?_⟩
    refine ⟨_, rfl, a, Cs i, .ref (Cs 5), .ref (Cs 5), decide (i = 5), rfl, .own _, he0, T.ex i hi, T.kit i 5 hi (by decide), ?_⟩
    refine ⟨_, rfl, a, Cs i, .ref (Cs 6), .ref (Cs 6), decide (i = 6), rfl, .own _, he0, T.ex i hi, T.kit i 6 hi (by decide), ?_⟩
    refine ⟨_, rfl, a, Cs i, .ref (Cs 7), .ref (Cs 7), decide (i = 7), rfl, .own _, he0, T.ex i hi, T.kit i 7 hi (by decide), ?_⟩
    refine ⟨by show 4 ≤ sizeLine; decide, fun g1 hg1 => ?_⟩
    refine ⟨f0, g1, _, _, rfl, rfl, same_new hg1 _ _ k0, upd_same, small (by simp only [List.length_cons, List.length_nil]; omega), fun f1 hf1 => ?_⟩
    have t1 : Same H0 (upd (upd H0 g1 (.lst [.bl (decide (i = 4)), .bl (decide (i = 5)), .bl (decide (i = 6)), .bl (decide (i = 7))])) f1 (.lst ([.bl (decide (i = 0)), .bl (decide (i = 1)), .bl (decide (i = 2)), .bl (decide (i = 3))] ++ [.bl (decide (i = 4)), .bl (decide (i = 5)), .bl (decide (i = 6)), .bl (decide (i = 7))]))) := fun _ _ e => same_new hf1 _ _ (same_new hg1 _ _ e)
    have k1 : upd (upd H0 g1 (.lst [.bl (decide (i = 4)), .bl (decide (i = 5)), .bl (decide (i = 6)), .bl (decide (i = 7))])) f1 (.lst ([.bl (decide (i = 0)), .bl (decide (i = 1)), .bl (decide (i = 2)), .bl (decide (i = 3))] ++ [.bl (decide (i = 4)), .bl (decide (i = 5)), .bl (decide (i = 6)), .bl (decide (i = 7))])) f1 = some (.lst [.bl (decide (i = 0)), .bl (decide (i = 1)), .bl (decide (i = 2)), .bl (decide (i = 3)), .bl (decide (i = 4)), .bl (decide (i = 5)), .bl (decide (i = 6)), .bl (decide (i = 7))]) := upd_same
    generalize upd (upd H0 g1 (.lst [.bl (decide (i = 4)), .bl (decide (i = 5)), .bl (decide (i = 6)), .bl (decide (i = 7))])) f1 (.lst ([.bl (decide (i = 0)), .bl (decide (i = 1)), .bl (decide (i = 2)), .bl (decide (i = 3))] ++ [.bl (decide (i = 4)), .bl (decide (i = 5)), .bl (decide (i = 6)), .bl (decide (i = 7))])) = H1 at t1 k1
    have s1 : Same H H1 := fun _ _ e => t1 _ _ (s0 _ _ e)
    have he1 := he.same s1
    refine ⟨_, rfl, ?_⟩
    refine ⟨_, rfl, a, Cs i, .ref (Cs 8), .ref (Cs 8), decide (i = 8), rfl, .own _, he1, T.ex i hi, T.kit i 8 hi (by decide), ?_⟩
    refine ⟨_, rfl, a, Cs i, .ref (Cs 9), .ref (Cs 9), decide (i = 9), rfl, .own _, he1, T.ex i hi, T.kit i 9 hi (by decide), ?_⟩
    refine ⟨_, rfl, a, Cs i, .ref (Cs 10), .ref (Cs 10), decide (i = 10), rfl, .own _, he1, T.ex i hi, T.kit i 10 hi (by decide), ?_⟩
    refine ⟨_, rfl, a, Cs i, .ref (Cs 11), .ref (Cs 11), decide (i = 11), rfl, .own _, he1, T.ex i hi, T.kit i 11 hi (by decide), ?_⟩
    refine ⟨by show 4 ≤ sizeLine; decide, fun g2 hg2 => ?_⟩
    refine ⟨f1, g2, _, _, rfl, rfl, same_new hg2 _ _ k1, upd_same, small (by simp only [List.length_cons, List.length_nil]; omega), fun f2 hf2 => ?_⟩
    have t2 : Same H1 (upd (upd H1 g2 (.lst [.bl (decide (i = 8)), .bl (decide (i = 9)), .bl (decide (i = 10)), .bl (decide (i = 11))])) f2 (.lst ([.bl (decide (i = 0)), .bl (decide (i = 1)), .bl (decide (i = 2)), .bl (decide (i = 3)), .bl (decide (i = 4)), .bl (decide (i = 5)), .bl (decide (i = 6)), .bl (decide (i = 7))] ++ [.bl (decide (i = 8)), .bl (decide (i = 9)), .bl (decide (i = 10)), .bl (decide (i = 11))]))) := fun _ _ e => same_new hf2 _ _ (same_new hg2 _ _ e)
    have k2 : upd (upd H1 g2 (.lst [.bl (decide (i = 8)), .bl (decide (i = 9)), .bl (decide (i = 10)), .bl (decide (i = 11))])) f2 (.lst ([.bl (decide (i = 0)), .bl (decide (i = 1)), .bl (decide (i = 2)), .bl (decide (i = 3)), .bl (decide (i = 4)), .bl (decide (i = 5)), .bl (decide (i = 6)), .bl (decide (i = 7))] ++ [.bl (decide (i = 8)), .bl (decide (i = 9)), .bl (decide (i = 10)), .bl (decide (i = 11))])) f2 = some (.lst [.bl (decide (i = 0)), .bl (decide (i = 1)), .bl (decide (i = 2)), .bl (decide (i = 3)), .bl (decide (i = 4)), .bl (decide (i = 5)), .bl (decide (i = 6)), .bl (decide (i = 7)), .bl (decide (i = 8)), .bl (decide (i = 9)), .bl (decide (i = 10)), .bl (decide (i = 11))]) := upd_same
    generalize upd (upd H1 g2 (.lst [.bl (decide (i = 8)), .bl (decide (i = 9)), .bl (decide (i = 10)), .bl (decide (i = 11))])) f2 (.lst ([.bl (decide (i = 0)), .bl (decide (i = 1)), .bl (decide (i = 2)), .bl (decide (i = 3)), .bl (decide (i = 4)), .bl (decide (i = 5)), .bl (decide (i = 6)), .bl (decide (i = 7))] ++ [.bl (decide (i = 8)), .bl (decide (i = 9)), .bl (decide (i = 10)), .bl (decide (i = 11))])) = H2 at t2 k2
    have s2 : Same H H2 := fun _ _ e => t2 _ _ (s1 _ _ e)
    have he2 := he.same s2
    refine ⟨_, rfl, ?_⟩
    refine ⟨_, rfl, a, Cs i, .ref (Cs 12), .ref (Cs 12), decide (i = 12), rfl, .own _, he2, T.ex i hi, T.kit i 12 hi (by decide), ?_⟩
    refine ⟨_, rfl, a, Cs i, .ref (Cs 13), .ref (Cs 13), decide (i = 13), rfl, .own _, he2, T.ex i hi, T.kit i 13 hi (by decide), ?_⟩
    refine ⟨_, rfl, a, Cs i, .ref (Cs 14), .ref (Cs 14), decide (i = 14), rfl, .own _, he2, T.ex i hi, T.kit i 14 hi (by decide), ?_⟩
    refine ⟨_, rfl, a, Cs i, .ref (Cs 15), .ref (Cs 15), decide (i = 15), rfl, .own _, he2, T.ex i hi, T.kit i 15 hi (by decide), ?_⟩
    refine ⟨by show 4 ≤ sizeLine; decide, fun g3 hg3 => ?_⟩
    refine ⟨f2, g3, _, _, rfl, rfl, same_new hg3 _ _ k2, upd_same, small (by simp only [List.length_cons, List.length_nil]; omega), fun f3 hf3 => ?_⟩
    have t3 : Same H2 (upd (upd H2 g3 (.lst [.bl (decide (i = 12)), .bl (decide (i = 13)), .bl (decide (i = 14)), .bl (decide (i = 15))])) f3 (.lst ([.bl (decide (i = 0)), .bl (decide (i = 1)), .bl (decide (i = 2)), .bl (decide (i = 3)), .bl (decide (i = 4)), .bl (decide (i = 5)), .bl (decide (i = 6)), .bl (decide (i = 7)), .bl (decide (i = 8)), .bl (decide (i = 9)), .bl (decide (i = 10)), .bl (decide (i = 11))] ++ [.bl (decide (i = 12)), .bl (decide (i = 13)), .bl (decide (i = 14)), .bl (decide (i = 15))]))) := fun _ _ e => same_new hf3 _ _ (same_new hg3 _ _ e)
    have k3 : upd (upd H2 g3 (.lst [.bl (decide (i = 12)), .bl (decide (i = 13)), .bl (decide (i = 14)), .bl (decide (i = 15))])) f3 (.lst ([.bl (decide (i = 0)), .bl (decide (i = 1)), .bl (decide (i = 2)), .bl (decide (i = 3)), .bl (decide (i = 4)), .bl (decide (i = 5)), .bl (decide (i = 6)), .bl (decide (i = 7)), .bl (decide (i = 8)), .bl (decide (i = 9)), .bl (decide (i = 10)), .bl (decide (i = 11))] ++ [.bl (decide (i = 12)), .bl (decide (i = 13)), .bl (decide (i = 14)), .bl (decide (i = 15))])) f3 = some (.lst [.bl (decide (i = 0)), .bl (decide (i = 1)), .bl (decide (i = 2)), .bl (decide (i = 3)), .bl (decide (i = 4)), .bl (decide (i = 5)), .bl (decide (i = 6)), .bl (decide (i = 7)), .bl (decide (i = 8)), .bl (decide (i = 9)), .bl (decide (i = 10)), .bl (decide (i = 11)), .bl (decide (i = 12)), .bl (decide (i = 13)), .bl (decide (i = 14)), .bl (decide (i = 15))]) := upd_same
    generalize upd (upd H2 g3 (.lst [.bl (decide (i = 12)), .bl (decide (i = 13)), .bl (decide (i = 14)), .bl (decide (i = 15))])) f3 (.lst ([.bl (decide (i = 0)), .bl (decide (i = 1)), .bl (decide (i = 2)), .bl (decide (i = 3)), .bl (decide (i = 4)), .bl (decide (i = 5)), .bl (decide (i = 6)), .bl (decide (i = 7)), .bl (decide (i = 8)), .bl (decide (i = 9)), .bl (decide (i = 10)), .bl (decide (i = 11))] ++ [.bl (decide (i = 12)), .bl (decide (i = 13)), .bl (decide (i = 14)), .bl (decide (i = 15))])) = H3 at t3 k3
    have s3 : Same H H3 := fun _ _ e => t3 _ _ (s2 _ _ e)
    have he3 := he.same s3
    refine ⟨_, rfl, ?_⟩
    refine ⟨_, rfl, a, Cs i, .ref (Cs 16), .ref (Cs 16), decide (i = 16), rfl, .own _, he3, T.ex i hi, T.kit i 16 hi (by decide), ?_⟩
    refine ⟨by show 1 ≤ sizeLine; decide, fun g4 hg4 => ?_⟩
    refine ⟨f3, g4, _, _, rfl, rfl, same_new hg4 _ _ k3, upd_same, small (by simp only [List.length_cons, List.length_nil]; omega), fun f4 hf4 => ?_⟩
    have t4 : Same H3 (upd (upd H3 g4 (.lst [.bl (decide (i = 16))])) f4 (.lst ([.bl (decide (i = 0)), .bl (decide (i = 1)), .bl (decide (i = 2)), .bl (decide (i = 3)), .bl (decide (i = 4)), .bl (decide (i = 5)), .bl (decide (i = 6)), .bl (decide (i = 7)), .bl (decide (i = 8)), .bl (decide (i = 9)), .bl (decide (i = 10)), .bl (decide (i = 11)), .bl (decide (i = 12)), .bl (decide (i = 13)), .bl (decide (i = 14)), .bl (decide (i = 15))] ++ [.bl (decide (i = 16))]))) := fun _ _ e => same_new hf4 _ _ (same_new hg4 _ _ e)
    have k4 : upd (upd H3 g4 (.lst [.bl (decide (i = 16))])) f4 (.lst ([.bl (decide (i = 0)), .bl (decide (i = 1)), .bl (decide (i = 2)), .bl (decide (i = 3)), .bl (decide (i = 4)), .bl (decide (i = 5)), .bl (decide (i = 6)), .bl (decide (i = 7)), .bl (decide (i = 8)), .bl (decide (i = 9)), .bl (decide (i = 10)), .bl (decide (i = 11)), .bl (decide (i = 12)), .bl (decide (i = 13)), .bl (decide (i = 14)), .bl (decide (i = 15))] ++ [.bl (decide (i = 16))])) f4 = some (.lst [.bl (decide (i = 0)), .bl (decide (i = 1)), .bl (decide (i = 2)), .bl (decide (i = 3)), .bl (decide (i = 4)), .bl (decide (i = 5)), .bl (decide (i = 6)), .bl (decide (i = 7)), .bl (decide (i = 8)), .bl (decide (i = 9)), .bl (decide (i = 10)), .bl (decide (i = 11)), .bl (decide (i = 12)), .bl (decide (i = 13)), .bl (decide (i = 14)), .bl (decide (i = 15)), .bl (decide (i = 16))]) := upd_same
    have nf : H f4 = none := (show Same H (upd H3 g4 _) from fun _ _ e => same_new hg4 _ _ (s3 _ _ e)).free hf4
    exact q f4 _ nf (fun _ _ e => t4 _ _ (s3 _ _ e)) k4
end
end K10
set_option Elab.async false
set_option linter.all false
set_option maxRecDepth 100000
set_option maxHeartbeats 4000000
namespace K10
open PySem PySem.Spec PyProof.Rows L2 Evl LK
/-! all refusals, made of one thing -/
structure ExM (P : Program) (w : World) (K : PySem.W.Frag) (mg : Str → Option Value) (base : Heap) (C fI : Addr) (fd : FuncData) (f : Str) : Prop where
  ox : OexC K C
  iC : PySem.W.findIn K (.ref C) "__init__" = some (some (.ref fI))
  tI : PySem.W.typeIn K (.ref fI) = some (.type "function")
  ok : FnOk P w K mg base CX0 1 fI fd ["self", f] (spEI K f)
  bi : Binds K fd ["self", f] []
  kb : KBn K fd ["self", f] 1 [f] (fun us ws => us ++ ws) (fun vs zs => vs ++ zs)
  no : PySem.W.findIn K (.ref C) f = some none
  xf : XfC K C
abbrev veMro : List Value := [.type "ValueError", .type "Exception", .type "BaseException", .type "object"]
structure TAl (P : Program) (w : World) (K : PySem.W.Frag) (mg : Str → Option Value) (base : Heap) (S : Addr) (Cs fI : Nat → Addr) (fd : Nat → FuncData) : Prop where
  cs : TCs K mg S Cs
  m0 : ExM P w K mg base (Cs 0) (fI 0) (fd 0) "at"
  m1 : ExM P w K mg base (Cs 1) (fI 1) (fd 1) "row"
  m2 : ExM P w K mg base (Cs 2) (fI 2) (fd 2) "name"
  m3 : ExM P w K mg base (Cs 3) (fI 3) (fd 3) "name"
  m4 : ExM P w K mg base (Cs 4) (fI 4) (fd 4) "number"
  m5 : ExM P w K mg base (Cs 5) (fI 5) (fd 5) "number"
  m6 : ExM P w K mg base (Cs 6) (fI 6) (fd 6) "number"
  m7 : ExM P w K mg base (Cs 7) (fI 7) (fd 7) "number"
  m8 : ExM P w K mg base (Cs 8) (fI 8) (fd 8) "number"
  m9 : ExM P w K mg base (Cs 9) (fI 9) (fd 9) "at"
  m10 : ExM P w K mg base (Cs 10) (fI 10) (fd 10) "at"
  m11 : ExM P w K mg base (Cs 11) (fI 11) (fd 11) "most"
  m12 : ExM P w K mg base (Cs 12) (fI 12) (fd 12) "house"
  x13 : PySem.W.excIn K (Cs 13) veMro "ValueError.__new__" = true ∧ PySem.W.keepIn K (.ref (Cs 13)) = true
  x14 : PySem.W.excIn K (Cs 14) veMro "ValueError.__new__" = true ∧ PySem.W.keepIn K (.ref (Cs 14)) = true
  x15 : PySem.W.excIn K (Cs 15) veMro "ValueError.__new__" = true ∧ PySem.W.keepIn K (.ref (Cs 15)) = true
  x16 : PySem.W.excIn K (Cs 16) veMro "ValueError.__new__" = true ∧ PySem.W.keepIn K (.ref (Cs 16)) = true
/-- an exception of the j-th class, x its field f -/
def Ex1 (Cs : Nat → Addr) (f : Str) (x : V) (H : Hp) (a : Addr) (j : Nat) : Prop := ∃ d, H a = some (exo a (Cs j) (some d)) ∧ H d = some (exd d [(f, x)])
section
variable {Cs : Nat → Addr} {f : Str} {x v : V} {H H' : Hp} {a F : Addr} {j : Nat}
theorem Ex1.same (h : Ex1 Cs f x H a j) (s : Same H H') : Ex1 Cs f x H' a j := let ⟨d, e1, e2⟩ := h; ⟨d, s _ _ e1, s _ _ e2⟩
theorem Ex1.exi (h : Ex1 Cs f x H a j) : ExI H a (Cs j) := let ⟨_, e1, e2⟩ := h; .of_exo e1 e2
/-- all but the list at F -/
def Kp (F : Addr) (H H' : Hp) : Prop := ∀ b o, b ≠ F → H b = some o → H' b = some o
theorem kp_same (s : Same H H') : Kp F H H' := fun b o _ e => s b o e
theorem Kp.trans {H2 : Hp} (a : Kp F H H') (b : Kp F H' H2) : Kp F H H2 := fun c o h e => b c o h (a c o h e)
theorem ext_ne {ys : List V} {φ : Heap → Prop} (hF : H F = some (.lst ys)) (e : H a = some (.ext φ)) : a ≠ F := fun z => by rw [z, hF] at e; cases e
theorem exi_kp {C : Addr} {ys : List V} (h : ExI H a C) (hF : H F = some (.lst ys)) (k : Kp F H H') : ExI H' a C := by
  rcases h with ⟨φ, e, g⟩ | ⟨φ, d, fs, e, ed, g⟩
  · exact .inl ⟨φ, k _ _ (ext_ne hF e) e, g⟩
  · refine .inr ⟨φ, d, fs, k _ _ (ext_ne hF e) e, ?_, g⟩
    rcases ed with ed | ed
    · exact .inl (k _ _ (fun z => by rw [z, hF] at ed; cases ed) ed)
    · exact .inr (k _ _ (fun z => by rw [z, hF] at ed; cases ed) ed)
theorem ex1_kp {ys : List V} (h : Ex1 Cs f x H a j) (hF : H F = some (.lst ys)) (k : Kp F H H') : Ex1 Cs f x H' a j := by
  obtain ⟨d, e1, e2⟩ := h
  exact ⟨d, k _ _ (ext_ne hF e1) e1, k _ _ (fun z => by rw [z, hF] at e2; cases e2) e2⟩
/-- what is told of the j-th class -/
def Ent (Cs : Nat → Addr) (x : V) (F : Addr) (H : Hp) (v : V) (j : Nat) : Prop := ∃ t e1 e2 l, v = .ref t ∧ H t = some (.tup [.ref e1, .ref e2, .ref l]) ∧ ExI H e1 (Cs j) ∧ ExI H e2 (Cs j) ∧ H l = some (.lst [x, x]) ∧ l ≠ F
theorem ent_kp {ys : List V} (h : Ent Cs x F H v j) (hF : H F = some (.lst ys)) (k : Kp F H H') : Ent Cs x F H' v j := by
  obtain ⟨t, e1, e2, l, rfl, ht, h1, h2, hl, n⟩ := h
  exact ⟨t, e1, e2, l, rfl, k _ _ (fun z => by rw [z, hF] at ht; cases ht) ht, exi_kp h1 hF k, exi_kp h2 hF k, k _ _ n hl, n⟩
/-- the list at F tells of the classes js -/
def Stg (Cs : Nat → Addr) (x : V) (F : Addr) (js : List Nat) (H : Hp) : Prop := ∃ ys, H F = some (.lst ys) ∧ Paired (Ent Cs x F H) ys js
theorem pairs_kp {ys zs : List V} {js : List Nat} (h : Paired (Ent Cs x F H) ys js) (hF : H F = some (.lst zs)) (k : Kp F H H') : Paired (Ent Cs x F H') ys js := Paired.mapP h fun _ _ e => ent_kp e hF k
theorem Stg.same {js : List Nat} (h : Stg Cs x F js H) (s : Same H H') : Stg Cs x F js H' := let ⟨ys, hF, p⟩ := h; ⟨ys, s _ _ hF, pairs_kp p hF (kp_same s)⟩
theorem kp_put {ys zs : List V} : Kp F H (upd H F (.lst zs)) := fun b o n e => by rw [upd_ne n]; exact e
theorem pair_snoc {α β : Type} {R : α → β → Prop} {a : α} {b : β} (h : R a b) : ∀ {xs : List α} {ys : List β}, Paired R xs ys → Paired R (xs ++ [a]) (ys ++ [b])
  | _, _, .nil => .cons h .nil
  | _, _, .cons h1 h2 => .cons h1 (pair_snoc h h2)
theorem pair_get {α β : Type} {R : α → β → Prop} : ∀ {xs : List α} {ys : List β} {i : Nat} {x : α}, Paired R xs ys → xs[i]? = some x → ∃ y, ys[i]? = some y ∧ R x y
  | _, _, i, x, .nil, h => by simp at h
  | _, _, 0, x, .cons r _, h => by
    have e := Option.some.inj h
    subst e
    exact ⟨_, rfl, r⟩
  | _, _, i + 1, x, .cons _ r, h => by
    rw [List.getElem?_cons_succ] at h
    obtain ⟨y, e, r2⟩ := pair_get r h
    exact ⟨y, by rw [List.getElem?_cons_succ]; exact e, r2⟩
theorem stg_app {ys : List V} {js : List Nat} (hF : H F = some (.lst ys)) (p : Paired (Ent Cs x F H) ys js) (e : Ent Cs x F H v j) : Stg Cs x F (js ++ [j]) (upd H F (.lst (ys ++ [v]))) := by
  have k : Kp F H (upd H F (.lst (ys ++ [v]))) := fun b o n e => by rw [upd_ne n]; exact e
  exact ⟨_, upd_same, pair_snoc (ent_kp e hF k) (pairs_kp p hF k)⟩
/-- a pair of such, in a tuple -/
def PrE (Cs : Nat → Addr) (f : Str) (x : V) (H : Hp) (v : V) (j : Nat) : Prop := ∃ t a b, v = .ref t ∧ H t = some (.tup [.ref a, .ref b]) ∧ Ex1 Cs f x H a j ∧ Ex1 Cs f x H b j
theorem PrE.same (h : PrE Cs f x H v j) (s : Same H H') : PrE Cs f x H' v j := let ⟨t, a, b, e, ht, h1, h2⟩ := h; ⟨t, a, b, e, s _ _ ht, h1.same s, h2.same s⟩
theorem pre_kp {ys : List V} (h : PrE Cs f x H v j) (hF : H F = some (.lst ys)) (k : Kp F H H') : PrE Cs f x H' v j := by
  obtain ⟨t, a, b, rfl, ht, h1, h2⟩ := h
  exact ⟨t, a, b, rfl, k _ _ (fun z => by rw [z, hF] at ht; cases ht) ht, ex1_kp h1 hF k, ex1_kp h2 hF k⟩
end
section
variable {P : Program} {w : World} {K : PySem.W.Frag} {mg : Str → Option Value} {base : Heap} {S : Addr} {Cs fI : Nat → Addr} {fd : Nat → FuncData}
theorem ask_pos {f : Str} {j : Nat} (M : ExM P w K mg base (Cs j) (fI j) (fd j) f) {H : Hp} {x : V} {Q : Addr → Hp → Prop} (hx : Fmt K H x) (h : ∀ a H', Same H H' → Ex1 Cs f x H' a j → Q a H') :
    ([x] : List V).length ≤ 1000 ∧ ∀ a, H a = none → spEI K f (.ref a :: [x]) (upd H a (exo a (Cs j) none)) (fun v H2 => v = .non ∧ Q a H2) E0 :=
  ⟨by show 1 ≤ 1000; decide, fun a ha => ⟨a, Cs j, x, rfl, M.ox, M.no, upd_same, hx.same (same_new ha), fun d H' _ _ k ea ed => ⟨rfl, h a H' (fun b o e => k b o (ne_of_none e ha) (same_new ha _ _ e)) ⟨d, ea, ed⟩⟩⟩⟩
theorem ask_kw {f : Str} {j : Nat} (M : ExM P w K mg base (Cs j) (fI j) (fd j) f) {H : Hp} {x : V} {Q : Addr → Hp → Prop} (hx : Fmt K H x) (h : ∀ a H', Same H H' → Ex1 Cs f x H' a j → Q a H') :
    ([x] : List V).length = 1 ∧ ∀ a, H a = none → spEI K f ([V.ref a] ++ [x]) (upd H a (exo a (Cs j) none)) (fun v H2 => v = .non ∧ Q a H2) E0 :=
  ⟨rfl, fun a ha => ⟨a, Cs j, x, rfl, M.ox, M.no, upd_same, hx.same (same_new ha), fun d H' _ _ k ea ed => ⟨rfl, h a H' (fun b o e => k b o (ne_of_none e ha) (same_new ha _ _ e)) ⟨d, ea, ed⟩⟩⟩⟩
def spAll (K : PySem.W.Frag) (Cs : Nat → Addr) : Sp := fun vs H Q _ => ∃ x, vs = [x] ∧ Fmt K H x ∧ ∀ (F : Addr) (H' : Hp), H F = none → Same H H' → Stg Cs x F (List.range 17) H' → Q (.ref F) H'
theorem scAll : FnScope ["one", "first", "second", "found", "third", "fourth", "numbered", "error"] ["one"] (defScope s_law_all) := ⟨rfl, rfl, rfl, by decide +kernel, rfl, by decide +kernel, by decide +kernel⟩
theorem ok_all {f : Addr} {fd0 : FuncData} (F : FnP K "_law_all" s_law_all f fd0) (T : TAl P w K mg base S Cs fI fd) : FnOk P w K mg base CX0 3 f fd0 ["one"] (spAll K Cs) := by
  have nd := scAll.nd
  refine F.ok scAll (fun vs H Q E h => ?_) (fun cdv A outer s H vs Q E hr h => ?_)
  · obtain ⟨x, rfl, _⟩ := h; rfl
  · obtain ⟨x, rfl, hx0, q⟩ := h
    have hr2 : Room 2 _ := hr
    have look : ∀ {f : Str}, ([(f, x)] : List (Str × V)).lookup f = some x := fun {f} => by simp [List.lookup]
    have xfs : ∀ {f : Str} {js : List Nat}, (∀ j ∈ js, XfC K (Cs j) ∧ PySem.W.findIn K (.ref (Cs j)) f = some none) → ∀ {i j : Nat}, js[i]? = some j → XfC K (Cs j) ∧ PySem.W.findIn K (.ref (Cs j)) f = some none := fun {f} {js} h {i} {j} e => h j (List.mem_of_getElem? e)
    refine ⟨_, PSs.nox (pss_cons (ps_par (i := 1) (j := 2) (by rfl) nd rfl rfl (by decide) rfl rfl (pa_cons (pe_mkE T.m0.ox T.m0.iC T.m0.tI T.m0.ok hr2 T.m0.bi rfl T.cs.g0 (pa_cons (pv 0) pa_nil)) (pa_cons (pe_mkEK T.m0.ox T.m0.iC T.m0.tI T.m0.ok hr2 T.m0.kb rfl T.cs.g0 (pk_cons (pv 0) pk_nil)) pa_nil)) (by rfl))
      (pss_cons (ps_set (i := 3) nd rfl (Or.inl rfl) (pe_lst (pa_cons (pe_tup (pa_cons (pv 1) (pa_cons (pv 2) (pa_cons (pe_lst (pa_cons (pe_xo (pv 1)) (pa_cons (pe_xo (pv 2)) pa_nil))) pa_nil)))) pa_nil)))
      (pss_cons (ps_par (i := 4) (j := 5) (by rfl) nd rfl rfl (by decide) rfl rfl (pa_cons (pe_mkE T.m1.ox T.m1.iC T.m1.tI T.m1.ok hr2 T.m1.bi rfl T.cs.g1 (pa_cons (pv 0) pa_nil)) (pa_cons (pe_mkEK T.m1.ox T.m1.iC T.m1.tI T.m1.ok hr2 T.m1.kb rfl T.cs.g1 (pk_cons (pv 0) pk_nil)) pa_nil)) (by rfl))
      (pss_cons (ps_expr (pe_bm PySem.F.plainAttrs_list PySem.F.slot_list_append PySem.F.type_list_append mt_append (pv 3) (pa_cons (pe_tup (pa_cons (pv 4) (pa_cons (pv 5) (pa_cons (pe_lst (pa_cons (pe_xo (pv 4)) (pa_cons (pe_xo (pv 5)) pa_nil))) pa_nil)))) pa_nil)))
      (pss_cons (ps_for PassesOwn.never rfl (pi_list (pe_lst (pa_cons (pe_tup (pa_cons (pe_mkE T.m2.ox T.m2.iC T.m2.tI T.m2.ok hr2 T.m2.bi rfl T.cs.g2 (pa_cons (pv 0) pa_nil)) (pa_cons (pe_mkEK T.m2.ox T.m2.iC T.m2.tI T.m2.ok hr2 T.m2.kb rfl T.cs.g2 (pk_cons (pv 0) pk_nil)) pa_nil))) (pa_cons (pe_tup (pa_cons (pe_mkE T.m3.ox T.m3.iC T.m3.tI T.m3.ok hr2 T.m3.bi rfl T.cs.g3 (pa_cons (pv 0) pa_nil)) (pa_cons (pe_mkEK T.m3.ox T.m3.iC T.m3.tI T.m3.ok hr2 T.m3.kb rfl T.cs.g3 (pk_cons (pv 0) pk_nil)) pa_nil))) pa_nil)))) (pg_tup (by rfl) (pgs_cons (pg_name (i := 1) nd rfl (Or.inl rfl)) (pgs_cons (pg_name (i := 2) nd rfl (Or.inl rfl)) pgs_nil))) (pss_one (ps_expr (pe_bm PySem.F.plainAttrs_list PySem.F.slot_list_append PySem.F.type_list_append mt_append (pv 3) (pa_cons (pe_tup (pa_cons (pv 1) (pa_cons (pv 2) (pa_cons (pe_lst (pa_cons (pe_xo (pv 1)) (pa_cons (pe_xo (pv 2)) pa_nil))) pa_nil)))) pa_nil)))))
      (pss_cons (ps_set (i := 6) nd rfl (Or.inl rfl) (pe_lst (pa_cons (pe_tup (pa_cons (pe_mkE T.m4.ox T.m4.iC T.m4.tI T.m4.ok hr2 T.m4.bi rfl T.cs.g4 (pa_cons (pv 0) pa_nil)) (pa_cons (pe_mkEK T.m4.ox T.m4.iC T.m4.tI T.m4.ok hr2 T.m4.kb rfl T.cs.g4 (pk_cons (pv 0) pk_nil)) pa_nil))) (pa_cons (pe_tup (pa_cons (pe_mkE T.m5.ox T.m5.iC T.m5.tI T.m5.ok hr2 T.m5.bi rfl T.cs.g5 (pa_cons (pv 0) pa_nil)) (pa_cons (pe_mkEK T.m5.ox T.m5.iC T.m5.tI T.m5.ok hr2 T.m5.kb rfl T.cs.g5 (pk_cons (pv 0) pk_nil)) pa_nil))) pa_nil))))
      (pss_cons (ps_set (i := 6) nd rfl (Or.inl rfl) (pe_op op_cat (pv 6) (pe_lst (pa_cons (pe_tup (pa_cons (pe_mkE T.m6.ox T.m6.iC T.m6.tI T.m6.ok hr2 T.m6.bi rfl T.cs.g6 (pa_cons (pv 0) pa_nil)) (pa_cons (pe_mkEK T.m6.ox T.m6.iC T.m6.tI T.m6.ok hr2 T.m6.kb rfl T.cs.g6 (pk_cons (pv 0) pk_nil)) pa_nil))) (pa_cons (pe_tup (pa_cons (pe_mkE T.m7.ox T.m7.iC T.m7.tI T.m7.ok hr2 T.m7.bi rfl T.cs.g7 (pa_cons (pv 0) pa_nil)) (pa_cons (pe_mkEK T.m7.ox T.m7.iC T.m7.tI T.m7.ok hr2 T.m7.kb rfl T.cs.g7 (pk_cons (pv 0) pk_nil)) pa_nil))) pa_nil)))))
      (pss_cons (ps_for PassesOwn.never rfl (pi_list (pe_op op_cat (pv 6) (pe_lst (pa_cons (pe_tup (pa_cons (pe_mkE T.m8.ox T.m8.iC T.m8.tI T.m8.ok hr2 T.m8.bi rfl T.cs.g8 (pa_cons (pv 0) pa_nil)) (pa_cons (pe_mkEK T.m8.ox T.m8.iC T.m8.tI T.m8.ok hr2 T.m8.kb rfl T.cs.g8 (pk_cons (pv 0) pk_nil)) pa_nil))) pa_nil)))) (pg_tup (by rfl) (pgs_cons (pg_name (i := 1) nd rfl (Or.inl rfl)) (pgs_cons (pg_name (i := 2) nd rfl (Or.inl rfl)) pgs_nil))) (pss_one (ps_expr (pe_bm PySem.F.plainAttrs_list PySem.F.slot_list_append PySem.F.type_list_append mt_append (pv 3) (pa_cons (pe_tup (pa_cons (pv 1) (pa_cons (pv 2) (pa_cons (pe_lst (pa_cons (pe_xo (pv 1)) (pa_cons (pe_xo (pv 2)) pa_nil))) pa_nil)))) pa_nil)))))
      (pss_cons (ps_for PassesOwn.never rfl (pi_list (pe_lst (pa_cons (pe_tup (pa_cons (pe_mkE T.m9.ox T.m9.iC T.m9.tI T.m9.ok hr2 T.m9.bi rfl T.cs.g9 (pa_cons (pv 0) pa_nil)) (pa_cons (pe_mkEK T.m9.ox T.m9.iC T.m9.tI T.m9.ok hr2 T.m9.kb rfl T.cs.g9 (pk_cons (pv 0) pk_nil)) pa_nil))) (pa_cons (pe_tup (pa_cons (pe_mkE T.m10.ox T.m10.iC T.m10.tI T.m10.ok hr2 T.m10.bi rfl T.cs.g10 (pa_cons (pv 0) pa_nil)) (pa_cons (pe_mkEK T.m10.ox T.m10.iC T.m10.tI T.m10.ok hr2 T.m10.kb rfl T.cs.g10 (pk_cons (pv 0) pk_nil)) pa_nil))) pa_nil)))) (pg_tup (by rfl) (pgs_cons (pg_name (i := 1) nd rfl (Or.inl rfl)) (pgs_cons (pg_name (i := 2) nd rfl (Or.inl rfl)) pgs_nil))) (pss_one (ps_expr (pe_bm PySem.F.plainAttrs_list PySem.F.slot_list_append PySem.F.type_list_append mt_append (pv 3) (pa_cons (pe_tup (pa_cons (pv 1) (pa_cons (pv 2) (pa_cons (pe_lst (pa_cons (pe_xo (pv 1)) (pa_cons (pe_xo (pv 2)) pa_nil))) pa_nil)))) pa_nil)))))
      (pss_cons (ps_par (i := 1) (j := 2) (by rfl) nd rfl rfl (by decide) rfl rfl (pa_cons (pe_mkE T.m11.ox T.m11.iC T.m11.tI T.m11.ok hr2 T.m11.bi rfl T.cs.g11 (pa_cons (pv 0) pa_nil)) (pa_cons (pe_mkEK T.m11.ox T.m11.iC T.m11.tI T.m11.ok hr2 T.m11.kb rfl T.cs.g11 (pk_cons (pv 0) pk_nil)) pa_nil)) (by rfl))
      (pss_cons (ps_expr (pe_bm PySem.F.plainAttrs_list PySem.F.slot_list_append PySem.F.type_list_append mt_append (pv 3) (pa_cons (pe_tup (pa_cons (pv 1) (pa_cons (pv 2) (pa_cons (pe_lst (pa_cons (pe_xo (pv 1)) (pa_cons (pe_xo (pv 2)) pa_nil))) pa_nil)))) pa_nil)))
      (pss_cons (ps_par (i := 4) (j := 5) (by rfl) nd rfl rfl (by decide) rfl rfl (pa_cons (pe_mkE T.m12.ox T.m12.iC T.m12.tI T.m12.ok hr2 T.m12.bi rfl T.cs.g12 (pa_cons (pv 0) pa_nil)) (pa_cons (pe_mkEK T.m12.ox T.m12.iC T.m12.tI T.m12.ok hr2 T.m12.kb rfl T.cs.g12 (pk_cons (pv 0) pk_nil)) pa_nil)) (by rfl))
      (pss_cons (ps_expr (pe_bm PySem.F.plainAttrs_list PySem.F.slot_list_append PySem.F.type_list_append mt_append (pv 3) (pa_cons (pe_tup (pa_cons (pv 4) (pa_cons (pv 5) (pa_cons (pe_lst (pa_cons (pe_xo (pv 4)) (pa_cons (pe_xo (pv 5)) pa_nil))) pa_nil)))) pa_nil)))
      (pss_cons (ps_for PassesOwn.never rfl (pi_list (pe_lst (pa_cons (pe_exc1 PySem.F.excBase_ValueError T.x13.1 T.cs.g13 T.x13.2 rfl pe_str) (pa_cons (pe_exc1 PySem.F.excBase_ValueError T.x14.1 T.cs.g14 T.x14.2 rfl pe_str) (pa_cons (pe_exc1 PySem.F.excBase_ValueError T.x15.1 T.cs.g15 T.x15.2 rfl pe_str) (pa_cons (pe_exc1 PySem.F.excBase_ValueError T.x16.1 T.cs.g16 T.x16.2 rfl pe_str) pa_nil)))))) (pg_name (i := 7) nd rfl (Or.inl rfl)) (pss_one (ps_expr (pe_bm PySem.F.plainAttrs_list PySem.F.slot_list_append PySem.F.type_list_append mt_append (pv 3) (pa_cons (pe_tup (pa_cons (pv 7) (pa_cons (pv 7) (pa_cons (pe_lst (pa_cons (pv 0) (pa_cons (pv 0) pa_nil))) pa_nil)))) pa_nil)))))
      (pss_one (ps_ret (pv 3))))))))))))))))), ?_⟩
    have b0 : Same H H := Same.refl H
    refine ⟨_, rfl, ask_pos T.m0 hx0 fun a1 H1 s1 qa1_1 => ?_⟩
    have b1 : Same H H1 := fun _ _ e => s1 _ _ (b0 _ _ e)
    have hx1 := hx0.same b1
    refine ⟨_, rfl, ask_kw T.m0 hx1 fun a2 H2 s2 qa2_2 => ?_⟩
    have b2 : Same H H2 := fun _ _ e => s2 _ _ (b1 _ _ e)
    have hx2 := hx0.same b2
    have qa1_2 := qa1_1.same s2
    refine ⟨_, _, rfl, ?_⟩
    obtain ⟨da1, pa1, ra1⟩ := id qa1_2
    obtain ⟨da2, pa2, ra2⟩ := id qa2_2
    refine ⟨_, rfl, _, rfl, _, rfl, a1, Cs 0, da1, _, x, rfl, T.m0.xf, T.m0.no, pa1, ra1, look, _, rfl, a2, Cs 0, da2, _, x, rfl, T.m0.xf, T.m0.no, pa2, ra2, look, by show 2 ≤ sizeLine; decide, fun t3 ht3 => ?_⟩
    have s3 : Same H2 (upd H2 t3 (.lst [x, x])) := same_new ht3
    have kt3 : upd H2 t3 (.lst [x, x]) t3 = some (.lst [x, x]) := upd_same
    generalize upd H2 t3 (.lst [x, x]) = H3 at s3 kt3
    have b3 : Same H H3 := fun _ _ e => s3 _ _ (b2 _ _ e)
    have hx3 := hx0.same b3
    have qa1_3 := qa1_2.same s3
    have qa2_3 := qa2_2.same s3
    refine ⟨by show 3 ≤ sizeLine; decide, fun t4 ht4 => ?_⟩
    have s4 : Same H3 (upd H3 t4 (.tup [.ref a1, .ref a2, .ref t3])) := same_new ht4
    have kt4 : upd H3 t4 (.tup [.ref a1, .ref a2, .ref t3]) t4 = some (.tup [.ref a1, .ref a2, .ref t3]) := upd_same
    generalize upd H3 t4 (.tup [.ref a1, .ref a2, .ref t3]) = H4 at s4 kt4
    have b4 : Same H H4 := fun _ _ e => s4 _ _ (b3 _ _ e)
    have hx4 := hx0.same b4
    have qa1_4 := qa1_3.same s4
    have qa2_4 := qa2_3.same s4
    refine ⟨by show 1 ≤ sizeLine; decide, fun F hF0 => ?_⟩
    have nF : H F = none := b4.free hF0
    have s5 : Same H4 (upd H4 F (.lst [.ref t4])) := same_new hF0
    have lF : t3 ≠ F := fun z => by rw [← z, s4 _ _ kt3] at hF0; cases hF0
    have kF : upd H4 F (.lst [.ref t4]) F = some (.lst [.ref t4]) := upd_same
    generalize upd H4 F (.lst [.ref t4]) = H5 at s5 kF
    have b5 : Same H H5 := fun _ _ e => s5 _ _ (b4 _ _ e)
    have hx5 := hx0.same b5
    have qa1_5 := qa1_4.same s5
    have qa2_5 := qa2_4.same s5
    have stg_5 : Stg Cs x F [0] H5 := ⟨_, kF, .cons ⟨t4, a1, a2, t3, rfl, s5 _ _ kt4, qa1_5.exi, qa2_5.exi, s5 _ _ (s4 _ _ kt3), lF⟩ .nil⟩
    refine ⟨_, rfl, ask_pos T.m1 hx5 fun a6 H6 s6 qa6_6 => ?_⟩
    have b6 : Same H H6 := fun _ _ e => s6 _ _ (b5 _ _ e)
    have hx6 := hx0.same b6
    have stg_6 := stg_5.same s6
    refine ⟨_, rfl, ask_kw T.m1 hx6 fun a7 H7 s7 qa7_7 => ?_⟩
    have b7 : Same H H7 := fun _ _ e => s7 _ _ (b6 _ _ e)
    have hx7 := hx0.same b7
    have stg_7 := stg_6.same s7
    have qa6_7 := qa6_6.same s7
    refine ⟨_, _, rfl, ?_⟩
    obtain ⟨ys7, hF7, pr7⟩ := id stg_7
    refine ⟨_, rfl, .inl ⟨rfl, _, SqL.of hF7⟩, ?_⟩
    obtain ⟨da6, pa6, ra6⟩ := id qa6_7
    obtain ⟨da7, pa7, ra7⟩ := id qa7_7
    refine ⟨_, rfl, _, rfl, _, rfl, a6, Cs 1, da6, _, x, rfl, T.m1.xf, T.m1.no, pa6, ra6, look, _, rfl, a7, Cs 1, da7, _, x, rfl, T.m1.xf, T.m1.no, pa7, ra7, look, by show 2 ≤ sizeLine; decide, fun t8 ht8 => ?_⟩
    have s8 : Same H7 (upd H7 t8 (.lst [x, x])) := same_new ht8
    have kt8 : upd H7 t8 (.lst [x, x]) t8 = some (.lst [x, x]) := upd_same
    generalize upd H7 t8 (.lst [x, x]) = H8 at s8 kt8
    have b8 : Same H H8 := fun _ _ e => s8 _ _ (b7 _ _ e)
    have hx8 := hx0.same b8
    have stg_8 := stg_7.same s8
    have qa6_8 := qa6_7.same s8
    have qa7_8 := qa7_7.same s8
    refine ⟨by show 3 ≤ sizeLine; decide, fun t9 ht9 => ?_⟩
    have s9 : Same H8 (upd H8 t9 (.tup [.ref a6, .ref a7, .ref t8])) := same_new ht9
    have kt9 : upd H8 t9 (.tup [.ref a6, .ref a7, .ref t8]) t9 = some (.tup [.ref a6, .ref a7, .ref t8]) := upd_same
    generalize upd H8 t9 (.tup [.ref a6, .ref a7, .ref t8]) = H9 at s9 kt9
    have b9 : Same H H9 := fun _ _ e => s9 _ _ (b8 _ _ e)
    have hx9 := hx0.same b9
    have stg_9 := stg_8.same s9
    have qa6_9 := qa6_8.same s9
    have qa7_9 := qa7_8.same s9
    obtain ⟨ys, hF, pr⟩ := id stg_9
    have lF : t8 ≠ F := fun z => by rw [← z, ht8] at hF7; cases hF7
    refine ⟨F, ys, _, rfl, rfl, hF, by rw [pr.length]; show 1 < sizeLine; decide, ?_⟩
    have ent : Ent Cs x F H9 (.ref t9) 1 := ⟨t9, a6, a7, t8, rfl, kt9, qa6_9.exi, qa7_9.exi, s9 _ _ kt8, lF⟩
    have stg_10 := stg_app hF pr ent
    have b10 : Same H (upd H9 F (.lst (ys ++ [.ref t9]))) := fun b o e => by rw [upd_ne (ne_of_none e nF)]; exact b9 _ _ e
    generalize upd H9 F (.lst (ys ++ [.ref t9])) = H10 at stg_10 b10
    have hx10 := hx0.same b10
    clear ent hF pr
    refine ⟨_, rfl, ask_pos T.m2 hx10 fun a10 H11 s11 qa10_11 => ?_⟩
    have b11 : Same H H11 := fun _ _ e => s11 _ _ (b10 _ _ e)
    have hx11 := hx0.same b11
    have stg_11 := stg_10.same s11
    refine ⟨_, rfl, ask_kw T.m2 hx11 fun a11 H12 s12 qa11_12 => ?_⟩
    have b12 : Same H H12 := fun _ _ e => s12 _ _ (b11 _ _ e)
    have hx12 := hx0.same b12
    have stg_12 := stg_11.same s12
    have qa10_12 := qa10_11.same s12
    refine ⟨by show 2 ≤ sizeLine; decide, fun t12 ht12 => ?_⟩
    have s13 : Same H12 (upd H12 t12 (.tup [.ref a10, .ref a11])) := same_new ht12
    have kt12 : upd H12 t12 (.tup [.ref a10, .ref a11]) t12 = some (.tup [.ref a10, .ref a11]) := upd_same
    generalize upd H12 t12 (.tup [.ref a10, .ref a11]) = H13 at s13 kt12
    have b13 : Same H H13 := fun _ _ e => s13 _ _ (b12 _ _ e)
    have hx13 := hx0.same b13
    have stg_13 := stg_12.same s13
    have qa10_13 := qa10_12.same s13
    have qa11_13 := qa11_12.same s13
    have ppt12_13 : PrE Cs "name" x H13 (.ref t12) 2 := ⟨t12, a10, a11, rfl, kt12, qa10_13, qa11_13⟩
    refine ⟨_, rfl, ask_pos T.m3 hx13 fun a13 H14 s14 qa13_14 => ?_⟩
    have b14 : Same H H14 := fun _ _ e => s14 _ _ (b13 _ _ e)
    have hx14 := hx0.same b14
    have stg_14 := stg_13.same s14
    have ppt12_14 := ppt12_13.same s14
    refine ⟨_, rfl, ask_kw T.m3 hx14 fun a14 H15 s15 qa14_15 => ?_⟩
    have b15 : Same H H15 := fun _ _ e => s15 _ _ (b14 _ _ e)
    have hx15 := hx0.same b15
    have stg_15 := stg_14.same s15
    have ppt12_15 := ppt12_14.same s15
    have qa13_15 := qa13_14.same s15
    refine ⟨by show 2 ≤ sizeLine; decide, fun t15 ht15 => ?_⟩
    have s16 : Same H15 (upd H15 t15 (.tup [.ref a13, .ref a14])) := same_new ht15
    have kt15 : upd H15 t15 (.tup [.ref a13, .ref a14]) t15 = some (.tup [.ref a13, .ref a14]) := upd_same
    generalize upd H15 t15 (.tup [.ref a13, .ref a14]) = H16 at s16 kt15
    have b16 : Same H H16 := fun _ _ e => s16 _ _ (b15 _ _ e)
    have hx16 := hx0.same b16
    have stg_16 := stg_15.same s16
    have ppt12_16 := ppt12_15.same s16
    have qa13_16 := qa13_15.same s16
    have qa14_16 := qa14_15.same s16
    have ppt15_16 : PrE Cs "name" x H16 (.ref t15) 3 := ⟨t15, a13, a14, rfl, kt15, qa13_16, qa14_16⟩
    obtain ⟨yL, hFL, _⟩ := id stg_16
    refine ⟨by show 2 ≤ sizeLine; decide, fun t16 ht16 => ?_⟩
    have s17 : Same H16 (upd H16 t16 (.lst [.ref t12, .ref t15])) := same_new ht16
    have kt16 : upd H16 t16 (.lst [.ref t12, .ref t15]) t16 = some (.lst [.ref t12, .ref t15]) := upd_same
    generalize upd H16 t16 (.lst [.ref t12, .ref t15]) = H17 at s17 kt16
    have b17 : Same H H17 := fun _ _ e => s17 _ _ (b16 _ _ e)
    have hx17 := hx0.same b17
    have stg_17 := stg_16.same s17
    have ppt12_17 := ppt12_16.same s17
    have ppt15_17 := ppt15_16.same s17
    have prs : Paired (PrE Cs "name" x H17) [.ref t12, .ref t15] [2, 3] := .cons ppt12_17 (.cons ppt15_17 .nil)
    have hL : H17 t16 = some (.lst [.ref t12, .ref t15]) := kt16
    obtain ⟨ys0, hF0, pr0⟩ := id stg_17
    have LF : t16 ≠ F := fun z => by rw [← z, ht16] at hFL; cases hFL
    have hM : ∀ j ∈ ([2, 3] : List Nat), XfC K (Cs j) ∧ PySem.W.findIn K (.ref (Cs j)) "name" = some none := fun j hj => by
      simp only [List.mem_cons, List.not_mem_nil, or_false] at hj
      rcases hj with rfl | rfl
      · exact ⟨T.m2.xf, T.m2.no⟩
      · exact ⟨T.m3.xf, T.m3.no⟩
    generalize [V.ref t12, .ref t15] = xs at prs hL
    have lxs := prs.length
    refine ⟨t16, rfl, ⟨_, SqL.of hL⟩, for_list (K := K) (a := t16) (xs := xs) (fun i σ H' => ∃ w1 w2, σ = [some x, w1, w2, some (.ref F), some (.ref a6), some (.ref a7), none, none] ∧ Stg Cs x F ([0, 1] ++ ([2, 3] : List Nat).take i) H' ∧ Same H H' ∧ Kp F H17 H') ⟨_, _, rfl, ⟨ys0, hF0, pr0⟩, b17, fun _ _ _ e => e⟩ (fun i σ H' _ ⟨_, _, _, _, _, k⟩ => SqL.of (k _ _ LF hL)) ?_ ?_⟩
    · rintro i y σ Hi hy ⟨w1, w2, rfl, ⟨ys, hF, pr⟩, bi, ki⟩
      obtain ⟨j, hj, py⟩ : ∃ j, ([2, 3] : List Nat)[i]? = some j ∧ PrE Cs "name" x H17 y j := pair_get prs hy
      obtain ⟨xf, no⟩ := xfs hM hj
      obtain ⟨t, a, b, rfl, ht, ⟨da, pa, ra⟩, ⟨db, pb, rb⟩⟩ := pre_kp py hF0 ki
      refine ⟨t, _, rfl, .inl (.inl ht), rfl, _, _, rfl, _, _, rfl, rfl, ?_⟩
      refine ⟨_, rfl, .inl ⟨rfl, _, SqL.of hF⟩, ?_⟩
      refine ⟨_, rfl, _, rfl, _, rfl, a, Cs j, da, _, x, rfl, xf, no, pa, ra, look, _, rfl, b, Cs j, db, _, x, rfl, xf, no, pb, rb, look, by show 2 ≤ sizeLine; decide, fun l hl => ?_⟩
      have u1 : Same Hi (upd Hi l (.lst [x, x])) := same_new hl
      have lF : l ≠ F := fun z => by rw [z, hF] at hl; cases hl
      have kl : upd Hi l (.lst [x, x]) l = some (.lst [x, x]) := upd_same
      generalize upd Hi l (.lst [x, x]) = Hj at u1 kl
      refine ⟨by show 3 ≤ sizeLine; decide, fun t2 ht2 => ?_⟩
      have u2 : Same Hj (upd Hj t2 (.tup [.ref a, .ref b, .ref l])) := same_new ht2
      have kt : upd Hj t2 (.tup [.ref a, .ref b, .ref l]) t2 = some (.tup [.ref a, .ref b, .ref l]) := upd_same
      generalize upd Hj t2 (.tup [.ref a, .ref b, .ref l]) = Hk at u2 kt
      have u : Same Hi Hk := fun _ _ e => u2 _ _ (u1 _ _ e)
      have ent : Ent Cs x F Hk (.ref t2) j := ⟨t2, a, b, l, rfl, kt, (ExI.of_exo pa ra).same u, (ExI.of_exo pb rb).same u, u2 _ _ kl, lF⟩
      have ly : ys.length ≤ 40 := by rw [pr.length, List.length_append, List.length_take]; show 2 + min i 2 ≤ 40; omega
      refine ⟨F, ys, _, rfl, rfl, u _ _ hF, Nat.lt_of_lt_of_le (show ys.length < 41 by omega) (by decide), ?_⟩
      refine ⟨_, _, rfl, ?_, fun c o e => by rw [upd_ne (ne_of_none e nF)]; exact u _ _ (bi _ _ e), fun c o h e => by rw [upd_ne h]; exact u _ _ (ki _ _ h e)⟩
      have st := stg_app (u _ _ hF) (pairs_kp pr hF (kp_same u)) ent
      rw [List.take_add_one, hj, ← List.append_assoc]
      exact st
    rintro σ H18 ⟨w1, w2, rfl, st, b18, _⟩
    have stg_18 : Stg Cs x F [0, 1, 2, 3] H18 := by
      rw [show xs.length = 2 from lxs] at st
      exact st
    have hx18 := hx0.same b18
    clear st prs hL hF0 pr0 lxs hM LF
    refine ⟨_, rfl, ask_pos T.m4 hx18 fun a17 H19 s19 qa17_19 => ?_⟩
    have b19 : Same H H19 := fun _ _ e => s19 _ _ (b18 _ _ e)
    have hx19 := hx0.same b19
    have stg_19 := stg_18.same s19
    refine ⟨_, rfl, ask_kw T.m4 hx19 fun a18 H20 s20 qa18_20 => ?_⟩
    have b20 : Same H H20 := fun _ _ e => s20 _ _ (b19 _ _ e)
    have hx20 := hx0.same b20
    have stg_20 := stg_19.same s20
    have qa17_20 := qa17_19.same s20
    refine ⟨by show 2 ≤ sizeLine; decide, fun t19 ht19 => ?_⟩
    have s21 : Same H20 (upd H20 t19 (.tup [.ref a17, .ref a18])) := same_new ht19
    have kt19 : upd H20 t19 (.tup [.ref a17, .ref a18]) t19 = some (.tup [.ref a17, .ref a18]) := upd_same
    generalize upd H20 t19 (.tup [.ref a17, .ref a18]) = H21 at s21 kt19
    have b21 : Same H H21 := fun _ _ e => s21 _ _ (b20 _ _ e)
    have hx21 := hx0.same b21
    have stg_21 := stg_20.same s21
    have qa17_21 := qa17_20.same s21
    have qa18_21 := qa18_20.same s21
    have ppt19_21 : PrE Cs "number" x H21 (.ref t19) 4 := ⟨t19, a17, a18, rfl, kt19, qa17_21, qa18_21⟩
    refine ⟨_, rfl, ask_pos T.m5 hx21 fun a20 H22 s22 qa20_22 => ?_⟩
    have b22 : Same H H22 := fun _ _ e => s22 _ _ (b21 _ _ e)
    have hx22 := hx0.same b22
    have stg_22 := stg_21.same s22
    have ppt19_22 := ppt19_21.same s22
    refine ⟨_, rfl, ask_kw T.m5 hx22 fun a21 H23 s23 qa21_23 => ?_⟩
    have b23 : Same H H23 := fun _ _ e => s23 _ _ (b22 _ _ e)
    have hx23 := hx0.same b23
    have stg_23 := stg_22.same s23
    have ppt19_23 := ppt19_22.same s23
    have qa20_23 := qa20_22.same s23
    refine ⟨by show 2 ≤ sizeLine; decide, fun t22 ht22 => ?_⟩
    have s24 : Same H23 (upd H23 t22 (.tup [.ref a20, .ref a21])) := same_new ht22
    have kt22 : upd H23 t22 (.tup [.ref a20, .ref a21]) t22 = some (.tup [.ref a20, .ref a21]) := upd_same
    generalize upd H23 t22 (.tup [.ref a20, .ref a21]) = H24 at s24 kt22
    have b24 : Same H H24 := fun _ _ e => s24 _ _ (b23 _ _ e)
    have hx24 := hx0.same b24
    have stg_24 := stg_23.same s24
    have ppt19_24 := ppt19_23.same s24
    have qa20_24 := qa20_23.same s24
    have qa21_24 := qa21_23.same s24
    have ppt22_24 : PrE Cs "number" x H24 (.ref t22) 5 := ⟨t22, a20, a21, rfl, kt22, qa20_24, qa21_24⟩
    obtain ⟨yL, hFL, _⟩ := id stg_24
    refine ⟨by show 2 ≤ sizeLine; decide, fun t23 ht23 => ?_⟩
    have s25 : Same H24 (upd H24 t23 (.lst [.ref t19, .ref t22])) := same_new ht23
    have kt23 : upd H24 t23 (.lst [.ref t19, .ref t22]) t23 = some (.lst [.ref t19, .ref t22]) := upd_same
    generalize upd H24 t23 (.lst [.ref t19, .ref t22]) = H25 at s25 kt23
    have b25 : Same H H25 := fun _ _ e => s25 _ _ (b24 _ _ e)
    have hx25 := hx0.same b25
    have stg_25 := stg_24.same s25
    have ppt19_25 := ppt19_24.same s25
    have ppt22_25 := ppt22_24.same s25
    have lA_25 : H25 t23 = some (.lst [.ref t19, .ref t22]) := kt23
    refine ⟨_, rfl, ?_⟩
    refine ⟨_, rfl, ask_pos T.m6 hx25 fun a24 H26 s26 qa24_26 => ?_⟩
    have b26 : Same H H26 := fun _ _ e => s26 _ _ (b25 _ _ e)
    have hx26 := hx0.same b26
    have stg_26 := stg_25.same s26
    have ppt19_26 := ppt19_25.same s26
    have ppt22_26 := ppt22_25.same s26
    have lA_26 := s26 _ _ lA_25
    refine ⟨_, rfl, ask_kw T.m6 hx26 fun a25 H27 s27 qa25_27 => ?_⟩
    have b27 : Same H H27 := fun _ _ e => s27 _ _ (b26 _ _ e)
    have hx27 := hx0.same b27
    have stg_27 := stg_26.same s27
    have ppt19_27 := ppt19_26.same s27
    have ppt22_27 := ppt22_26.same s27
    have lA_27 := s27 _ _ lA_26
    have qa24_27 := qa24_26.same s27
    refine ⟨by show 2 ≤ sizeLine; decide, fun t26 ht26 => ?_⟩
    have s28 : Same H27 (upd H27 t26 (.tup [.ref a24, .ref a25])) := same_new ht26
    have kt26 : upd H27 t26 (.tup [.ref a24, .ref a25]) t26 = some (.tup [.ref a24, .ref a25]) := upd_same
    generalize upd H27 t26 (.tup [.ref a24, .ref a25]) = H28 at s28 kt26
    have b28 : Same H H28 := fun _ _ e => s28 _ _ (b27 _ _ e)
    have hx28 := hx0.same b28
    have stg_28 := stg_27.same s28
    have ppt19_28 := ppt19_27.same s28
    have ppt22_28 := ppt22_27.same s28
    have lA_28 := s28 _ _ lA_27
    have qa24_28 := qa24_27.same s28
    have qa25_28 := qa25_27.same s28
    have ppt26_28 : PrE Cs "number" x H28 (.ref t26) 6 := ⟨t26, a24, a25, rfl, kt26, qa24_28, qa25_28⟩
    refine ⟨_, rfl, ask_pos T.m7 hx28 fun a27 H29 s29 qa27_29 => ?_⟩
    have b29 : Same H H29 := fun _ _ e => s29 _ _ (b28 _ _ e)
    have hx29 := hx0.same b29
    have stg_29 := stg_28.same s29
    have ppt19_29 := ppt19_28.same s29
    have ppt22_29 := ppt22_28.same s29
    have lA_29 := s29 _ _ lA_28
    have ppt26_29 := ppt26_28.same s29
    refine ⟨_, rfl, ask_kw T.m7 hx29 fun a28 H30 s30 qa28_30 => ?_⟩
    have b30 : Same H H30 := fun _ _ e => s30 _ _ (b29 _ _ e)
    have hx30 := hx0.same b30
    have stg_30 := stg_29.same s30
    have ppt19_30 := ppt19_29.same s30
    have ppt22_30 := ppt22_29.same s30
    have lA_30 := s30 _ _ lA_29
    have ppt26_30 := ppt26_29.same s30
    have qa27_30 := qa27_29.same s30
    refine ⟨by show 2 ≤ sizeLine; decide, fun t29 ht29 => ?_⟩
    have s31 : Same H30 (upd H30 t29 (.tup [.ref a27, .ref a28])) := same_new ht29
    have kt29 : upd H30 t29 (.tup [.ref a27, .ref a28]) t29 = some (.tup [.ref a27, .ref a28]) := upd_same
    generalize upd H30 t29 (.tup [.ref a27, .ref a28]) = H31 at s31 kt29
    have b31 : Same H H31 := fun _ _ e => s31 _ _ (b30 _ _ e)
    have hx31 := hx0.same b31
    have stg_31 := stg_30.same s31
    have ppt19_31 := ppt19_30.same s31
    have ppt22_31 := ppt22_30.same s31
    have lA_31 := s31 _ _ lA_30
    have ppt26_31 := ppt26_30.same s31
    have qa27_31 := qa27_30.same s31
    have qa28_31 := qa28_30.same s31
    have ppt29_31 : PrE Cs "number" x H31 (.ref t29) 7 := ⟨t29, a27, a28, rfl, kt29, qa27_31, qa28_31⟩
    obtain ⟨yL, hFL, _⟩ := id stg_31
    refine ⟨by show 2 ≤ sizeLine; decide, fun t30 ht30 => ?_⟩
    have s32 : Same H31 (upd H31 t30 (.lst [.ref t26, .ref t29])) := same_new ht30
    have kt30 : upd H31 t30 (.lst [.ref t26, .ref t29]) t30 = some (.lst [.ref t26, .ref t29]) := upd_same
    generalize upd H31 t30 (.lst [.ref t26, .ref t29]) = H32 at s32 kt30
    have b32 : Same H H32 := fun _ _ e => s32 _ _ (b31 _ _ e)
    have hx32 := hx0.same b32
    have stg_32 := stg_31.same s32
    have ppt19_32 := ppt19_31.same s32
    have ppt22_32 := ppt22_31.same s32
    have lA_32 := s32 _ _ lA_31
    have ppt26_32 := ppt26_31.same s32
    have ppt29_32 := ppt29_31.same s32
    obtain ⟨yM, hFL, _⟩ := id stg_32
    refine ⟨t23, t30, _, _, rfl, rfl, lA_32, kt30, by show 4 ≤ sizeLine; decide, fun t31 ht31 => ?_⟩
    have s33 : Same H32 (upd H32 t31 (.lst ([.ref t19, .ref t22] ++ [.ref t26, .ref t29]))) := same_new ht31
    have kt31 : upd H32 t31 (.lst ([.ref t19, .ref t22] ++ [.ref t26, .ref t29])) t31 = some (.lst [.ref t19, .ref t22, .ref t26, .ref t29]) := upd_same
    generalize upd H32 t31 (.lst ([.ref t19, .ref t22] ++ [.ref t26, .ref t29])) = H33 at s33 kt31
    have b33 : Same H H33 := fun _ _ e => s33 _ _ (b32 _ _ e)
    have hx33 := hx0.same b33
    have stg_33 := stg_32.same s33
    have ppt19_33 := ppt19_32.same s33
    have ppt22_33 := ppt22_32.same s33
    have lA_33 := s33 _ _ lA_32
    have ppt26_33 := ppt26_32.same s33
    have ppt29_33 := ppt29_32.same s33
    have lC_33 : H33 t31 = some (.lst [.ref t19, .ref t22, .ref t26, .ref t29]) := kt31
    refine ⟨_, rfl, ?_⟩
    refine ⟨_, rfl, ask_pos T.m8 hx33 fun a32 H34 s34 qa32_34 => ?_⟩
    have b34 : Same H H34 := fun _ _ e => s34 _ _ (b33 _ _ e)
    have hx34 := hx0.same b34
    have stg_34 := stg_33.same s34
    have ppt19_34 := ppt19_33.same s34
    have ppt22_34 := ppt22_33.same s34
    have ppt26_34 := ppt26_33.same s34
    have ppt29_34 := ppt29_33.same s34
    have lC_34 := s34 _ _ lC_33
    refine ⟨_, rfl, ask_kw T.m8 hx34 fun a33 H35 s35 qa33_35 => ?_⟩
    have b35 : Same H H35 := fun _ _ e => s35 _ _ (b34 _ _ e)
    have hx35 := hx0.same b35
    have stg_35 := stg_34.same s35
    have ppt19_35 := ppt19_34.same s35
    have ppt22_35 := ppt22_34.same s35
    have ppt26_35 := ppt26_34.same s35
    have ppt29_35 := ppt29_34.same s35
    have lC_35 := s35 _ _ lC_34
    have qa32_35 := qa32_34.same s35
    refine ⟨by show 2 ≤ sizeLine; decide, fun t34 ht34 => ?_⟩
    have s36 : Same H35 (upd H35 t34 (.tup [.ref a32, .ref a33])) := same_new ht34
    have kt34 : upd H35 t34 (.tup [.ref a32, .ref a33]) t34 = some (.tup [.ref a32, .ref a33]) := upd_same
    generalize upd H35 t34 (.tup [.ref a32, .ref a33]) = H36 at s36 kt34
    have b36 : Same H H36 := fun _ _ e => s36 _ _ (b35 _ _ e)
    have hx36 := hx0.same b36
    have stg_36 := stg_35.same s36
    have ppt19_36 := ppt19_35.same s36
    have ppt22_36 := ppt22_35.same s36
    have ppt26_36 := ppt26_35.same s36
    have ppt29_36 := ppt29_35.same s36
    have lC_36 := s36 _ _ lC_35
    have qa32_36 := qa32_35.same s36
    have qa33_36 := qa33_35.same s36
    have ppt34_36 : PrE Cs "number" x H36 (.ref t34) 8 := ⟨t34, a32, a33, rfl, kt34, qa32_36, qa33_36⟩
    obtain ⟨yL, hFL, _⟩ := id stg_36
    refine ⟨by show 1 ≤ sizeLine; decide, fun t35 ht35 => ?_⟩
    have s37 : Same H36 (upd H36 t35 (.lst [.ref t34])) := same_new ht35
    have kt35 : upd H36 t35 (.lst [.ref t34]) t35 = some (.lst [.ref t34]) := upd_same
    generalize upd H36 t35 (.lst [.ref t34]) = H37 at s37 kt35
    have b37 : Same H H37 := fun _ _ e => s37 _ _ (b36 _ _ e)
    have hx37 := hx0.same b37
    have stg_37 := stg_36.same s37
    have ppt19_37 := ppt19_36.same s37
    have ppt22_37 := ppt22_36.same s37
    have ppt26_37 := ppt26_36.same s37
    have ppt29_37 := ppt29_36.same s37
    have lC_37 := s37 _ _ lC_36
    have ppt34_37 := ppt34_36.same s37
    obtain ⟨yM, hFL, _⟩ := id stg_37
    refine ⟨t31, t35, _, _, rfl, rfl, lC_37, kt35, by show 5 ≤ sizeLine; decide, fun t36 ht36 => ?_⟩
    have s38 : Same H37 (upd H37 t36 (.lst ([.ref t19, .ref t22, .ref t26, .ref t29] ++ [.ref t34]))) := same_new ht36
    have kt36 : upd H37 t36 (.lst ([.ref t19, .ref t22, .ref t26, .ref t29] ++ [.ref t34])) t36 = some (.lst [.ref t19, .ref t22, .ref t26, .ref t29, .ref t34]) := upd_same
    generalize upd H37 t36 (.lst ([.ref t19, .ref t22, .ref t26, .ref t29] ++ [.ref t34])) = H38 at s38 kt36
    have b38 : Same H H38 := fun _ _ e => s38 _ _ (b37 _ _ e)
    have hx38 := hx0.same b38
    have stg_38 := stg_37.same s38
    have ppt19_38 := ppt19_37.same s38
    have ppt22_38 := ppt22_37.same s38
    have ppt26_38 := ppt26_37.same s38
    have ppt29_38 := ppt29_37.same s38
    have lC_38 := s38 _ _ lC_37
    have ppt34_38 := ppt34_37.same s38
    have prs : Paired (PrE Cs "number" x H38) [.ref t19, .ref t22, .ref t26, .ref t29, .ref t34] [4, 5, 6, 7, 8] := .cons ppt19_38 (.cons ppt22_38 (.cons ppt26_38 (.cons ppt29_38 (.cons ppt34_38 .nil))))
    have hL : H38 t36 = some (.lst [.ref t19, .ref t22, .ref t26, .ref t29, .ref t34]) := kt36
    obtain ⟨ys0, hF0, pr0⟩ := id stg_38
    have LF : t36 ≠ F := fun z => by rw [← z, ht36] at hFL; cases hFL
    have hM : ∀ j ∈ ([4, 5, 6, 7, 8] : List Nat), XfC K (Cs j) ∧ PySem.W.findIn K (.ref (Cs j)) "number" = some none := fun j hj => by
      simp only [List.mem_cons, List.not_mem_nil, or_false] at hj
      rcases hj with rfl | rfl | rfl | rfl | rfl
      · exact ⟨T.m4.xf, T.m4.no⟩
      · exact ⟨T.m5.xf, T.m5.no⟩
      · exact ⟨T.m6.xf, T.m6.no⟩
      · exact ⟨T.m7.xf, T.m7.no⟩
      · exact ⟨T.m8.xf, T.m8.no⟩
    generalize [V.ref t19, .ref t22, .ref t26, .ref t29, .ref t34] = xs at prs hL
    have lxs := prs.length
    refine ⟨t36, rfl, ⟨_, SqL.of hL⟩, for_list (K := K) (a := t36) (xs := xs) (fun i σ H' => ∃ w1 w2, σ = [some x, w1, w2, some (.ref F), some (.ref a6), some (.ref a7), some (.ref t31), none] ∧ Stg Cs x F ([0, 1, 2, 3] ++ ([4, 5, 6, 7, 8] : List Nat).take i) H' ∧ Same H H' ∧ Kp F H38 H') ⟨_, _, rfl, ⟨ys0, hF0, pr0⟩, b38, fun _ _ _ e => e⟩ (fun i σ H' _ ⟨_, _, _, _, _, k⟩ => SqL.of (k _ _ LF hL)) ?_ ?_⟩
    · rintro i y σ Hi hy ⟨w1, w2, rfl, ⟨ys, hF, pr⟩, bi, ki⟩
      obtain ⟨j, hj, py⟩ : ∃ j, ([4, 5, 6, 7, 8] : List Nat)[i]? = some j ∧ PrE Cs "number" x H38 y j := pair_get prs hy
      obtain ⟨xf, no⟩ := xfs hM hj
      obtain ⟨t, a, b, rfl, ht, ⟨da, pa, ra⟩, ⟨db, pb, rb⟩⟩ := pre_kp py hF0 ki
      refine ⟨t, _, rfl, .inl (.inl ht), rfl, _, _, rfl, _, _, rfl, rfl, ?_⟩
      refine ⟨_, rfl, .inl ⟨rfl, _, SqL.of hF⟩, ?_⟩
      refine ⟨_, rfl, _, rfl, _, rfl, a, Cs j, da, _, x, rfl, xf, no, pa, ra, look, _, rfl, b, Cs j, db, _, x, rfl, xf, no, pb, rb, look, by show 2 ≤ sizeLine; decide, fun l hl => ?_⟩
      have u1 : Same Hi (upd Hi l (.lst [x, x])) := same_new hl
      have lF : l ≠ F := fun z => by rw [z, hF] at hl; cases hl
      have kl : upd Hi l (.lst [x, x]) l = some (.lst [x, x]) := upd_same
      generalize upd Hi l (.lst [x, x]) = Hj at u1 kl
      refine ⟨by show 3 ≤ sizeLine; decide, fun t2 ht2 => ?_⟩
      have u2 : Same Hj (upd Hj t2 (.tup [.ref a, .ref b, .ref l])) := same_new ht2
      have kt : upd Hj t2 (.tup [.ref a, .ref b, .ref l]) t2 = some (.tup [.ref a, .ref b, .ref l]) := upd_same
      generalize upd Hj t2 (.tup [.ref a, .ref b, .ref l]) = Hk at u2 kt
      have u : Same Hi Hk := fun _ _ e => u2 _ _ (u1 _ _ e)
      have ent : Ent Cs x F Hk (.ref t2) j := ⟨t2, a, b, l, rfl, kt, (ExI.of_exo pa ra).same u, (ExI.of_exo pb rb).same u, u2 _ _ kl, lF⟩
      have ly : ys.length ≤ 40 := by rw [pr.length, List.length_append, List.length_take]; show 4 + min i 5 ≤ 40; omega
      refine ⟨F, ys, _, rfl, rfl, u _ _ hF, Nat.lt_of_lt_of_le (show ys.length < 41 by omega) (by decide), ?_⟩
      refine ⟨_, _, rfl, ?_, fun c o e => by rw [upd_ne (ne_of_none e nF)]; exact u _ _ (bi _ _ e), fun c o h e => by rw [upd_ne h]; exact u _ _ (ki _ _ h e)⟩
      have st := stg_app (u _ _ hF) (pairs_kp pr hF (kp_same u)) ent
      rw [List.take_add_one, hj, ← List.append_assoc]
      exact st
    rintro σ H39 ⟨w1, w2, rfl, st, b39, _⟩
    have stg_39 : Stg Cs x F [0, 1, 2, 3, 4, 5, 6, 7, 8] H39 := by
      rw [show xs.length = 5 from lxs] at st
      exact st
    have hx39 := hx0.same b39
    clear st prs hL hF0 pr0 lxs hM LF
    refine ⟨_, rfl, ask_pos T.m9 hx39 fun a37 H40 s40 qa37_40 => ?_⟩
    have b40 : Same H H40 := fun _ _ e => s40 _ _ (b39 _ _ e)
    have hx40 := hx0.same b40
    have stg_40 := stg_39.same s40
    refine ⟨_, rfl, ask_kw T.m9 hx40 fun a38 H41 s41 qa38_41 => ?_⟩
    have b41 : Same H H41 := fun _ _ e => s41 _ _ (b40 _ _ e)
    have hx41 := hx0.same b41
    have stg_41 := stg_40.same s41
    have qa37_41 := qa37_40.same s41
    refine ⟨by show 2 ≤ sizeLine; decide, fun t39 ht39 => ?_⟩
    have s42 : Same H41 (upd H41 t39 (.tup [.ref a37, .ref a38])) := same_new ht39
    have kt39 : upd H41 t39 (.tup [.ref a37, .ref a38]) t39 = some (.tup [.ref a37, .ref a38]) := upd_same
    generalize upd H41 t39 (.tup [.ref a37, .ref a38]) = H42 at s42 kt39
    have b42 : Same H H42 := fun _ _ e => s42 _ _ (b41 _ _ e)
    have hx42 := hx0.same b42
    have stg_42 := stg_41.same s42
    have qa37_42 := qa37_41.same s42
    have qa38_42 := qa38_41.same s42
    have ppt39_42 : PrE Cs "at" x H42 (.ref t39) 9 := ⟨t39, a37, a38, rfl, kt39, qa37_42, qa38_42⟩
    refine ⟨_, rfl, ask_pos T.m10 hx42 fun a40 H43 s43 qa40_43 => ?_⟩
    have b43 : Same H H43 := fun _ _ e => s43 _ _ (b42 _ _ e)
    have hx43 := hx0.same b43
    have stg_43 := stg_42.same s43
    have ppt39_43 := ppt39_42.same s43
    refine ⟨_, rfl, ask_kw T.m10 hx43 fun a41 H44 s44 qa41_44 => ?_⟩
    have b44 : Same H H44 := fun _ _ e => s44 _ _ (b43 _ _ e)
    have hx44 := hx0.same b44
    have stg_44 := stg_43.same s44
    have ppt39_44 := ppt39_43.same s44
    have qa40_44 := qa40_43.same s44
    refine ⟨by show 2 ≤ sizeLine; decide, fun t42 ht42 => ?_⟩
    have s45 : Same H44 (upd H44 t42 (.tup [.ref a40, .ref a41])) := same_new ht42
    have kt42 : upd H44 t42 (.tup [.ref a40, .ref a41]) t42 = some (.tup [.ref a40, .ref a41]) := upd_same
    generalize upd H44 t42 (.tup [.ref a40, .ref a41]) = H45 at s45 kt42
    have b45 : Same H H45 := fun _ _ e => s45 _ _ (b44 _ _ e)
    have hx45 := hx0.same b45
    have stg_45 := stg_44.same s45
    have ppt39_45 := ppt39_44.same s45
    have qa40_45 := qa40_44.same s45
    have qa41_45 := qa41_44.same s45
    have ppt42_45 : PrE Cs "at" x H45 (.ref t42) 10 := ⟨t42, a40, a41, rfl, kt42, qa40_45, qa41_45⟩
    obtain ⟨yL, hFL, _⟩ := id stg_45
    refine ⟨by show 2 ≤ sizeLine; decide, fun t43 ht43 => ?_⟩
    have s46 : Same H45 (upd H45 t43 (.lst [.ref t39, .ref t42])) := same_new ht43
    have kt43 : upd H45 t43 (.lst [.ref t39, .ref t42]) t43 = some (.lst [.ref t39, .ref t42]) := upd_same
    generalize upd H45 t43 (.lst [.ref t39, .ref t42]) = H46 at s46 kt43
    have b46 : Same H H46 := fun _ _ e => s46 _ _ (b45 _ _ e)
    have hx46 := hx0.same b46
    have stg_46 := stg_45.same s46
    have ppt39_46 := ppt39_45.same s46
    have ppt42_46 := ppt42_45.same s46
    have prs : Paired (PrE Cs "at" x H46) [.ref t39, .ref t42] [9, 10] := .cons ppt39_46 (.cons ppt42_46 .nil)
    have hL : H46 t43 = some (.lst [.ref t39, .ref t42]) := kt43
    obtain ⟨ys0, hF0, pr0⟩ := id stg_46
    have LF : t43 ≠ F := fun z => by rw [← z, ht43] at hFL; cases hFL
    have hM : ∀ j ∈ ([9, 10] : List Nat), XfC K (Cs j) ∧ PySem.W.findIn K (.ref (Cs j)) "at" = some none := fun j hj => by
      simp only [List.mem_cons, List.not_mem_nil, or_false] at hj
      rcases hj with rfl | rfl
      · exact ⟨T.m9.xf, T.m9.no⟩
      · exact ⟨T.m10.xf, T.m10.no⟩
    generalize [V.ref t39, .ref t42] = xs at prs hL
    have lxs := prs.length
    refine ⟨t43, rfl, ⟨_, SqL.of hL⟩, for_list (K := K) (a := t43) (xs := xs) (fun i σ H' => ∃ w1 w2, σ = [some x, w1, w2, some (.ref F), some (.ref a6), some (.ref a7), some (.ref t31), none] ∧ Stg Cs x F ([0, 1, 2, 3, 4, 5, 6, 7, 8] ++ ([9, 10] : List Nat).take i) H' ∧ Same H H' ∧ Kp F H46 H') ⟨_, _, rfl, ⟨ys0, hF0, pr0⟩, b46, fun _ _ _ e => e⟩ (fun i σ H' _ ⟨_, _, _, _, _, k⟩ => SqL.of (k _ _ LF hL)) ?_ ?_⟩
    · rintro i y σ Hi hy ⟨w1, w2, rfl, ⟨ys, hF, pr⟩, bi, ki⟩
      obtain ⟨j, hj, py⟩ : ∃ j, ([9, 10] : List Nat)[i]? = some j ∧ PrE Cs "at" x H46 y j := pair_get prs hy
      obtain ⟨xf, no⟩ := xfs hM hj
      obtain ⟨t, a, b, rfl, ht, ⟨da, pa, ra⟩, ⟨db, pb, rb⟩⟩ := pre_kp py hF0 ki
      refine ⟨t, _, rfl, .inl (.inl ht), rfl, _, _, rfl, _, _, rfl, rfl, ?_⟩
      refine ⟨_, rfl, .inl ⟨rfl, _, SqL.of hF⟩, ?_⟩
      refine ⟨_, rfl, _, rfl, _, rfl, a, Cs j, da, _, x, rfl, xf, no, pa, ra, look, _, rfl, b, Cs j, db, _, x, rfl, xf, no, pb, rb, look, by show 2 ≤ sizeLine; decide, fun l hl => ?_⟩
      have u1 : Same Hi (upd Hi l (.lst [x, x])) := same_new hl
      have lF : l ≠ F := fun z => by rw [z, hF] at hl; cases hl
      have kl : upd Hi l (.lst [x, x]) l = some (.lst [x, x]) := upd_same
      generalize upd Hi l (.lst [x, x]) = Hj at u1 kl
      refine ⟨by show 3 ≤ sizeLine; decide, fun t2 ht2 => ?_⟩
      have u2 : Same Hj (upd Hj t2 (.tup [.ref a, .ref b, .ref l])) := same_new ht2
      have kt : upd Hj t2 (.tup [.ref a, .ref b, .ref l]) t2 = some (.tup [.ref a, .ref b, .ref l]) := upd_same
      generalize upd Hj t2 (.tup [.ref a, .ref b, .ref l]) = Hk at u2 kt
      have u : Same Hi Hk := fun _ _ e => u2 _ _ (u1 _ _ e)
      have ent : Ent Cs x F Hk (.ref t2) j := ⟨t2, a, b, l, rfl, kt, (ExI.of_exo pa ra).same u, (ExI.of_exo pb rb).same u, u2 _ _ kl, lF⟩
      have ly : ys.length ≤ 40 := by rw [pr.length, List.length_append, List.length_take]; show 9 + min i 2 ≤ 40; omega
      refine ⟨F, ys, _, rfl, rfl, u _ _ hF, Nat.lt_of_lt_of_le (show ys.length < 41 by omega) (by decide), ?_⟩
      refine ⟨_, _, rfl, ?_, fun c o e => by rw [upd_ne (ne_of_none e nF)]; exact u _ _ (bi _ _ e), fun c o h e => by rw [upd_ne h]; exact u _ _ (ki _ _ h e)⟩
      have st := stg_app (u _ _ hF) (pairs_kp pr hF (kp_same u)) ent
      rw [List.take_add_one, hj, ← List.append_assoc]
      exact st
    rintro σ H47 ⟨w1, w2, rfl, st, b47, _⟩
    have stg_47 : Stg Cs x F [0, 1, 2, 3, 4, 5, 6, 7, 8, 9, 10] H47 := by
      rw [show xs.length = 2 from lxs] at st
      exact st
    have hx47 := hx0.same b47
    clear st prs hL hF0 pr0 lxs hM LF
    refine ⟨_, rfl, ask_pos T.m11 hx47 fun a44 H48 s48 qa44_48 => ?_⟩
    have b48 : Same H H48 := fun _ _ e => s48 _ _ (b47 _ _ e)
    have hx48 := hx0.same b48
    have stg_48 := stg_47.same s48
    refine ⟨_, rfl, ask_kw T.m11 hx48 fun a45 H49 s49 qa45_49 => ?_⟩
    have b49 : Same H H49 := fun _ _ e => s49 _ _ (b48 _ _ e)
    have hx49 := hx0.same b49
    have stg_49 := stg_48.same s49
    have qa44_49 := qa44_48.same s49
    refine ⟨_, _, rfl, ?_⟩
    obtain ⟨ys49, hF49, pr49⟩ := id stg_49
    refine ⟨_, rfl, .inl ⟨rfl, _, SqL.of hF49⟩, ?_⟩
    obtain ⟨da44, pa44, ra44⟩ := id qa44_49
    obtain ⟨da45, pa45, ra45⟩ := id qa45_49
    refine ⟨_, rfl, _, rfl, _, rfl, a44, Cs 11, da44, _, x, rfl, T.m11.xf, T.m11.no, pa44, ra44, look, _, rfl, a45, Cs 11, da45, _, x, rfl, T.m11.xf, T.m11.no, pa45, ra45, look, by show 2 ≤ sizeLine; decide, fun t46 ht46 => ?_⟩
    have s50 : Same H49 (upd H49 t46 (.lst [x, x])) := same_new ht46
    have kt46 : upd H49 t46 (.lst [x, x]) t46 = some (.lst [x, x]) := upd_same
    generalize upd H49 t46 (.lst [x, x]) = H50 at s50 kt46
    have b50 : Same H H50 := fun _ _ e => s50 _ _ (b49 _ _ e)
    have hx50 := hx0.same b50
    have stg_50 := stg_49.same s50
    have qa44_50 := qa44_49.same s50
    have qa45_50 := qa45_49.same s50
    refine ⟨by show 3 ≤ sizeLine; decide, fun t47 ht47 => ?_⟩
    have s51 : Same H50 (upd H50 t47 (.tup [.ref a44, .ref a45, .ref t46])) := same_new ht47
    have kt47 : upd H50 t47 (.tup [.ref a44, .ref a45, .ref t46]) t47 = some (.tup [.ref a44, .ref a45, .ref t46]) := upd_same
    generalize upd H50 t47 (.tup [.ref a44, .ref a45, .ref t46]) = H51 at s51 kt47
    have b51 : Same H H51 := fun _ _ e => s51 _ _ (b50 _ _ e)
    have hx51 := hx0.same b51
    have stg_51 := stg_50.same s51
    have qa44_51 := qa44_50.same s51
    have qa45_51 := qa45_50.same s51
    obtain ⟨ys, hF, pr⟩ := id stg_51
    have lF : t46 ≠ F := fun z => by rw [← z, ht46] at hF49; cases hF49
    refine ⟨F, ys, _, rfl, rfl, hF, by rw [pr.length]; show 11 < sizeLine; decide, ?_⟩
    have ent : Ent Cs x F H51 (.ref t47) 11 := ⟨t47, a44, a45, t46, rfl, kt47, qa44_51.exi, qa45_51.exi, s51 _ _ kt46, lF⟩
    have stg_52 := stg_app hF pr ent
    have b52 : Same H (upd H51 F (.lst (ys ++ [.ref t47]))) := fun b o e => by rw [upd_ne (ne_of_none e nF)]; exact b51 _ _ e
    generalize upd H51 F (.lst (ys ++ [.ref t47])) = H52 at stg_52 b52
    have hx52 := hx0.same b52
    clear ent hF pr
    refine ⟨_, rfl, ask_pos T.m12 hx52 fun a48 H53 s53 qa48_53 => ?_⟩
    have b53 : Same H H53 := fun _ _ e => s53 _ _ (b52 _ _ e)
    have hx53 := hx0.same b53
    have stg_53 := stg_52.same s53
    refine ⟨_, rfl, ask_kw T.m12 hx53 fun a49 H54 s54 qa49_54 => ?_⟩
    have b54 : Same H H54 := fun _ _ e => s54 _ _ (b53 _ _ e)
    have hx54 := hx0.same b54
    have stg_54 := stg_53.same s54
    have qa48_54 := qa48_53.same s54
    refine ⟨_, _, rfl, ?_⟩
    obtain ⟨ys54, hF54, pr54⟩ := id stg_54
    refine ⟨_, rfl, .inl ⟨rfl, _, SqL.of hF54⟩, ?_⟩
    obtain ⟨da48, pa48, ra48⟩ := id qa48_54
    obtain ⟨da49, pa49, ra49⟩ := id qa49_54
    refine ⟨_, rfl, _, rfl, _, rfl, a48, Cs 12, da48, _, x, rfl, T.m12.xf, T.m12.no, pa48, ra48, look, _, rfl, a49, Cs 12, da49, _, x, rfl, T.m12.xf, T.m12.no, pa49, ra49, look, by show 2 ≤ sizeLine; decide, fun t50 ht50 => ?_⟩
    have s55 : Same H54 (upd H54 t50 (.lst [x, x])) := same_new ht50
    have kt50 : upd H54 t50 (.lst [x, x]) t50 = some (.lst [x, x]) := upd_same
    generalize upd H54 t50 (.lst [x, x]) = H55 at s55 kt50
    have b55 : Same H H55 := fun _ _ e => s55 _ _ (b54 _ _ e)
    have hx55 := hx0.same b55
    have stg_55 := stg_54.same s55
    have qa48_55 := qa48_54.same s55
    have qa49_55 := qa49_54.same s55
    refine ⟨by show 3 ≤ sizeLine; decide, fun t51 ht51 => ?_⟩
    have s56 : Same H55 (upd H55 t51 (.tup [.ref a48, .ref a49, .ref t50])) := same_new ht51
    have kt51 : upd H55 t51 (.tup [.ref a48, .ref a49, .ref t50]) t51 = some (.tup [.ref a48, .ref a49, .ref t50]) := upd_same
    generalize upd H55 t51 (.tup [.ref a48, .ref a49, .ref t50]) = H56 at s56 kt51
    have b56 : Same H H56 := fun _ _ e => s56 _ _ (b55 _ _ e)
    have hx56 := hx0.same b56
    have stg_56 := stg_55.same s56
    have qa48_56 := qa48_55.same s56
    have qa49_56 := qa49_55.same s56
    obtain ⟨ys, hF, pr⟩ := id stg_56
    have lF : t50 ≠ F := fun z => by rw [← z, ht50] at hF54; cases hF54
    refine ⟨F, ys, _, rfl, rfl, hF, by rw [pr.length]; show 12 < sizeLine; decide, ?_⟩
    have ent : Ent Cs x F H56 (.ref t51) 12 := ⟨t51, a48, a49, t50, rfl, kt51, qa48_56.exi, qa49_56.exi, s56 _ _ kt50, lF⟩
    have stg_57 := stg_app hF pr ent
    have b57 : Same H (upd H56 F (.lst (ys ++ [.ref t51]))) := fun b o e => by rw [upd_ne (ne_of_none e nF)]; exact b56 _ _ e
    generalize upd H56 F (.lst (ys ++ [.ref t51])) = H57 at stg_57 b57
    have hx57 := hx0.same b57
    clear ent hF pr
    intro e13 he13
    have s58 : Same H57 (upd H57 e13 (ExO (.ref (Cs 13)) e13)) := same_new he13
    have ze13_58 : ExI (upd H57 e13 (ExO (.ref (Cs 13)) e13)) e13 (Cs 13) := ExI.of_ExO upd_same
    generalize upd H57 e13 (ExO (.ref (Cs 13)) e13) = H58 at s58 ze13_58
    have b58 : Same H H58 := fun _ _ e => s58 _ _ (b57 _ _ e)
    have hx58 := hx0.same b58
    have stg_58 := stg_57.same s58
    intro e14 he14
    have s59 : Same H58 (upd H58 e14 (ExO (.ref (Cs 14)) e14)) := same_new he14
    have ze14_59 : ExI (upd H58 e14 (ExO (.ref (Cs 14)) e14)) e14 (Cs 14) := ExI.of_ExO upd_same
    generalize upd H58 e14 (ExO (.ref (Cs 14)) e14) = H59 at s59 ze14_59
    have b59 : Same H H59 := fun _ _ e => s59 _ _ (b58 _ _ e)
    have hx59 := hx0.same b59
    have stg_59 := stg_58.same s59
    have ze13_59 := ze13_58.same s59
    intro e15 he15
    have s60 : Same H59 (upd H59 e15 (ExO (.ref (Cs 15)) e15)) := same_new he15
    have ze15_60 : ExI (upd H59 e15 (ExO (.ref (Cs 15)) e15)) e15 (Cs 15) := ExI.of_ExO upd_same
    generalize upd H59 e15 (ExO (.ref (Cs 15)) e15) = H60 at s60 ze15_60
    have b60 : Same H H60 := fun _ _ e => s60 _ _ (b59 _ _ e)
    have hx60 := hx0.same b60
    have stg_60 := stg_59.same s60
    have ze13_60 := ze13_59.same s60
    have ze14_60 := ze14_59.same s60
    intro e16 he16
    have s61 : Same H60 (upd H60 e16 (ExO (.ref (Cs 16)) e16)) := same_new he16
    have ze16_61 : ExI (upd H60 e16 (ExO (.ref (Cs 16)) e16)) e16 (Cs 16) := ExI.of_ExO upd_same
    generalize upd H60 e16 (ExO (.ref (Cs 16)) e16) = H61 at s61 ze16_61
    have b61 : Same H H61 := fun _ _ e => s61 _ _ (b60 _ _ e)
    have hx61 := hx0.same b61
    have stg_61 := stg_60.same s61
    have ze13_61 := ze13_60.same s61
    have ze14_61 := ze14_60.same s61
    have ze15_61 := ze15_60.same s61
    obtain ⟨yL, hFL, _⟩ := id stg_61
    refine ⟨by show 4 ≤ sizeLine; decide, fun t52 ht52 => ?_⟩
    have s62 : Same H61 (upd H61 t52 (.lst [.ref e13, .ref e14, .ref e15, .ref e16])) := same_new ht52
    have kt52 : upd H61 t52 (.lst [.ref e13, .ref e14, .ref e15, .ref e16]) t52 = some (.lst [.ref e13, .ref e14, .ref e15, .ref e16]) := upd_same
    generalize upd H61 t52 (.lst [.ref e13, .ref e14, .ref e15, .ref e16]) = H62 at s62 kt52
    have b62 : Same H H62 := fun _ _ e => s62 _ _ (b61 _ _ e)
    have hx62 := hx0.same b62
    have stg_62 := stg_61.same s62
    have ze13_62 := ze13_61.same s62
    have ze14_62 := ze14_61.same s62
    have ze15_62 := ze15_61.same s62
    have ze16_62 := ze16_61.same s62
    have prs : Paired (fun (v : V) (j : Nat) => ∃ e, v = .ref e ∧ ExI H62 e (Cs j)) [.ref e13, .ref e14, .ref e15, .ref e16] [13, 14, 15, 16] := .cons ⟨_, rfl, ze13_62⟩ (.cons ⟨_, rfl, ze14_62⟩ (.cons ⟨_, rfl, ze15_62⟩ (.cons ⟨_, rfl, ze16_62⟩ .nil)))
    have hL : H62 t52 = some (.lst [.ref e13, .ref e14, .ref e15, .ref e16]) := kt52
    obtain ⟨ys0, hF0, pr0⟩ := id stg_62
    have LF : t52 ≠ F := fun z => by rw [← z, ht52] at hFL; cases hFL
    generalize [V.ref e13, .ref e14, .ref e15, .ref e16] = xs at prs hL
    have lxs := prs.length
    refine ⟨t52, rfl, ⟨_, SqL.of hL⟩, for_list (K := K) (a := t52) (xs := xs) (fun i σ H' => ∃ w7, σ = [some x, some (.ref a44), some (.ref a45), some (.ref F), some (.ref a48), some (.ref a49), some (.ref t31), w7] ∧ Stg Cs x F ([0, 1, 2, 3, 4, 5, 6, 7, 8, 9, 10, 11, 12] ++ ([13, 14, 15, 16] : List Nat).take i) H' ∧ Same H H' ∧ Kp F H62 H') ⟨_, rfl, ⟨ys0, hF0, pr0⟩, b62, fun _ _ _ e => e⟩ (fun i σ H' _ ⟨_, _, _, _, k⟩ => SqL.of (k _ _ LF hL)) ?_ ?_⟩
    · rintro i y σ Hi hy ⟨w7, rfl, ⟨ys, hF, pr⟩, bi, ki⟩
      obtain ⟨j, hj, e, rfl, he⟩ : ∃ j, ([13, 14, 15, 16] : List Nat)[i]? = some j ∧ ∃ e, y = .ref e ∧ ExI H62 e (Cs j) := pair_get prs hy
      have he2 := exi_kp he hF0 ki
      refine ⟨_, rfl, .inl ⟨rfl, _, SqL.of hF⟩, ?_⟩
      refine ⟨_, rfl, _, rfl, _, rfl, _, rfl, by show 2 ≤ sizeLine; decide, fun l hl => ?_⟩
      have u1 : Same Hi (upd Hi l (.lst [x, x])) := same_new hl
      have lF : l ≠ F := fun z => by rw [z, hF] at hl; cases hl
      have kl : upd Hi l (.lst [x, x]) l = some (.lst [x, x]) := upd_same
      generalize upd Hi l (.lst [x, x]) = Hj at u1 kl
      refine ⟨by show 3 ≤ sizeLine; decide, fun t2 ht2 => ?_⟩
      have u2 : Same Hj (upd Hj t2 (.tup [.ref e, .ref e, .ref l])) := same_new ht2
      have kt : upd Hj t2 (.tup [.ref e, .ref e, .ref l]) t2 = some (.tup [.ref e, .ref e, .ref l]) := upd_same
      generalize upd Hj t2 (.tup [.ref e, .ref e, .ref l]) = Hk at u2 kt
      have u : Same Hi Hk := fun _ _ e => u2 _ _ (u1 _ _ e)
      have ent : Ent Cs x F Hk (.ref t2) j := ⟨t2, e, e, l, rfl, kt, he2.same u, he2.same u, u2 _ _ kl, lF⟩
      have ly : ys.length ≤ 40 := by rw [pr.length, List.length_append, List.length_take]; show 13 + min i 4 ≤ 40; omega
      refine ⟨F, ys, _, rfl, rfl, u _ _ hF, Nat.lt_of_lt_of_le (show ys.length < 41 by omega) (by decide), ?_⟩
      refine ⟨_, rfl, ?_, fun c o e => by rw [upd_ne (ne_of_none e nF)]; exact u _ _ (bi _ _ e), fun c o h e => by rw [upd_ne h]; exact u _ _ (ki _ _ h e)⟩
      have st := stg_app (u _ _ hF) (pairs_kp pr hF (kp_same u)) ent
      rw [List.take_add_one, hj, ← List.append_assoc]
      exact st
    rintro σ H' ⟨w7, rfl, st, bE, _⟩
    rw [show xs.length = 4 from lxs] at st
    exact ⟨_, rfl, q F H' nF bE st⟩
end
end K10
set_option Elab.async false
set_option linter.all false
set_option maxRecDepth 100000
set_option maxHeartbeats 4000000
namespace K10
open PySem PySem.Spec PyProof.Rows L2 Evl LK
/-! a refusal that is raised and taken as a StillError -/
structure TTk (K : PySem.W.Frag) (S : Addr) (Cs : Nat → Addr) : Prop where
  exm : ∀ j, j < 17 → PySem.W.exmOne K (.ref (Cs j)) (.ref S) = some true
  ty : ∀ j, j < 17 → PySem.W.typeIn K (.ref (Cs j)) = some (.type "type")
def dueK (k : Nat) : Nat := if k ∈ [0, 4, 11, 14] then k else 16
theorem dueK_lt {k : Nat} (h : k < 17) : dueK k < 17 := by
  unfold dueK
  split
  · exact h
  · decide
def spTaken : Sp := fun vs H Q _ => ∃ k : Nat, vs = [.int (k : Int)] ∧ k < 17 ∧ ∀ H', Same H H' → Q (.bl true) H'
section
variable {P : Program} {w : World} {K : PySem.W.Frag} {mg : Str → Option Value} {base : Heap} {S : Addr} {Cs fI : Nat → Addr} {fd : Nat → FuncData}
theorem kinds_at {i m : Nat} {z : V} (h : (kindsL i)[m]? = some z) : z = .bl (decide (i = m)) := by
  unfold kindsL at h
  rw [List.getElem?_map] at h
  cases e : (List.range 17)[m]? with
  | none => rw [e] at h; cases h
  | some q =>
    rw [e] at h
    have hm : m < 17 := by
      have := (List.getElem?_eq_some_iff.mp e).1
      rw [List.length_range] at this
      exact this
    rw [List.getElem?_eq_getElem (by rw [List.length_range]; exact hm), List.getElem_range] at e
    have e2 : q = m := (Option.some.inj e).symm
    rw [e2] at h
    exact (Option.some.inj h).symm
theorem kinds_get {i : Nat} (h : i < 17) : (kindsL i)[i]? = some (.bl true) := by
  unfold kindsL
  rw [List.getElem?_map, List.getElem?_eq_getElem (by rw [List.length_range]; exact h), List.getElem_range]
  show some (V.bl (decide (i = i))) = _
  rw [decide_eq_true rfl]
theorem kinds_flat (i : Nat) : (kindsL i).all flatV = true := by
  unfold kindsL
  rw [List.all_eq_true]
  intro v hv
  obtain ⟨m, _, rfl⟩ := List.mem_map.mp hv
  rfl
theorem fmt_3 {H : Hp} : Fmt K H (.int 3) := .inr (.inr (.inl ⟨3, rfl, by decide +kernel, by decide +kernel⟩))
theorem scTaken : FnScope ["k", "caught", "e"] ["k"] (defScope s_law_taken) := ⟨rfl, rfl, rfl, by decide +kernel, rfl, by decide +kernel, by decide +kernel⟩
theorem ok_taken {f fK : Addr} {fd0 fdK : FuncData} (F : FnP K "_law_taken" s_law_taken f fd0) (FK : FnP K "_law_kinds" s_law_kinds fK fdK) (T : TAl P w K mg base S Cs fI fd) (TT : TTk K S Cs) (gS : mg "StillError" = some (.ref S)) (gK : mg "_law_kinds" = some (.ref fK))
    (GK : FnOk P w K mg base CX0 1 fK fdK ["e"] (spKinds Cs)) : FnOk P w K mg base CX0 3 f fd0 ["k"] spTaken := by
  have bK : Binds K fdK ["e"] [] := FK.bindsN fun _ _ _ _ _ _ us hl => match us, hl with | [_], _ => rfl
  have nd := scTaken.nd
  refine F.ok scTaken (fun vs H Q E h => ?_) (fun cdv A outer s H vs Q E hr h => ?_)
  · obtain ⟨k, rfl, _⟩ := h; rfl
  · obtain ⟨k, rfl, hk, q⟩ := h
    have hr2 : Room 2 _ := hr
    have hr1 : Room 1 _ := hr.mono (by decide)
    refine ⟨_, PSs.nox (pss_cons (ps_set (i := 1) nd rfl (Or.inl rfl) pe_non)
      (pss_cut (by exact (ps_try_asT (i := 2) rfl rfl nd rfl rfl ⟨rfl, by decide, Or.inl gS⟩
        (fun W pn xe tk _ => pss_one (ps_if (pt_cmpR op_eq (pv 0) pe_int (nomark _)) (pss_one (ps_raise rfl tk (pmk_oex T.m0.ox T.m0.iC T.m0.tI T.m0.ok hr2 T.m0.bi .nil pass0 rfl T.cs.g0 (pa_cons pe_int pa_nil))))
          (pss_one (ps_if (pt_cmpR op_eq (pv 0) pe_int (nomark _)) (pss_one (ps_raise rfl tk (pmk_oex T.m4.ox T.m4.iC T.m4.tI T.m4.ok hr2 T.m4.bi .nil pass0 rfl T.cs.g4 (pa_cons pe_int pa_nil))))
          (pss_one (ps_if (pt_cmpR op_eq (pv 0) pe_int (nomark _)) (pss_one (ps_raise rfl tk (pmk_oex T.m11.ox T.m11.iC T.m11.tI T.m11.ok hr2 T.m11.bi .nil pass0 rfl T.cs.g11 (pa_cons pe_int pa_nil))))
          (pss_one (ps_if (pt_cmpR op_eq (pv 0) pe_int (nomark _)) (pss_one (ps_raise rfl tk (pmk_own PySem.F.excBase_ValueError T.x14.1 T.cs.g14 T.x14.2 (raises_own (T.cs.ex 14 (by decide)).sb (TT.ty 14 (by decide))) (by exact rfl))))
          (pss_one (ps_raise rfl tk (pmk_own PySem.F.excBase_ValueError T.x16.1 T.cs.g16 T.x16.2 (raises_own (T.cs.ex 16 (by decide)).sb (TT.ty 16 (by decide))) (by exact rfl))))))))))))
        (fun a cls d pn => pss_one (ps_set (i := 1) nd rfl (Or.inl rfl) (pv 2)))))
      (pss_one (ps_ret (pe_cmpR op_eq (pe_bm PySem.F.plainAttrs_list PySem.F.slot_list_index PySem.F.type_list_index mt_index (pe_call GK hr1 rfl gK FK.kp bK .nil pass0 (pa_cons (pv 1) pa_nil)) (pa_cons pe_bl pa_nil))
        (pe_ifExp (pt_cmpR op_in_seq (pv 0) (pe_tup (pa_cons pe_int (pa_cons pe_int (pa_cons pe_int (pa_cons pe_int pa_nil))))) (by rfl)) (pv 0) pe_int) (nomark _)))))), ?_⟩
    refine ⟨fun σ' H' => ∃ b, σ' = [some (.int (k : Int)), some (.ref b), none] ∧ Same H H' ∧ ExI H' b (Cs (dueK k)), ?_, ?_⟩
    · have own : ∀ {j : Nat} {f : Str} (M : ExM P w K mg base (Cs j) (fI j) (fd j) f) {σ : L2.St} {Qx : XK}, (∀ d H', Same H H' → (∃ fs, H' d = some (.xd fs)) → Qx (.ref (Cs j)) (some d) H') →
          tMkO (Cs j) (spEI K f) [] (tCons (tC (.int 3)) tNil) σ H Qx := by
        intro j f M σ Qx go
        refine ⟨by show 1 ≤ 1000; decide, fun a ha => ⟨a, Cs j, .int 3, rfl, M.ox, M.no, upd_same, fmt_3, fun d H' hd ne kp ea ed => ⟨rfl, d, _, ea, ed, ?_, ?_⟩⟩⟩
        · rw [upd_ne ne] at hd
          exact hd
        · have hd0 : H d = none := by rw [upd_ne ne] at hd; exact hd
          refine go d _ (fun c o e => ?_) ⟨_, upd_same⟩
          rw [upd_ne (ne_of_none e hd0), del_ne (ne_of_none e ha)]
          exact kp c o (ne_of_none e ha) (same_new ha _ _ e)
      have num : ∀ (c : Int) (i : Nat), c = (i : Int) → decide (V.int (k : Int) = V.int c) = decide (k = i) := fun c i ec => by
        subst ec
        rw [int_dec]
        by_cases h : k = i
        · rw [h, decide_eq_true rfl, decide_eq_true rfl]
        · rw [decide_eq_false h, decide_eq_false fun z => h (by omega)]
      refine ⟨_, rfl, rfl, _, rfl, ?_⟩
      rw [num 0 0 rfl]
      by_cases h0 : k = 0
      · rw [decide_eq_true h0]
        refine iteT (own T.m0 fun d H' sH hd => ⟨TT.exm 0 (by decide), fun b hb => ⟨_, rfl, b, rfl, fun c o e => same_new hb _ _ (sH _ _ e), ?_⟩⟩)
        subst h0
        exact .of_exhd upd_same (same_new hb _ _ hd.choose_spec)
      rw [decide_eq_false h0]
      refine iteF ⟨_, rfl, rfl, _, rfl, ?_⟩
      rw [num 4 4 rfl]
      by_cases h4 : k = 4
      · rw [decide_eq_true h4]
        refine iteT (own T.m4 fun d H' sH hd => ⟨TT.exm 4 (by decide), fun b hb => ⟨_, rfl, b, rfl, fun c o e => same_new hb _ _ (sH _ _ e), ?_⟩⟩)
        subst h4
        exact .of_exhd upd_same (same_new hb _ _ hd.choose_spec)
      rw [decide_eq_false h4]
      refine iteF ⟨_, rfl, rfl, _, rfl, ?_⟩
      rw [num 11 11 rfl]
      by_cases h11 : k = 11
      · rw [decide_eq_true h11]
        refine iteT (own T.m11 fun d H' sH hd => ⟨TT.exm 11 (by decide), fun b hb => ⟨_, rfl, b, rfl, fun c o e => same_new hb _ _ (sH _ _ e), ?_⟩⟩)
        subst h11
        exact .of_exhd upd_same (same_new hb _ _ hd.choose_spec)
      rw [decide_eq_false h11]
      refine iteF ⟨_, rfl, rfl, _, rfl, ?_⟩
      rw [num 14 14 rfl]
      by_cases h14 : k = 14
      · rw [decide_eq_true h14]
        refine iteT ⟨TT.exm 14 (by decide), fun b hb => ⟨_, rfl, b, rfl, same_new hb, ?_⟩⟩
        subst h14
        exact .of_exh upd_same
      rw [decide_eq_false h14]
      have e16 : dueK k = 16 := by
        unfold dueK
        rw [if_neg]
        simp only [List.mem_cons, List.not_mem_nil, or_false]
        omega
      refine iteF ⟨TT.exm 16 (by decide), fun b hb => ⟨_, rfl, b, rfl, same_new hb, ?_⟩⟩
      rw [e16]
      exact .of_exh upd_same
    · rintro σ' H1 ⟨b, rfl, s1, he⟩
      refine ⟨_, rfl, b, dueK k, rfl, dueK_lt hk, he, fun D H2 _ s2 hD => ?_⟩
      refine ⟨.inl ⟨rfl, _, SqL.of hD⟩, ?_⟩
      refine ⟨D, kindsL (dueK k), .bl true, dueK k, .bl true, rfl, rfl, SqL.of hD, rfl, kinds_flat _, kinds_get (dueK_lt hk), rfl, fun m z hm hz => ?_, ?_⟩
      · rw [kinds_at hz, decide_eq_false (by omega)]; rfl
      refine ⟨_, rfl, by show 4 ≤ sizeLine; decide, fun t ht => ?_⟩
      refine ⟨t, _, rfl, .inr (SqT.of upd_same), rfl, rfl, _, rfl, ?_⟩
      have s3 : Same H (upd H2 t (.tup [.int 0, .int 4, .int 11, .int 14])) := fun c o e => same_new ht _ _ (s2 _ _ (s1 _ _ e))
      by_cases hm : k ∈ [0, 4, 11, 14]
      · have ed : dueK k = k := if_pos hm
        have et : inV (V.int (k : Int)) [.int 0, .int 4, .int 11, .int 14] = true := by
          simp only [List.mem_cons, List.not_mem_nil, or_false] at hm
          rcases hm with rfl | rfl | rfl | rfl <;> rfl
        show if inV (V.int (k : Int)) [.int 0, .int 4, .int 11, .int 14] = true then _ else _
        rw [et]
        refine iteT ⟨_, rfl, rfl, ?_⟩
        rw [ed, decide_eq_true rfl]
        exact q _ s3
      · have ed : dueK k = 16 := if_neg hm
        have et : inV (V.int (k : Int)) [.int 0, .int 4, .int 11, .int 14] = false := by
          have hk' : k = 0 ∨ k = 1 ∨ k = 2 ∨ k = 3 ∨ k = 4 ∨ k = 5 ∨ k = 6 ∨ k = 7 ∨ k = 8 ∨ k = 9 ∨ k = 10 ∨ k = 11 ∨ k = 12 ∨ k = 13 ∨ k = 14 ∨ k = 15 ∨ k = 16 := by omega
          rcases hk' with rfl | rfl | rfl | rfl | rfl | rfl | rfl | rfl | rfl | rfl | rfl | rfl | rfl | rfl | rfl | rfl | rfl <;> first | rfl | exact absurd (by decide) hm
        show if inV (V.int (k : Int)) [.int 0, .int 4, .int 11, .int 14] = true then _ else _
        rw [et]
        refine iteF ⟨rfl, ?_⟩
        rw [ed]
        exact q _ s3
end
end K10
set_option Elab.async false
set_option linter.all false
set_option maxRecDepth 100000
set_option maxHeartbeats 2000000
namespace LK
open PySem PySem.Spec PyProof.Rows L2 Evl
/-! ### what stands in a part, its size -/
mutual
def sizeD : PyData → Nat
  | .tuple l => 1 + sizeL l
  | .list l => 1 + sizeL l
  | _ => 1
def sizeL : List PyData → Nat
  | [] => 0
  | d :: r => sizeD d + sizeL r
end
def insideD (k : Str) : PyData → List (Str × PyData)
  | .tuple ds =>
    if k = "body" then ds.map fun d => (("statement" : Str), d)
    else if k = "things" then ds.map fun d => (("expression" : Str), d)
    else if k = "statement" ∨ k = "expression" then ((kindsD k (.tuple ds)).getD []).zip ds.tail
    else []
  | _ => []
def isWhD : PyData → Bool
  | .tuple ds => isWh ds
  | _ => false
def loopD (k : Str) (l : Bool) (d : PyData) : Bool := if k = "statement" then l || isWhD d else l
theorem okA_eq (cs : List (Str × Int)) (k : Str) (l : Bool) : ∀ ds : List PyData, okA cs k l ds = (ds.map fun d => (k, d)).all fun p => okD cs p.1 l p.2
  | [] => by unfold okA; rfl
  | d :: r => by
    unfold okA
    rw [okA_eq cs k l r]; rfl
theorem okZ_eq (cs : List (Str × Int)) (l : Bool) : ∀ (ks : List Str) (ds : List PyData), okZ cs ks l ds = (ks.zip ds).all fun p => okD cs p.1 l p.2
  | [], [] => by unfold okZ; rfl
  | [], _ :: _ => by unfold okZ; rfl
  | _ :: _, [] => by unfold okZ; rfl
  | k :: ks, d :: r => by
    unfold okZ
    show (okD cs k l d && okZ cs ks l r) = _
    rw [okZ_eq cs l ks r]; rfl
theorem okR_eq (cs : List (Str × Int)) (l : Bool) (ks : List Str) (ds : List PyData) : okR cs ks l ds = (ks.zip ds.tail).all fun p => okD cs p.1 l p.2 := by
  cases ds with
  | nil => unfold okR; cases ks <;> rfl
  | cons d r => unfold okR; rw [okZ_eq]; rfl
theorem in_t (k : Str) (ds : List PyData) : insideD k (.tuple ds) = (if k = "body" then ds.map fun d => (("statement" : Str), d) else if k = "things" then ds.map fun d => (("expression" : Str), d)
    else if k = "statement" ∨ k = "expression" then ((kindsD k (.tuple ds)).getD []).zip ds.tail else []) := rfl
theorem okD_t (cs : List (Str × Int)) (k : Str) (l : Bool) (ds : List PyData) : okD cs k l (.tuple ds) = (isPartD k (.tuple ds) &&
    (if k = "body" then okA cs "statement" l ds else if k = "things" then okA cs "expression" l ds
     else if k = "statement" then mayD cs l (.tuple ds) && okR cs ((kindsD k (.tuple ds)).getD []) (l || isWh ds) ds
     else if k = "expression" then okR cs ((kindsD k (.tuple ds)).getD []) l ds else true)) := by
  unfold okD
  rfl
theorem loop_s (l : Bool) (ds : List PyData) : loopD "statement" l (.tuple ds) = (l || isWh ds) := if_pos rfl
theorem loop_n {k : Str} (h : ¬ k = "statement") (l : Bool) (d : PyData) : loopD k l d = l := if_neg h
theorem okD_step (cs : List (Str × Int)) (k : Str) (l : Bool) (d : PyData) :
    okD cs k l d = (isPartD k d && ((!decide (k = "statement") || mayD cs l d) && (insideD k d).all fun p => okD cs p.1 (loopD k l d) p.2)) := by
  have leaf : ∀ d : PyData, (∀ ds, d ≠ .tuple ds) → okD cs k l d = isPartD k d → okD cs k l d = (isPartD k d && ((!decide (k = "statement") || mayD cs l d) && (insideD k d).all fun p => okD cs p.1 (loopD k l d) p.2)) := by
    intro d nd e
    rw [e]
    have ei : insideD k d = [] := by
      cases d <;> first | rfl | exact absurd rfl (nd _)
    rw [ei]
    by_cases hk : k = "statement"
    · have : isPartD k d = false := by
        unfold isPartD
        rw [if_pos (.inl hk)]
        have : kindsD k d = none := by cases d <;> first | rfl | exact absurd rfl (nd _)
        rw [this]
      rw [this]; rfl
    · rw [decide_eq_false hk]
      show isPartD k d = (isPartD k d && ((true || _) && true))
      rw [Bool.true_or, Bool.true_and, Bool.and_true]
  cases d with
  | tuple ds =>
    rw [okD_t, in_t]
    by_cases h1 : k = "body"
    · rw [if_pos h1, if_pos h1, okA_eq, loop_n (by rw [h1]; decide +kernel), decide_eq_false (by rw [h1]; decide +kernel)]
      rfl
    rw [if_neg h1, if_neg h1]
    by_cases h2 : k = "things"
    · rw [if_pos h2, if_pos h2, okA_eq, loop_n (by rw [h2]; decide +kernel), decide_eq_false (by rw [h2]; decide +kernel)]
      rfl
    rw [if_neg h2, if_neg h2]
    by_cases h3 : k = "statement"
    · subst h3
      rw [if_pos rfl, if_pos (.inl rfl), okR_eq, loop_s, decide_eq_true rfl]
      rfl
    rw [if_neg h3]
    by_cases h4 : k = "expression"
    · subst h4
      rw [if_pos rfl, if_pos (.inr rfl), okR_eq, loop_n h3, decide_eq_false h3]
      rfl
    rw [if_neg h4, if_neg (fun h => h.elim h3 h4), decide_eq_false h3]
    rfl
  | none => exact leaf _ (fun _ h => nomatch h) (by unfold okD; rfl)
  | bool b => exact leaf _ (fun _ h => nomatch h) (by unfold okD; rfl)
  | int i => exact leaf _ (fun _ h => nomatch h) (by unfold okD; rfl)
  | str z => exact leaf _ (fun _ h => nomatch h) (by unfold okD; rfl)
  | list m => exact leaf _ (fun _ h => nomatch h) (by unfold okD; rfl)
  | dict m => exact leaf _ (fun _ h => nomatch h) (by unfold okD; rfl)
theorem size_map (k : Str) : ∀ ds : List PyData, ((ds.map fun d => (k, d)).map fun p => sizeD p.2).sum = sizeL ds
  | [] => rfl
  | d :: r => by
    show sizeD d + ((r.map fun d => (k, d)).map fun p => sizeD p.2).sum = sizeD d + sizeL r
    rw [size_map k r]
theorem size_zip : ∀ (ks : List Str) (ds : List PyData), ((ks.zip ds).map fun p => sizeD p.2).sum ≤ sizeL ds
  | [], ds => by show 0 ≤ _; exact Nat.zero_le _
  | _ :: _, [] => by show 0 ≤ _; exact Nat.zero_le _
  | k :: ks, d :: r => by
    show sizeD d + ((ks.zip r).map fun p => sizeD p.2).sum ≤ sizeD d + sizeL r
    have := size_zip ks r
    omega
theorem size_tail (ds : List PyData) : sizeL ds.tail ≤ sizeL ds := by
  cases ds with
  | nil => exact Nat.le_refl _
  | cons d r => show sizeL r ≤ sizeD d + sizeL r; omega
theorem size_pos (d : PyData) : 1 ≤ sizeD d := by
  cases d <;> first | exact Nat.le_refl _ | (show 1 ≤ 1 + _; omega)
theorem in_cases (k : Str) (ds : List PyData) : (insideD k (.tuple ds) = ds.map fun d => (("statement" : Str), d)) ∨ (insideD k (.tuple ds) = ds.map fun d => (("expression" : Str), d)) ∨ (∃ ks : List Str, insideD k (.tuple ds) = ks.zip ds.tail) ∨ insideD k (.tuple ds) = [] := by
  rw [in_t]
  by_cases h1 : k = "body"
  · exact .inl (if_pos h1)
  rw [if_neg h1]
  by_cases h2 : k = "things"
  · exact .inr (.inl (if_pos h2))
  rw [if_neg h2]
  by_cases h3 : k = "statement" ∨ k = "expression"
  · exact .inr (.inr (.inl ⟨_, if_pos h3⟩))
  · exact .inr (.inr (.inr (if_neg h3)))
theorem size_inside (k : Str) (d : PyData) : ((insideD k d).map fun p => sizeD p.2).sum + 1 ≤ sizeD d := by
  cases d with
  | tuple ds =>
    show _ + 1 ≤ 1 + sizeL ds
    have h : ((insideD k (.tuple ds)).map fun p => sizeD p.2).sum ≤ sizeL ds := by
      rcases in_cases k ds with e | e | ⟨ks, e⟩ | e
      · rw [e, size_map]; exact Nat.le_refl _
      · rw [e, size_map]; exact Nat.le_refl _
      · rw [e]; exact Nat.le_trans (size_zip _ _) (size_tail _)
      · rw [e]; exact Nat.zero_le _
    omega
  | _ => exact size_pos _
theorem small_inside {k : Str} {d : PyData} (h : smallD d = true) : ∀ p ∈ insideD k d, smallD p.2 = true := by
  cases d with
  | tuple ds =>
    have h' : smallL ds = true := h
    intro p hp
    rcases in_cases k ds with e | e | ⟨ks, e⟩ | e
    · rw [e] at hp
      obtain ⟨e, he, rfl⟩ := List.mem_map.mp hp
      exact smallL_mem h' he
    · rw [e] at hp
      obtain ⟨e, he, rfl⟩ := List.mem_map.mp hp
      exact smallL_mem h' he
    · rw [e] at hp
      have m := List.of_mem_zip (a := p.1) (b := p.2) hp
      exact smallL_mem h' (List.mem_of_mem_tail m.2)
    · rw [e] at hp
      cases hp
  | _ => intro p hp; cases hp
/-- pairs of a kind and a part, as they lie; the parts stand since H0 -/
inductive Prs (K : PySem.W.Frag) (H0 H : Hp) : List V → List (Str × PyData) → Prop
  | nil : Prs K H0 H [] []
  | cons {t : Addr} {k : Str} {x : V} {d : PyData} {vs : List V} {ws : List (Str × PyData)} (h : SqT K H t [.str k, x]) (dx : Dp K H0 x d) (r : Prs K H0 H vs ws) : Prs K H0 H (.ref t :: vs) ((k, d) :: ws)
/-- what waits: a kind, a part, whether within a while -/
inductive Its (K : PySem.W.Frag) (H0 H : Hp) : List V → List (Str × Bool × PyData) → Prop
  | nil : Its K H0 H [] []
  | cons {t : Addr} {k : Str} {l : Bool} {x : V} {d : PyData} {vs : List V} {ws : List (Str × Bool × PyData)} (h : SqT K H t [.str k, x, .bl l]) (dx : Dp K H0 x d) (s : smallD d = true) (r : Its K H0 H vs ws) : Its K H0 H (.ref t :: vs) ((k, l, d) :: ws)
section
variable {K : PySem.W.Frag} {H0 H H' : Hp}
theorem Its.tk {vs : List V} {ws : List (Str × Bool × PyData)} (h : Its K H0 H vs ws) (s : Tk H H') : Its K H0 H' vs ws := by
  induction h with
  | nil => exact .nil
  | cons e dx sm _ ih => exact .cons (s.seqT e) dx sm ih
theorem Its.app {vs us : List V} {ws zs : List (Str × Bool × PyData)} (h : Its K H0 H vs ws) (h2 : Its K H0 H us zs) : Its K H0 H (vs ++ us) (ws ++ zs) := by
  induction h with
  | nil => exact h2
  | cons e dx sm _ ih => exact .cons e dx sm ih
theorem Its.len {vs : List V} {ws : List (Str × Bool × PyData)} (h : Its K H0 H vs ws) : vs.length = ws.length := by
  induction h with
  | nil => rfl
  | cons _ _ _ _ ih => rw [List.length_cons, List.length_cons, ih]
/-- the last of them -/
theorem Its.last {vs : List V} {v : V} {ws : List (Str × Bool × PyData)} (h : Its K H0 H (vs ++ [v]) ws) : ∃ t k l x d us, v = .ref t ∧ ws = us ++ [(k, l, d)] ∧ SqT K H t [.str k, x, .bl l] ∧ Dp K H0 x d ∧ smallD d = true ∧ Its K H0 H vs us := by
  induction vs generalizing ws with
  | nil =>
    cases h with
    | cons e dx sm r =>
      cases r
      exact ⟨_, _, _, _, _, [], rfl, rfl, e, dx, sm, .nil⟩
  | cons a vs ih =>
    cases h with
    | cons e dx sm r =>
      obtain ⟨t, k, l, x, d, us, e1, e2, e3, e4, e5, e6⟩ := ih r
      exact ⟨t, k, l, x, d, _ :: us, e1, by rw [e2]; rfl, e3, e4, e5, .cons e dx sm e6⟩
theorem Prs.len {vs : List V} {ws : List (Str × PyData)} (h : Prs K H0 H vs ws) : vs.length = ws.length := by
  induction h with
  | nil => rfl
  | cons _ _ _ ih => rw [List.length_cons, List.length_cons, ih]
theorem Prs.at {vs : List V} {ws : List (Str × PyData)} (h : Prs K H0 H vs ws) : ∀ {i : Nat} {v : V}, vs[i]? = some v → ∃ t k x d, v = .ref t ∧ ws[i]? = some (k, d) ∧ SqT K H t [.str k, x] ∧ Dp K H0 x d := by
  induction h with
  | nil => intro i x h; simp at h
  | @cons t k x d vs ws e dx r ih =>
    intro i v h
    cases i with
    | zero => exact ⟨t, k, x, d, (Option.some.inj h).symm, rfl, e, dx⟩
    | succ i =>
      rw [List.getElem?_cons_succ] at h
      obtain ⟨t2, k2, x2, d2, h1, h2, h3⟩ := ih h
      exact ⟨t2, k2, x2, d2, h1, by rw [List.getElem?_cons_succ]; exact h2, h3⟩
end
def sumI (ws : List (Str × Bool × PyData)) : Nat := (ws.map fun p => sizeD p.2.2).sum
def okI (cs : List (Str × Int)) (ws : List (Str × Bool × PyData)) : Bool := ws.all fun p => okD cs p.1 p.2.1 p.2.2
theorem sumI_app (a b : List (Str × Bool × PyData)) : sumI (a ++ b) = sumI a + sumI b := by unfold sumI; rw [List.map_append, List.sum_append]
theorem okI_app (cs : List (Str × Int)) (a b : List (Str × Bool × PyData)) : okI cs (a ++ b) = (okI cs a && okI cs b) := by unfold okI; rw [List.all_append]
theorem len_sumI : ∀ ws : List (Str × Bool × PyData), ws.length ≤ sumI ws
  | [] => Nat.le_refl _
  | (k, l, d) :: ws => by
    show ws.length + 1 ≤ sizeD d + sumI ws
    have h1 := len_sumI ws
    have h2 := size_pos d
    omega
def tag (l : Bool) (ws : List (Str × PyData)) : List (Str × Bool × PyData) := ws.map fun p => (p.1, l, p.2)
theorem sum_tag (l : Bool) (ws : List (Str × PyData)) : sumI (tag l ws) = (ws.map fun p => sizeD p.2).sum := by unfold sumI tag; rw [List.map_map]; rfl
theorem ok_tag (cs : List (Str × Int)) (l : Bool) (ws : List (Str × PyData)) : okI cs (tag l ws) = ws.all fun p => okD cs p.1 l p.2 := by
  unfold okI tag
  rw [List.all_map]; rfl
theorem okD_no {cs : List (Str × Int)} {k : Str} {l : Bool} {d : PyData} (h : isPartD k d = false) : okD cs k l d = false := by rw [okD_step, h]; rfl
theorem okD_may {cs : List (Str × Int)} {l : Bool} {d : PyData} (h : mayD cs l d = false) : okD cs "statement" l d = false := by
  rw [okD_step, h, decide_eq_true rfl]
  show (_ && (false && _)) = false
  rw [Bool.false_and, Bool.and_false]
theorem okD_go {cs : List (Str × Int)} {k : Str} {l : Bool} {d : PyData} (h : isPartD k d = true) (h2 : k = "statement" → mayD cs l d = true) : okD cs k l d = okI cs (tag (loopD k l d) (insideD k d)) := by
  rw [okD_step, h, ok_tag]
  by_cases hk : k = "statement"
  · rw [h2 hk]
    show (true && ((_ || true) && _)) = _
    rw [Bool.or_true, Bool.true_and, Bool.true_and]
  · rw [decide_eq_false hk]
    show (true && ((true || _) && _)) = _
    rw [Bool.true_or, Bool.true_and, Bool.true_and]
end LK
set_option Elab.async false
set_option linter.all false
set_option maxRecDepth 100000
set_option maxHeartbeats 2000000
namespace LK
open PySem PySem.Spec PyProof.Rows L2 Evl
/-! ### the boxes of expressions and bodies, as they stand -/
def boxesE : Ex → List Str
  | .num _ => []
  | .non => []
  | .box b => [b]
  | .op _ a b => boxesE a ++ boxesE b
mutual
def boxesS : Sm → List Str
  | .set3 _ b e => b :: boxesE e
  | .one _ e => boxesE e
  | .jump _ => []
  | .make b _ es => b :: (es.map boxesE).flatten
  | .ifs e x y => boxesE e ++ boxesB x ++ boxesB y
  | .whl e x => boxesE e ++ boxesB x
  | .pull b _ e f x => b :: boxesE e ++ (boxesE f ++ boxesB x)
  | .tri x c y z => boxesB x ++ c.toList ++ (boxesB y ++ boxesB z)
def boxesB : List Sm → List Str
  | [] => []
  | s :: r => boxesS s ++ boxesB r
end
theorem boxesE_len {bs : List Str} {d : Nat} {e : Ex} (h : OkE bs d e) : (boxesE e).length ≤ 2 ^ d := by
  induction h with
  | num _ _ => exact Nat.zero_le _
  | non => exact Nat.zero_le _
  | box _ => exact Nat.one_le_two_pow
  | @op d w a b _ _ _ i1 i2 =>
    show (boxesE a ++ boxesE b).length ≤ 2 ^ (d + 1)
    rw [List.length_append, Nat.pow_succ]
    omega
theorem pow_small {d : Nat} (h : d ≤ 10) : 2 ^ d ≤ 1024 := Nat.le_trans (Nat.pow_le_pow_right (by decide) h) (by decide)
theorem boxesE_16 {bs : List Str} {q : Nat} (q4 : q ≤ 4) {e : Ex} (h : OkE bs q e) : (boxesE e).length ≤ 16 := Nat.le_trans (boxesE_len h) (Nat.le_trans (Nat.pow_le_pow_right (by decide) q4) (by decide))
theorem boxesF_16 {bs : List Str} {q : Nat} (q4 : q ≤ 4) : ∀ {es : List Ex}, (∀ e ∈ es, OkE bs q e) → (es.map boxesE).flatten.length ≤ 16 * es.length
  | [], _ => Nat.zero_le _
  | e :: es, h => by
    have h1 := boxesE_16 q4 (h e List.mem_cons_self)
    have h2 := boxesF_16 q4 fun x hx => h x (List.mem_cons_of_mem _ hx)
    rw [List.map_cons, List.flatten_cons, List.length_append, List.length_cons]
    omega
theorem boxesB_60 : ∀ {x : List Sm}, (∀ s ∈ x, (boxesS s).length ≤ 60 * cnt s) → (boxesB x).length ≤ 60 * cnts x
  | [], _ => Nat.zero_le _
  | s :: x, h => by
    have h1 := h s List.mem_cons_self
    have h2 := boxesB_60 fun y hy => h y (List.mem_cons_of_mem _ hy)
    show (boxesS s ++ boxesB x).length ≤ 60 * (cnt s + cnts x)
    rw [List.length_append]
    omega
theorem boxesS_60 {bs : List Str} {ms : List (Str × Nat)} {q d : Nat} {l : Bool} {s : Sm} (q4 : q ≤ 4) (m3 : ∀ u ∈ ms, u.2 ≤ 3) (h : OkS bs ms q d l s) : (boxesS s).length ≤ 60 * cnt s := by
  induction h with
  | @set3 d l w b e hw hb he =>
    have := boxesE_16 q4 he
    show (b :: boxesE e).length ≤ 60 * 1
    rw [List.length_cons]; omega
  | @one d l w e hw he => have := boxesE_16 q4 he; show (boxesE e).length ≤ 60 * 1; omega
  | jump _ => exact Nat.zero_le _
  | @make d l b n es hb hn he =>
    have h1 := boxesF_16 q4 he
    have h2 : es.length ≤ 3 := m3 _ hn
    show (b :: (es.map boxesE).flatten).length ≤ 60 * 1
    rw [List.length_cons]; omega
  | @ifs d l e x y he hx hy i1 i2 =>
    have h0 := boxesE_16 q4 he
    have h1 := boxesB_60 i1
    have h2 := boxesB_60 i2
    show (boxesE e ++ boxesB x ++ boxesB y).length ≤ 60 * (1 + cnts x + cnts y)
    rw [List.length_append, List.length_append]; omega
  | @whl d l e x he hx i1 =>
    have h0 := boxesE_16 q4 he
    have h1 := boxesB_60 i1
    show (boxesE e ++ boxesB x).length ≤ 60 * (1 + cnts x)
    rw [List.length_append]; omega
  | @pull d l b w e f x hb hw he hf hx i1 =>
    have h0 := boxesE_16 q4 he
    have h2 := boxesE_16 q4 hf
    have h1 := boxesB_60 i1
    show (b :: boxesE e ++ (boxesE f ++ boxesB x)).length ≤ 60 * (1 + cnts x)
    rw [List.length_append, List.length_append, List.length_cons]; omega
  | @fin d l x z hx hz hn i1 i2 =>
    have h1 := boxesB_60 i1
    have h2 := boxesB_60 i2
    show (boxesB x ++ [] ++ ([] ++ boxesB z)).length ≤ 60 * (1 + cnts x + 0 + cnts z)
    rw [List.length_append, List.length_append, List.length_append, List.length_nil]; omega
  | @tri d l x y z c hc hx hy hz i1 i2 i3 =>
    have h1 := boxesB_60 i1
    have h2 := boxesB_60 i2
    have h3 := boxesB_60 i3
    show (boxesB x ++ [c] ++ (boxesB y ++ boxesB z)).length ≤ 60 * (1 + cnts x + cnts y + cnts z)
    rw [List.length_append, List.length_append, List.length_append, List.length_cons, List.length_nil]; omega
theorem boxesB_snoc (x : List Sm) (s : Sm) : boxesB (x ++ [s]) = boxesB x ++ boxesS s := by
  induction x with
  | nil => show boxesS s ++ [] = [] ++ boxesS s; simp
  | cons a x ih => show boxesS a ++ boxesB (x ++ [s]) = boxesS a ++ boxesB x ++ boxesS s; rw [ih, List.append_assoc]
theorem in_list {k : Str} (l : List Str) : inV (.str k) (l.map V.str) = decide (k ∈ l) := in_strs k l
theorem dp_sm_at {K : PySem.W.Frag} {H : Hp} : ∀ {x : List Sm} {vs : List V} {i : Nat} {y : V}, DpAll K H vs (smsD x) → vs[i]? = some y → ∃ s, x[i]? = some s ∧ Dp K H y (smD s)
  | [], _, i, y, h, e => by cases h; simp at e
  | s :: x, vs, i, y, h, e => by
    cases h with
    | cons h1 h2 =>
      cases i with
      | zero => exact ⟨s, rfl, by rw [← Option.some.inj e]; exact h1⟩
      | succ i =>
        rw [List.getElem?_cons_succ] at e
        obtain ⟨s2, e2, d2⟩ := dp_sm_at h2 e
        exact ⟨s2, by rw [List.getElem?_cons_succ]; exact e2, d2⟩
theorem cnts_take (x : List Sm) (i : Nat) : cnts (x.take i) ≤ cnts x := by
  have h := cnts_app (x.take i) (x.drop i)
  rw [List.take_append_drop] at h
  omega
theorem cnt_mem {x : List Sm} {s : Sm} (h : s ∈ x) : cnt s ≤ cnts x := by
  induction x with
  | nil => cases h
  | cons a x ih =>
    show cnt s ≤ cnt a + cnts x
    rcases List.mem_cons.mp h with rfl | h
    · omega
    · have := ih h; omega
theorem dp2 {K : PySem.W.Frag} {H : Hp} {vs : List V} {a b : PyData} (h : DpAll K H vs [a, b]) : ∃ x y, vs = [x, y] ∧ Dp K H x a ∧ Dp K H y b := by
  cases h with | cons h1 h => cases h with | cons h2 h => cases h; exact ⟨_, _, rfl, h1, h2⟩
theorem dp1 {K : PySem.W.Frag} {H : Hp} {vs : List V} {a : PyData} (h : DpAll K H vs [a]) : ∃ x, vs = [x] ∧ Dp K H x a := by
  cases h with | cons h1 h => cases h; exact ⟨_, rfl, h1⟩
theorem dp_str {K : PySem.W.Frag} {H : Hp} {v : V} {z : Str} (h : Dp K H v (.str z)) : v = .str z := by cases h; rfl
theorem dp5 {K : PySem.W.Frag} {H : Hp} {vs : List V} {a b c d e : PyData} (h : DpAll K H vs [a, b, c, d, e]) : ∃ x y z w u, vs = [x, y, z, w, u] ∧ Dp K H x a ∧ Dp K H y b ∧ Dp K H z c ∧ Dp K H w d ∧ Dp K H u e := by
  cases h with | cons h1 h => obtain ⟨y, z, w, u, rfl, h2, h3, h4, h5⟩ := dp4 h; exact ⟨_, _, _, _, _, rfl, h1, h2, h3, h4, h5⟩
theorem dp6 {K : PySem.W.Frag} {H : Hp} {vs : List V} {a b c d e f : PyData} (h : DpAll K H vs [a, b, c, d, e, f]) : ∃ x y z w u v, vs = [x, y, z, w, u, v] ∧ Dp K H x a ∧ Dp K H y b ∧ Dp K H z c ∧ Dp K H w d ∧ Dp K H u e ∧ Dp K H v f := by
  cases h with | cons h1 h => obtain ⟨y, z, w, u, v, rfl, h2, h3, h4, h5, h6⟩ := dp5 h; exact ⟨_, _, _, _, _, _, rfl, h1, h2, h3, h4, h5, h6⟩
theorem dp_ex_at {K : PySem.W.Frag} {H : Hp} : ∀ {x : List Ex} {vs : List V} {i : Nat} {y : V}, DpAll K H vs (x.map exD) → vs[i]? = some y → ∃ e, x[i]? = some e ∧ Dp K H y (exD e)
  | [], _, i, y, h, e => by cases h; simp at e
  | s :: x, vs, i, y, h, e => by
    cases h with
    | cons h1 h2 =>
      cases i with
      | zero => exact ⟨s, rfl, by rw [← Option.some.inj e]; exact h1⟩
      | succ i =>
        rw [List.getElem?_cons_succ] at e
        obtain ⟨s2, e2, d2⟩ := dp_ex_at h2 e
        exact ⟨s2, by rw [List.getElem?_cons_succ]; exact e2, d2⟩
end LK
set_option Elab.async false
set_option linter.all false
set_option maxRecDepth 100000
set_option maxHeartbeats 2000000
namespace LK
open PySem PySem.Spec PyProof.Rows
/-! ### list(zip(t, u)) of two tuples -/
theorem zl_len : typeLookup (Value.type "zip") (Str.ofString "__len__") = pure none := by rfl
theorem zl_hint0 : typeLookup (Value.type "zip") (Str.ofString "__length_hint__") = pure none := by rfl
theorem zl_hint {prog : Program} {w : World} {A : Around} {E : Value → Shared → Prop} {s : Shared} {r : Addr}
    (hT : s.TypeIs (Value.ref r) "zip") {Q : Bool → Shared → Prop} (h : Q true s) : wpAny (model prog w) A (Builtin.List.listLengthHint (Value.ref r)) Q E s := by
  unfold Builtin.List.listLengthHint
  refine wpAny_bind (wpAny_specialOf hT zl_len ?_)
  refine wpAny_bind (wpAny_specialOf hT zl_hint0 ?_)
  exact wpAny_pure h
theorem zl_alive {M : Model} {A : Around} {E : Value → Shared → Prop} {s : Shared} {a : Addr} {o : Obj} {Q : Option Obj → Shared → Prop} (ho : s.heap.get? a = some o) (h : Q (some o) s) : wpAny M A (loadIfAlive a) Q E s := by
  intro Γ p hΓ
  unfold loadIfAlive
  rw [Sem.wp_loadIfAlive, ho]
  exact h
/-- a zip that has handed out the tuple at T -/
def ZipH (h : Heap) (z TI TO T : Addr) (b : Bool) : Prop :=
  h.get? z = some { cls := Value.type "zip", data := Data.fields #[rawInt T, Value.bool b, Value.bool false, Value.ref TI, Value.ref TO] }
theorem zl_free {prog : Program} {w : World} {A : Around} {E : Value → Shared → Prop} {s : Shared} {z TI TO T : Addr} {bb : Bool} {oT : Obj} (hz : ZipH s.heap z TI TO T bb) (hT : s.heap.get? T = some oT) :
    wpAny (model prog w) A (Builtin.SmallTypes.ownedTupleIsFree (Value.ref z)) (fun a s' => a = false ∧ ∃ h₁ : Heap, s' = { heap := h₁, gens := s.gens, drawn := s.drawn, toks := s.toks, os := s.os } ∧ ZipH h₁ z TI TO T true ∧ h₁.objs.size = s.heap.objs.size ∧
      ∀ (c : Addr) (o : Obj), c ≠ z → s.heap.get? c = some o → h₁.get? c = some o) E s := by
  unfold Builtin.SmallTypes.ownedTupleIsFree
  refine wpAny_bind (wpAny_field hz rfl rfl ?_)
  have e0 : #[rawInt (T : Int), Value.bool bb, Value.bool false, Value.ref TI, Value.ref TO][0] = Value.int (T : Int) 0 := rfl
  rw [e0]
  refine wpAny_bind (zl_alive (a := (T : Int).toNat) (o := oT) hT ?_)
  show wpAny _ _ (if (some oT).isNone = true then _ else _) _ _ _
  rw [if_neg (fun h => by cases h)]
  refine wpAny_bind (wpAny_field hz rfl rfl ?_)
  cases bb with
  | true =>
    show wpAny _ _ (if (Value.bool true != Value.bool true) = true then _ else _) _ _ _
    rw [if_neg (by decide)]
    exact wpAny_pure ⟨rfl, s.heap, rfl, hz, rfl, fun _ _ _ e => e⟩
  | false =>
    show wpAny _ _ (if (Value.bool false != Value.bool true) = true then _ else _) _ _ _
    rw [if_pos (by decide)]
    refine wpAny_bind (wpAny_setField hz rfl (by show 1 < 5; decide) ?_)
    refine wpAny_pure ⟨rfl, _, rfl, ?_, ?_, fun c o hc e => ?_⟩
    · exact Heap.get?_update_self _ hz rfl
    · exact Heap.size_update _ _ _
    · exact (Heap.get?_update_other _ _ (Ne.symm hc)).trans e
theorem zl_next {prog : Program} {w : World} {A : Around} {E : Value → Shared → Prop} {s : Shared} {z TI TO T i1 i2 l1 l2 : Addr} {bb : Bool} {k1 k2 : Nat} {xs ys : Array Value} {x y : Value} {oT : Obj} {Q : Value → Shared → Prop}
    (D : ZipApart z TI TO i1 i2 l1 l2) (hz : ZipH s.heap z TI TO T bb) (hTI : IsPair s.heap TI (Value.ref i1) (Value.ref i2)) (hT : s.heap.get? T = some oT) (h1 : s.heap.IsTupleIter i1 l1 k1) (h2 : s.heap.IsTupleIter i2 l2 k2)
    (hl1 : s.heap.IsTuple l1 xs) (hl2 : s.heap.IsTuple l2 ys) (hx : xs[k1]? = some x) (hy : ys[k2]? = some y)
    (hQ : ∀ h' : Heap, ZipH h' z TI TO T true → h'.IsTupleIter i1 l1 (k1 + 1) → h'.IsTupleIter i2 l2 (k2 + 1) → IsPair h' s.heap.objs.size x y → h'.objs.size = s.heap.objs.size + 1 →
      (∀ (c : Addr) (o : Obj), c ≠ z → c ≠ i1 → c ≠ i2 → s.heap.get? c = some o → h'.get? c = some o) → Q (Value.ref s.heap.objs.size) { heap := h', gens := s.gens, drawn := s.drawn, toks := s.toks, os := s.os }) :
    wpAny (model prog w) A (Builtin.«zip.__next__» { pos := [Value.ref z] }) (fun fin s' => ∃ v, fin = Fin.done (Flow.ret v) ∧ Q v s') E s := by
  unfold Builtin.«zip.__next__»
  refine wpAny_bind (wpAny_pure ?_)
  show wpAny _ _ _ _ _ _
  refine wpAny_bind (wpAny_field hz rfl rfl ?_)
  refine wpAny_bind (wpAny_field hz rfl rfl ?_)
  refine wpAny_bind (wpAny_seqItems hTI rfl ?_)
  refine wpAny_bind ?_
  refine wpAny_mono (zl_free hz hT) ?_ (fun _ _ h => h)
  rintro a s' ⟨rfl, h₁, rfl, hz₁, hs₁, k₁⟩
  simp only [← Array.forIn_toList, List.forIn_cons, List.forIn_nil]
  rw [if_neg Bool.false_ne_true]
  have t1 : h₁.IsTupleIter i1 l1 k1 := by
    obtain ⟨o, e, r⟩ := h1
    exact ⟨o, k₁ _ _ D.i1z e, r⟩
  have u1 : h₁.IsTuple l1 xs := by
    obtain ⟨o, e, r⟩ := hl1
    exact ⟨o, k₁ _ _ D.l1z e, r⟩
  refine wpAny_bind (wpAny_bind (wpAny_bind (wpAny_holding ?_)))
  show wpAny _ _ (do let r ← Builtin.SmallTypes.nextOf (Value.ref i1); pure (some r)) _ _ _
  refine wpAny_bind (RZ.nextOf_tuple_item t1 u1 hx fun h₂ t2 sb => wpAny_pure ?_)
  refine wpAny_pure ?_
  have k₂ : ∀ (c : Addr) (o : Obj), c ≠ z → c ≠ i1 → s.heap.get? c = some o → h₂.get? c = some o := fun c o n1 n2 e => (sb.2 c n2).trans (k₁ c o n1 e)
  have t3 : h₂.IsTupleIter i2 l2 k2 := by
    obtain ⟨o, e, r⟩ := h2
    exact ⟨o, k₂ _ _ D.i2z (Ne.symm D.i12) e, r⟩
  have u3 : h₂.IsTuple l2 ys := by
    obtain ⟨o, e, r⟩ := hl2
    exact ⟨o, k₂ _ _ D.l2z D.l2i1 e, r⟩
  refine wpAny_bind (wpAny_bind (wpAny_holding ?_))
  show wpAny _ _ (do let r ← Builtin.SmallTypes.nextOf (Value.ref i2); pure (some r)) _ _ _
  refine wpAny_bind (RZ.nextOf_tuple_item t3 u3 hy fun h₃ t4 sb2 => wpAny_pure ?_)
  refine wpAny_pure ?_
  refine wpAny_pure ?_
  show wpAny _ _ (do let r ← newTuple _; ret r) _ _ _
  refine wpAny_bind (wpAny_newTuple ?_ (by show 2 ≤ sizeLine; decide))
  refine wpAny_pure ⟨_, rfl, ?_⟩
  have e3 : h₃.objs.size = s.heap.objs.size := sb2.1.trans (sb.1.trans hs₁)
  have hz3 : ZipH h₃ z TI TO T true := (sb2.2 z (Ne.symm D.i2z)).trans ((sb.2 z (Ne.symm D.i1z)).trans hz₁)
  have t5 : h₃.IsTupleIter i1 l1 (k1 + 1) := by
    obtain ⟨o, e, r⟩ := t2
    exact ⟨o, (sb2.2 _ D.i12).trans e, r⟩
  have k₃ : ∀ (c : Addr) (o : Obj), c ≠ z → c ≠ i1 → c ≠ i2 → s.heap.get? c = some o → h₃.get? c = some o := fun c o n1 n2 n3 e => (sb2.2 c n3).trans (k₂ c o n1 n2 e)
  have q := hQ (h₃.push { cls := Value.type "tuple", data := Data.seq #[x, y] }) (Heap.get?_push_of_some _ hz3)
    (by obtain ⟨o, e, r⟩ := t5; exact ⟨o, Heap.get?_push_of_some _ e, r⟩) (by obtain ⟨o, e, r⟩ := t4; exact ⟨o, Heap.get?_push_of_some _ e, r⟩)
    (by rw [← e3]; exact Heap.get?_push_size h₃ rfl) (by rw [Heap.size_push, e3]) (fun c o n1 n2 n3 e => Heap.get?_push_of_some _ (k₃ c o n1 n2 n3 e))
  rw [← e3] at q
  exact q
theorem zl_stop {prog : Program} {w : World} {A : Around} {E : Value → Shared → Prop} {s : Shared} {z TI TO T i1 i2 l1 l2 : Addr} {bb : Bool} {k1 k2 : Nat} {xs ys : Array Value} {oT : Obj} {Q : PySem.Fin → Shared → Prop} (hh : A.handled = none)
    (D : ZipApart z TI TO i1 i2 l1 l2) (hz : ZipH s.heap z TI TO T bb) (hTI : IsPair s.heap TI (Value.ref i1) (Value.ref i2)) (hT : s.heap.get? T = some oT) (h1 : s.heap.IsTupleIter i1 l1 k1) (h2 : s.heap.IsTupleIter i2 l2 k2)
    (hl1 : s.heap.IsTuple l1 xs) (hl2 : s.heap.IsTuple l2 ys) (hend : xs[k1]? = none ∨ ys[k2]? = none)
    (hE : ∀ (h' : Heap) (e : Addr), (∀ (c : Addr) (o : Obj), c ≠ z → c ≠ i1 → c ≠ i2 → s.heap.get? c = some o → h'.get? c = some o) → (∃ o, h'.get? e = some o ∧ o.cls = Value.type "StopIteration") →
      E (Value.ref e) { heap := h', gens := s.gens, drawn := s.drawn, toks := s.toks, os := s.os }) :
    wpAny (model prog w) A (Builtin.«zip.__next__» { pos := [Value.ref z] }) Q E s := by
  unfold Builtin.«zip.__next__»
  refine wpAny_bind (wpAny_pure ?_)
  show wpAny _ _ _ _ _ _
  refine wpAny_bind (wpAny_field hz rfl rfl ?_)
  refine wpAny_bind (wpAny_field hz rfl rfl ?_)
  refine wpAny_bind (wpAny_seqItems hTI rfl ?_)
  refine wpAny_bind ?_
  refine wpAny_mono (zl_free hz hT) ?_ (fun _ _ h => h)
  rintro a s' ⟨rfl, h₁, rfl, hz₁, hs₁, k₁⟩
  simp only [← Array.forIn_toList, List.forIn_cons, List.forIn_nil]
  rw [if_neg Bool.false_ne_true]
  have t1 : h₁.IsTupleIter i1 l1 k1 := by
    obtain ⟨o, e, r⟩ := h1
    exact ⟨o, k₁ _ _ D.i1z e, r⟩
  have u1 : h₁.IsTuple l1 xs := by
    obtain ⟨o, e, r⟩ := hl1
    exact ⟨o, k₁ _ _ D.l1z e, r⟩
  refine wpAny_bind (wpAny_bind (wpAny_bind (wpAny_holding ?_)))
  show wpAny _ _ (do let r ← Builtin.SmallTypes.nextOf (Value.ref i1); pure (some r)) _ _ _
  cases hx : xs[k1]? with
  | none =>
    refine wpAny_bind (RZ.nextOf_tuple_end hh t1 u1 hx ?_)
    exact fun h' e eb st => hE h' e (fun c o n1 n2 n3 g => eb c o n2 (k₁ c o n1 g)) st
  | some x =>
    have hy : ys[k2]? = none := by
      rcases hend with e | e
      · rw [hx] at e; cases e
      · exact e
    refine wpAny_bind (RZ.nextOf_tuple_item t1 u1 hx fun h₂ t2 sb => wpAny_pure ?_)
    refine wpAny_pure ?_
    have k₂ : ∀ (c : Addr) (o : Obj), c ≠ z → c ≠ i1 → s.heap.get? c = some o → h₂.get? c = some o := fun c o n1 n2 e => (sb.2 c n2).trans (k₁ c o n1 e)
    have t3 : h₂.IsTupleIter i2 l2 k2 := by
      obtain ⟨o, e, r⟩ := h2
      exact ⟨o, k₂ _ _ D.i2z (Ne.symm D.i12) e, r⟩
    have u3 : h₂.IsTuple l2 ys := by
      obtain ⟨o, e, r⟩ := hl2
      exact ⟨o, k₂ _ _ D.l2z D.l2i1 e, r⟩
    refine wpAny_bind (wpAny_bind (wpAny_holding ?_))
    show wpAny _ _ (do let r ← Builtin.SmallTypes.nextOf (Value.ref i2); pure (some r)) _ _ _
    refine wpAny_bind (RZ.nextOf_tuple_end hh t3 u3 hy ?_)
    exact fun h' e eb st => hE h' e (fun c o n1 n2 n3 g => eb c o n3 (k₂ c o n1 n2 g)) st
/-- a zip as it stands in list's loop: new, or behind an item -/
def ZipS (h : Heap) (z TI TO : Addr) (i : Nat) : Prop :=
  (i = 0 ∧ IsZip h z TI TO Value.none ∧ ∃ a b, IsPair h TO a b) ∨ (∃ T b oT, ZipH h z TI TO T b ∧ h.get? T = some oT ∧ oT.cls = Value.type "tuple")
theorem ZipS.typeIs {s : Shared} {z TI TO : Addr} {i : Nat} (h : ZipS s.heap z TI TO i) : s.TypeIs (Value.ref z) "zip" := by
  rcases h with ⟨_, h, _⟩ | ⟨T, b, oT, h, _⟩
  · exact ⟨_, h, rfl⟩
  · exact ⟨_, h, rfl⟩
theorem zl_item {prog : Program} {w : World} {A : Around} {E : Value → Shared → Prop} {s : Shared} {z TI TO i1 i2 l1 l2 : Addr} {k : Nat} {xs ys : Array Value} {x y : Value} {Q : Option Value → Shared → Prop}
    (D : ZipApart z TI TO i1 i2 l1 l2) (hz : ZipS s.heap z TI TO k) (hTI : IsPair s.heap TI (Value.ref i1) (Value.ref i2)) (h1 : s.heap.IsTupleIter i1 l1 k) (h2 : s.heap.IsTupleIter i2 l2 k)
    (hl1 : s.heap.IsTuple l1 xs) (hl2 : s.heap.IsTuple l2 ys) (hx : xs[k]? = some x) (hy : ys[k]? = some y)
    (hQ : ∀ h' : Heap, ZipS h' z TI TO (k + 1) → h'.IsTupleIter i1 l1 (k + 1) → h'.IsTupleIter i2 l2 (k + 1) → IsPair h' s.heap.objs.size x y → h'.objs.size = s.heap.objs.size + 1 →
      (∀ (c : Addr) (o : Obj), c ≠ z → c ≠ TO → c ≠ i1 → c ≠ i2 → s.heap.get? c = some o → h'.get? c = some o) → Q (some (Value.ref s.heap.objs.size)) { heap := h', gens := s.gens, drawn := s.drawn, toks := s.toks, os := s.os }) :
    wpAny (model prog w) A (pyNext (Value.ref z)) Q E s := by
  have hty := hz.typeIs
  rcases hz with ⟨_, hz, a, b, hTO⟩ | ⟨T, b, oT, hz, hT, hc⟩
  · exact RZ.pyNext_zipT_item D hz hTI hTO h1 h2 hl1 hl2 hx hy fun h' a1 a2 a3 a4 a5 a6 a7 => hQ h' (.inr ⟨_, false, _, a1, a5, rfl⟩) a3 a4 a5 a6 a7
  · have nz : T ≠ z := fun e => by
      rw [e, hz] at hT; cases hT
      exact absurd (show Value.type "zip" = Value.type "tuple" from hc) (by decide)
    have n1 : T ≠ i1 := fun e => by
      obtain ⟨o, eo, hc2, _⟩ := h1
      rw [e, eo] at hT; cases hT; rw [hc2] at hc; exact absurd hc (by decide)
    have n2 : T ≠ i2 := fun e => by
      obtain ⟨o, eo, hc2, _⟩ := h2
      rw [e, eo] at hT; cases hT; rw [hc2] at hc; exact absurd hc (by decide)
    exact wpAny_bind (wpAny_attempt (wpAny_callSpecial?_slot hty F.slot_zip_next (wpAny_call_entry F.slot_zip_next hty F.entry_zip_next
      (zl_next D hz hTI hT h1 h2 hl1 hl2 hx hy fun h' a1 a2 a3 a4 a5 a6 => wpAny_pure (hQ h' (.inr ⟨T, true, oT, a1, a6 _ _ nz n1 n2 hT, hc⟩) a2 a3 a4 a5 fun c o m1 _ m3 m4 e => a6 c o m1 m3 m4 e))
      (F.args_zip_next_1 (Value.ref z)))))
theorem zl_end {prog : Program} {w : World} {A : Around} {E : Value → Shared → Prop} {s : Shared} {z TI TO i1 i2 l1 l2 : Addr} {k : Nat} {xs ys : Array Value} {Q : Option Value → Shared → Prop} (hh : A.handled = none)
    (D : ZipApart z TI TO i1 i2 l1 l2) (hz : ZipS s.heap z TI TO k) (hTI : IsPair s.heap TI (Value.ref i1) (Value.ref i2)) (h1 : s.heap.IsTupleIter i1 l1 k) (h2 : s.heap.IsTupleIter i2 l2 k)
    (hl1 : s.heap.IsTuple l1 xs) (hl2 : s.heap.IsTuple l2 ys) (hend : xs[k]? = none ∨ ys[k]? = none)
    (hQ : ∀ h' : Heap, (∀ (c : Addr) (o : Obj), c ≠ z → c ≠ TO → c ≠ i1 → c ≠ i2 → s.heap.get? c = some o → h'.get? c = some o) → Q none { heap := h', gens := s.gens, drawn := s.drawn, toks := s.toks, os := s.os }) :
    wpAny (model prog w) A (pyNext (Value.ref z)) Q E s := by
  have hty := hz.typeIs
  rcases hz with ⟨_, hz, a, b, hTO⟩ | ⟨T, b, oT, hz, hT, hc⟩
  · exact RZ.pyNext_zipT_end hh D hz hTI hTO h1 h2 hl1 hl2 hend hQ
  · exact wpAny_bind (wpAny_attempt (wpAny_callSpecial?_slot hty F.slot_zip_next (wpAny_call_entry F.slot_zip_next hty F.entry_zip_next
      (zl_stop hh D hz hTI hT h1 h2 hl1 hl2 hend fun h' e hk ⟨o, ho, hc⟩ => wpAny_bind (wpAny_isInstance ⟨o, ho, hc⟩ isSubtype_stop (wpAny_pure (hQ h' fun c o m1 _ m3 m4 g => hk c o m1 m3 m4 g))))
      (F.args_zip_next_1 (Value.ref z)))))
/-- the pairs made so far, at as -/
def Prd (xs ys : Array Value) (h : Heap) (as : List Addr) : Prop := ∀ (j : Nat) (a : Addr), as[j]? = some a → ∃ x y, xs[j]? = some x ∧ ys[j]? = some y ∧ IsPair h a x y
theorem zl_loop {prog : Program} {w : World} {A : Around} {s : Shared} {R : Result → Shared → Prop} {S z TI TO i1 i2 l1 l2 : Addr} {xs ys : Array Value} (hh : A.handled = none) (D : ZipApart z TI TO i1 i2 l1 l2)
    (nz : S ≠ z) (nTI : S ≠ TI) (nTO : S ≠ TO) (n1 : S ≠ i1) (n2 : S ≠ i2) (m1 : S ≠ l1) (m2 : S ≠ l2) (hn : xs.size ≤ sizeLine) (res : Value) {h₁ : Heap}
    (hR : ∀ (h' : Heap) (tk : Nat) (acc : Array Value) (c : Nat) (as : List Addr), (∀ (b : Addr) (o : Obj), b ≠ S → b ≠ z → b ≠ TO → b ≠ i1 → b ≠ i2 → h₁.get? b = some o → h'.get? b = some o) →
      h'.get? S = some { cls := Value.type "list", data := Data.seq acc c } → as.length = min xs.size ys.size → Prd xs ys h' as → acc.toList = as.map Value.ref → (∀ a ∈ as, S < a) →
      R (Except.ok (Flow.ret res)) { heap := h', gens := s.gens, drawn := s.drawn, toks := tk, os := s.os }) :
    ∀ (k i : Nat) (h : Heap) (tk c : Nat) (acc : Array Value) (as : List Addr), min xs.size ys.size - i = k → i ≤ min xs.size ys.size → ZipS h z TI TO i → IsPair h TI (Value.ref i1) (Value.ref i2) → h.IsTupleIter i1 l1 i → h.IsTupleIter i2 l2 i → h.IsTuple l1 xs → h.IsTuple l2 ys →
      (∀ (b : Addr) (o : Obj), b ≠ S → b ≠ z → b ≠ TO → b ≠ i1 → b ≠ i2 → h₁.get? b = some o → h.get? b = some o) → h.get? S = some { cls := Value.type "list", data := Data.seq acc c } → acc.toList = as.map Value.ref → as.length = i → Prd xs ys h as →
      (∀ a ∈ as, S < a ∧ z < a ∧ TO < a ∧ i1 < a ∧ i2 < a) → S < h.objs.size → z < h.objs.size ∧ TO < h.objs.size ∧ i1 < h.objs.size ∧ i2 < h.objs.size →
      codeAny (model prog w) A (Code.builtin "list.extend.loop" { pos := [Value.ref S, Value.ref z, res] }) R { heap := h, gens := s.gens, drawn := s.drawn, toks := tk, os := s.os } := by
  intro k
  induction k with
  | zero =>
    intro i h tk c acc as hk hi hz hTI h1 h2 hl1 hl2 hkeep hS hacc hal hP hab hSs hzs
    refine codeAny_builtin F.entry_extend_loop ?_
    rw [Around.under_plainId F.plain_extend_loop]
    show wpAny _ _ (do
      let r ← pyNext (Value.ref z)
      match r with
      | none => ret res
      | some x => do
        Builtin.List.listUpdate (Value.ref S) fun x_1 => x_1.push x
        again (Code.builtin "list.extend.loop" { pos := [Value.ref S, Value.ref z, res] })) _ _ _
    refine wpAny_bind (zl_end (k := i) hh D hz hTI h1 h2 hl1 hl2 ?_ fun h' he => ?_)
    · have e : i = min xs.size ys.size := by omega
      by_cases hle : xs.size ≤ ys.size
      · left
        rw [Array.getElem?_eq_none_iff]
        omega
      · right
        rw [Array.getElem?_eq_none_iff]
        omega
    · refine wpAny_pure (hR h' tk acc c as (fun b o b1 b2 b3 b4 b5 e => he b o b2 b3 b4 b5 (hkeep b o b1 b2 b3 b4 b5 e)) (he S _ nz nTO n1 n2 hS) (by omega) ?_ hacc fun a ha => (hab a ha).1)
      intro j a hj
      obtain ⟨x, y, hx, hy, hp⟩ := hP j a hj
      obtain ⟨_, a1, a2, a3, a4⟩ := hab a (List.mem_of_getElem? hj)
      exact ⟨x, y, hx, hy, he a _ (Nat.ne_of_gt a1) (Nat.ne_of_gt a2) (Nat.ne_of_gt a3) (Nat.ne_of_gt a4) hp⟩
  | succ k ih =>
    intro i h tk c acc as hk hi hz hTI h1 h2 hl1 hl2 hkeep hS hacc hal hP hab hSs hzs
    have ix : i < xs.size := by omega
    have iy : i < ys.size := by omega
    have hx : xs[i]? = some xs[i] := Array.getElem?_eq_getElem ix
    have hy : ys[i]? = some ys[i] := Array.getElem?_eq_getElem iy
    have hsz : acc.size = i := by
      have : acc.toList.length = i := by rw [hacc, List.length_map, hal]
      exact this
    refine codeAny_builtin F.entry_extend_loop ?_
    rw [Around.under_plainId F.plain_extend_loop]
    show wpAny _ _ (do
      let r ← pyNext (Value.ref z)
      match r with
      | none => ret res
      | some x => do
        Builtin.List.listUpdate (Value.ref S) fun x_1 => x_1.push x
        again (Code.builtin "list.extend.loop" { pos := [Value.ref S, Value.ref z, res] })) _ _ _
    refine wpAny_bind (zl_item D hz hTI h1 h2 hl1 hl2 hx hy fun h' z1 t1 t2 pr sz he => ?_)
    have hS' := he S _ nz nTO n1 n2 hS
    have up : ∀ (b : Addr) (o : Obj), b ≠ S → h'.get? b = some o → (h'.update S (Obj.mapSeq fun x => x.push (Value.ref h.objs.size))).get? b = some o := fun b o hb e => (Heap.get?_update_other h' _ (Ne.symm hb)).trans e
    refine wpAny_bind (wpAny_updateSeq hS' rfl ?_ ?_ ?_)
    · refine wpAny_pure ⟨plainId_quiet F.plain_extend_loop _, ?_⟩
      refine ih (i + 1) _ tk _ (acc.push (Value.ref h.objs.size)) (as ++ [h.objs.size]) (by omega) (by omega) ?_ (up _ _ (Ne.symm nTI) (he _ _ D.TIz D.TITO D.TIi1 D.TIi2 hTI)) ?_ ?_ ?_ ?_ ?_ (Heap.get?_update_self _ hS' rfl) ?_ ?_ ?_ ?_ ?_ ?_
      · rcases z1 with ⟨e0, _⟩ | ⟨T, b, oT, za, zb, zc⟩
        · omega
        · have nT : T ≠ S := fun e => by
            rw [e, hS'] at zb; cases zb
            exact absurd (show Value.type "list" = Value.type "tuple" from zc) (by decide)
          exact .inr ⟨T, b, oT, up _ _ (Ne.symm nz) za, up _ _ nT zb, zc⟩
      · obtain ⟨o, e, r⟩ := t1
        exact ⟨o, up _ _ (Ne.symm n1) e, r⟩
      · obtain ⟨o, e, r⟩ := t2
        exact ⟨o, up _ _ (Ne.symm n2) e, r⟩
      · obtain ⟨o, e, r⟩ := hl1
        exact ⟨o, up _ _ (Ne.symm m1) (he _ _ D.l1z D.l1TO D.l1i1 D.l1i2 e), r⟩
      · obtain ⟨o, e, r⟩ := hl2
        exact ⟨o, up _ _ (Ne.symm m2) (he _ _ D.l2z D.l2TO D.l2i1 D.l2i2 e), r⟩
      · intro b o b1 b2 b3 b4 b5 e
        exact up b o b1 (he b o b2 b3 b4 b5 (hkeep b o b1 b2 b3 b4 b5 e))
      · rw [Array.toList_push, hacc, List.map_append]; rfl
      · rw [List.length_append, hal]; rfl
      · intro j a hj
        rcases Nat.lt_trichotomy j as.length with hlt | heq | hgt
        · rw [List.getElem?_append_left hlt] at hj
          obtain ⟨x, y, hx2, hy2, hp⟩ := hP j a hj
          obtain ⟨a0, a1, a2, a3, a4⟩ := hab a (List.mem_of_getElem? hj)
          exact ⟨x, y, hx2, hy2, up _ _ (Nat.ne_of_gt a0) (he a _ (Nat.ne_of_gt a1) (Nat.ne_of_gt a2) (Nat.ne_of_gt a3) (Nat.ne_of_gt a4) hp)⟩
        · subst heq
          rw [List.getElem?_append_right (Nat.le_refl _), Nat.sub_self] at hj
          have ea : h.objs.size = a := Option.some.inj hj
          rw [hal, ← ea]
          exact ⟨_, _, hx, hy, up _ _ (Nat.ne_of_gt hSs) pr⟩
        · rw [List.getElem?_eq_none (by rw [List.length_append]; show as.length + 1 ≤ j; omega)] at hj
          cases hj
      · intro a ha
        rcases List.mem_append.mp ha with ha | ha
        · exact hab a ha
        · rw [List.mem_singleton.mp ha]
          exact ⟨hSs, hzs.1, hzs.2.1, hzs.2.2.1, hzs.2.2.2⟩
      · show S < (h'.update S _).objs.size
        rw [Heap.size_update, sz]; exact Nat.lt_succ_of_lt hSs
      · show z < (h'.update S _).objs.size ∧ _
        rw [Heap.size_update, sz]
        exact ⟨Nat.lt_succ_of_lt hzs.1, Nat.lt_succ_of_lt hzs.2.1, Nat.lt_succ_of_lt hzs.2.2.1, Nat.lt_succ_of_lt hzs.2.2.2⟩
    · rw [hsz]; omega
    · show (acc.push _).size ≤ _
      rw [Array.size_push, hsz]; omega
theorem zl_extend {prog : Program} {w : World} {A : Around} {s : Shared} {R : Result → Shared → Prop} {S z TI TO i1 i2 l1 l2 : Addr} {xs ys : Array Value} {a b : Value} {c₀ : Nat} (hh : A.handled = none) (D : ZipApart z TI TO i1 i2 l1 l2)
    (nz : S ≠ z) (nTI : S ≠ TI) (nTO : S ≠ TO) (n1 : S ≠ i1) (n2 : S ≠ i2) (m1 : S ≠ l1) (m2 : S ≠ l2) (hn : xs.size ≤ sizeLine) (res : Value) (hz : IsZip s.heap z TI TO Value.none) (hTO : IsPair s.heap TO a b)
    (hTI : IsPair s.heap TI (Value.ref i1) (Value.ref i2)) (h1 : s.heap.IsTupleIter i1 l1 0) (h2 : s.heap.IsTupleIter i2 l2 0) (hl1 : s.heap.IsTuple l1 xs) (hl2 : s.heap.IsTuple l2 ys) (hS : s.heap.get? S = some { cls := Value.type "list", data := Data.seq #[] c₀ })
    (hR : ∀ (h' : Heap) (tk : Nat) (acc : Array Value) (c : Nat) (as : List Addr), (∀ (b : Addr) (o : Obj), b ≠ S → b ≠ z → b ≠ TO → b ≠ i1 → b ≠ i2 → s.heap.get? b = some o → h'.get? b = some o) →
      h'.get? S = some { cls := Value.type "list", data := Data.seq acc c } → as.length = min xs.size ys.size → Prd xs ys h' as → acc.toList = as.map Value.ref → (∀ a ∈ as, S < a) →
      R (Except.ok (Flow.ret res)) { heap := h', gens := s.gens, drawn := s.drawn, toks := tk, os := s.os }) :
    wpAny (model prog w) A.in1 (Builtin.List.listExtendWith (Value.ref S) (Value.ref z) res)
      (fun fin s' => match fin with
        | Fin.done f => R (Except.ok f) s'
        | Fin.again c' => c'.quiet = true ∧ codeAny (model prog w) A c' R s') (fun e s' => R (Except.error e) s') s := by
  have key : ∀ (h : Heap) (c₁ tk : Nat), (∀ (b : Addr) (o : Obj), b ≠ S → s.heap.get? b = some o → h.get? b = some o) → h.objs.size = s.heap.objs.size → h.get? S = some { cls := Value.type "list", data := Data.seq #[] c₁ } →
      codeAny (model prog w) A (Code.builtin "list.extend.loop" { pos := [Value.ref S, Value.ref z, res] }) R { heap := h, gens := s.gens, drawn := s.drawn, toks := tk, os := s.os } := by
    intro h c₁ tk hk hsz hS₁
    have lt : ∀ {q : Addr} {o : Obj}, s.heap.get? q = some o → q < h.objs.size := fun e => by rw [hsz]; exact Heap.lt_size e
    refine zl_loop hh D nz nTI nTO n1 n2 m1 m2 hn res (fun h' tk' acc c as hk' hS' hl hP hacc hab => hR h' tk' acc c as (fun b o b1 b2 b3 b4 b5 e => hk' b o b1 b2 b3 b4 b5 e) hS' hl hP hacc hab) _ 0 h tk c₁ #[] [] rfl (Nat.zero_le _)
      (.inl ⟨rfl, hk _ _ (Ne.symm nz) hz, a, b, hk _ _ (Ne.symm nTO) hTO⟩) (hk _ _ (Ne.symm nTI) hTI) ?_ ?_ ?_ ?_ (fun b o b1 _ _ _ _ e => hk b o b1 e) hS₁ rfl rfl (fun j a hj => by simp at hj) (fun a ha => nomatch ha) (lt hS) ⟨lt hz, lt hTO, ?_, ?_⟩
    · obtain ⟨o, e, r⟩ := h1; exact ⟨o, hk _ _ (Ne.symm n1) e, r⟩
    · obtain ⟨o, e, r⟩ := h2; exact ⟨o, hk _ _ (Ne.symm n2) e, r⟩
    · obtain ⟨o, e, r⟩ := hl1; exact ⟨o, hk _ _ (Ne.symm m1) e, r⟩
    · obtain ⟨o, e, r⟩ := hl2; exact ⟨o, hk _ _ (Ne.symm m2) e, r⟩
    · obtain ⟨o, e, r⟩ := h1; exact lt e
    · obtain ⟨o, e, r⟩ := h2; exact lt e
  have hty : s.TypeIs (Value.ref z) "zip" := ⟨_, hz, rfl⟩
  unfold Builtin.List.listExtendWith
  refine wpAny_bind (wpAny_typeOf hty ?_)
  have c1 : (Builtin.List.listSameRef (Value.ref S) (Value.ref z) || Value.type "zip" == Value.type "list" || Value.type "zip" == Value.type "tuple") = false := by
    have e1 : Builtin.List.listSameRef (Value.ref S) (Value.ref z) = false := by
      show (S == z) = false
      exact beq_eq_false_iff_ne.mpr nz
    rw [e1]; rfl
  rw [if_neg (by rw [c1]; exact Bool.false_ne_true)]
  refine wpAny_bind (wpAny_pyIter_zip hz ?_)
  refine wpAny_bind (wpAny_holding (zl_hint hty ?_))
  show wpAny _ _ (if (true || _) = true then _ else _) _ _ _
  rw [if_pos (Bool.true_or _)]
  refine wpAny_bind (wpAny_rule ?_)
  refine wpAny_bind ?_
  unfold Builtin.List.listTouch
  refine wpAny_bind ?_
  refine wpAny_updateSeq hS rfl ?_ (by decide) (by decide)
  have hS₂ := Heap.get?_update_self (Obj.mapSeq fun x => x.push Value.none) hS rfl
  refine wpAny_updateSeq hS₂ rfl ?_ (by decide) (by decide)
  have hS₃ := Heap.get?_update_self (Obj.mapSeq fun x => x.pop) hS₂ rfl
  refine wpAny_pure ⟨plainId_quiet F.plain_extend_loop _, ?_⟩
  refine key _ _ _ (fun b o hb e => (Heap.get?_update_other _ _ (Ne.symm hb)).trans ((Heap.get?_update_other _ _ (Ne.symm hb)).trans e)) ?_ hS₃
  rw [Heap.size_update, Heap.size_update]
theorem zl_init {prog : Program} {w : World} {A : Around} {s : Shared} {R : Result → Shared → Prop} {S z TI TO i1 i2 l1 l2 : Addr} {xs ys : Array Value} {a b : Value} (hh : A.handled = none) (D : ZipApart z TI TO i1 i2 l1 l2)
    (nz : S ≠ z) (nTI : S ≠ TI) (nTO : S ≠ TO) (n1 : S ≠ i1) (n2 : S ≠ i2) (m1 : S ≠ l1) (m2 : S ≠ l2) (hn : xs.size ≤ sizeLine) (hz : IsZip s.heap z TI TO Value.none) (hTO : IsPair s.heap TO a b)
    (hTI : IsPair s.heap TI (Value.ref i1) (Value.ref i2)) (h1 : s.heap.IsTupleIter i1 l1 0) (h2 : s.heap.IsTupleIter i2 l2 0) (hl1 : s.heap.IsTuple l1 xs) (hl2 : s.heap.IsTuple l2 ys) (hS : s.heap.get? S = some { cls := Value.type "list", data := Data.seq #[] })
    (hR : ∀ (h' : Heap) (tk : Nat) (acc : Array Value) (c : Nat) (as : List Addr), (∀ (b : Addr) (o : Obj), b ≠ S → b ≠ z → b ≠ TO → b ≠ i1 → b ≠ i2 → s.heap.get? b = some o → h'.get? b = some o) →
      h'.get? S = some { cls := Value.type "list", data := Data.seq acc c } → as.length = min xs.size ys.size → Prd xs ys h' as → acc.toList = as.map Value.ref → (∀ a ∈ as, S < a) →
      R (Except.ok (Flow.ret Value.none)) { heap := h', gens := s.gens, drawn := s.drawn, toks := tk, os := s.os }) :
    wpAny (model prog w) A.in1 (Builtin.«list.__init__» { pos := [Value.ref S, Value.ref z] })
      (fun fin s' => match fin with
        | Fin.done f => R (Except.ok f) s'
        | Fin.again c' => c'.quiet = true ∧ codeAny (model prog w) A c' R s') (fun e s' => R (Except.error e) s') s := by
  unfold Builtin.«list.__init__»
  refine wpAny_bind ?_
  refine wpAny_bind (wpAny_seqItems hS rfl (wpAny_pure ?_))
  refine wpAny_bind (wpAny_updateSeq hS rfl ?_ (by decide) (by decide))
  have hS₂ := Heap.get?_update_self (Obj.mapSeq fun x => #[]) hS rfl
  have oth : ∀ (b : Addr) (o : Obj), b ≠ S → s.heap.get? b = some o → (s.heap.update S (Obj.mapSeq fun x => #[])).get? b = some o := fun b o hb e => (Heap.get?_update_other _ _ (Ne.symm hb)).trans e
  refine wpAny_bind (wpAny_letGo ?_)
  refine zl_extend hh D nz nTI nTO n1 n2 m1 m2 hn Value.none (oth _ _ (Ne.symm nz) hz) (oth _ _ (Ne.symm nTO) hTO) (oth _ _ (Ne.symm nTI) hTI) ?_ ?_ ?_ ?_ hS₂ (fun h' tk acc c as hk hS' hl hP hacc hab => hR h' tk acc c as (fun b o b1 b2 b3 b4 b5 e => hk b o b1 b2 b3 b4 b5 (oth b o b1 e)) hS' hl hP hacc hab)
  · obtain ⟨o, e, r⟩ := h1; exact ⟨o, oth _ _ (Ne.symm n1) e, r⟩
  · obtain ⟨o, e, r⟩ := h2; exact ⟨o, oth _ _ (Ne.symm n2) e, r⟩
  · obtain ⟨o, e, r⟩ := hl1; exact ⟨o, oth _ _ (Ne.symm m1) e, r⟩
  · obtain ⟨o, e, r⟩ := hl2; exact ⟨o, oth _ _ (Ne.symm m2) e, r⟩
theorem zl_call {prog : Program} {w : World} {A : Around} {E : Value → Shared → Prop} {s : Shared} {z TI TO i1 i2 l1 l2 : Addr} {xs ys : Array Value} {a b : Value} {Q : Value → Shared → Prop} (hh : A.handled = none) (D : ZipApart z TI TO i1 i2 l1 l2)
    (hn : xs.size ≤ sizeLine) (hz : IsZip s.heap z TI TO Value.none) (hTO : IsPair s.heap TO a b) (hTI : IsPair s.heap TI (Value.ref i1) (Value.ref i2)) (h1 : s.heap.IsTupleIter i1 l1 0) (h2 : s.heap.IsTupleIter i2 l2 0)
    (hl1 : s.heap.IsTuple l1 xs) (hl2 : s.heap.IsTuple l2 ys)
    (hQ : ∀ (h' : Heap) (tk : Nat) (acc : Array Value) (c : Nat) (as : List Addr), (∀ (b : Addr) (o : Obj), b ≠ z → b ≠ TO → b ≠ i1 → b ≠ i2 → s.heap.get? b = some o → h'.get? b = some o) →
      h'.get? s.heap.objs.size = some { cls := Value.type "list", data := Data.seq acc c } → as.length = min xs.size ys.size → Prd xs ys h' as → acc.toList = as.map Value.ref → (∀ a ∈ as, s.heap.objs.size < a) →
      Q (Value.ref s.heap.objs.size) { heap := h', gens := s.gens, drawn := s.drawn, toks := tk, os := s.os }) :
    wpAny (model prog w) A (call (Value.type "list") [Value.ref z]) Q E s := by
  refine callType_codes (Q₁ := fun v s' => v = Value.ref s.heap.objs.size ∧ s' = { heap := s.heap.push { cls := Value.type "list", data := Data.seq #[] }, gens := s.gens, drawn := s.drawn, toks := s.toks, os := s.os }) F.called_list (F.typeCall_list_1 (Value.ref z)) F.entry_list_init (code_list_new (Value.ref z) ⟨rfl, rfl⟩) fun obj s₁ h₁ => ?_
  obtain ⟨rfl, rfl⟩ := h₁
  have up : ∀ {q : Addr} {o : Obj}, s.heap.get? q = some o → (s.heap.push { cls := Value.type "list", data := Data.seq #[] }).get? q = some o := fun e => Heap.get?_push_of_some _ e
  have ne : ∀ {q : Addr} {o : Obj}, s.heap.get? q = some o → s.heap.objs.size ≠ q := fun e => Nat.ne_of_gt (Heap.lt_size e)
  have hS := Heap.get?_push_size (o := { cls := Value.type "list", data := Data.seq #[] }) s.heap rfl
  obtain ⟨o1, e1, r1⟩ := h1
  obtain ⟨o2, e2, r2⟩ := h2
  obtain ⟨o3, e3, r3⟩ := hl1
  obtain ⟨o4, e4, r4⟩ := hl2
  refine ⟨⟨_, hS, rfl⟩, F.args_list_init_2 _ _, zl_init hh D (ne hz) (ne hTI) (ne hTO) (ne e1) (ne e2) (ne e3) (ne e4) hn (up hz) (up hTO) (up hTI) ⟨o1, up e1, r1⟩ ⟨o2, up e2, r2⟩ ⟨o3, up e3, r3⟩ ⟨o4, up e4, r4⟩ hS fun h' tk acc c as hk hS' hl hP hacc hab => ⟨rfl, hQ h' tk acc c as (fun b o b2 b3 b4 b5 e => hk b o (Ne.symm (ne e)) b2 b3 b4 b5 (up e)) hS' hl hP hacc hab⟩⟩
end LK
set_option Elab.async false
set_option linter.all false
set_option maxRecDepth 100000
set_option maxHeartbeats 2000000
namespace LK
open PySem PySem.Spec PyProof.Rows L2
/-! ### list(zip(t, u)) of two tuples, told in H -/
def zipH (H : Hp) (p : Addr) (as : List Addr) (ps : List (V × V)) : Hp := fun b =>
  if b = p then some (.lst (as.map V.ref)) else match (as.zip ps).lookup b with
    | some q => some (.tup [q.1, q.2])
    | none => H b
theorem zlook_some : ∀ {as : List Addr} {ps : List (V × V)} {b : Addr} {q : V × V}, (as.zip ps).lookup b = some q → ∃ j : Nat, as[j]? = some b ∧ ps[j]? = some q
  | [], _, _, _, h => by cases h
  | _ :: _, [], _, _, h => by cases h
  | a :: as, p :: ps, b, q, h => by
    by_cases e : b = a
    · subst e
      have : ((b, p) :: as.zip ps).lookup b = some p := by simp [List.lookup]
      have h' : ((b, p) :: as.zip ps).lookup b = some q := h
      rw [this] at h'
      exact ⟨0, rfl, h'⟩
    · have e2 : (b == a) = false := beq_eq_false_iff_ne.mpr e
      have h' : ((a, p) :: as.zip ps).lookup b = some q := h
      have : ((a, p) :: as.zip ps).lookup b = (as.zip ps).lookup b := by simp [List.lookup, e2]
      rw [this] at h'
      obtain ⟨j, h1, h2⟩ := zlook_some h'
      exact ⟨j + 1, h1, h2⟩
theorem zlook_none : ∀ {as : List Addr} {ps : List (V × V)} {b : Addr}, as.length = ps.length → (as.zip ps).lookup b = none → b ∉ as
  | [], _, _, _, _ => fun h => nomatch h
  | _ :: _, [], _, hl, _ => by cases hl
  | a :: as, p :: ps, b, hl, h => by
    have h' : ((a, p) :: as.zip ps).lookup b = none := h
    by_cases e : b = a
    · subst e
      have : ((b, p) :: as.zip ps).lookup b = some p := by simp [List.lookup]
      rw [this] at h'; cases h'
    · have e2 : (b == a) = false := beq_eq_false_iff_ne.mpr e
      have : ((a, p) :: as.zip ps).lookup b = (as.zip ps).lookup b := by simp [List.lookup, e2]
      rw [this] at h'
      intro m
      rcases List.mem_cons.mp m with z | m
      · exact e z
      · exact zlook_none (Nat.succ.inj hl) h' m
theorem zlook_not {as : List Addr} {ps : List (V × V)} {b : Addr} (h : b ∉ as) : (as.zip ps).lookup b = none := by
  cases e : (as.zip ps).lookup b with
  | none => rfl
  | some q =>
    obtain ⟨j, h1, _⟩ := zlook_some e
    exact absurd (List.mem_of_getElem? h1) h
theorem paired_of {α β : Type} {R : α → β → Prop} : ∀ {xs : List α} {ys : List β}, xs.length = ys.length → (∀ (j : Nat) x y, xs[j]? = some x → ys[j]? = some y → R x y) → Paired R xs ys
  | [], [], _, _ => .nil
  | [], _ :: _, h, _ => by cases h
  | _ :: _, [], h, _ => by cases h
  | x :: xs, y :: ys, h, r => .cons (r 0 x y rfl rfl) (paired_of (Nat.succ.inj h) fun j a b h1 h2 => r (j + 1) a b h1 h2)
def rListZip (K : PySem.W.Frag) : List V → Hp → VK → Prop := fun vs H Q => ∃ (a b : Addr) (xs ys : List V), vs = [.ref a, .ref b] ∧ SqT K H a xs ∧ SqT K H b ys ∧
  ∀ (H' : Hp) (p : Addr) (ts : List Addr), (∀ b o, H b = some o → H' b = some o) → H p = none → H' p = some (.lst (ts.map V.ref)) → Paired (fun (t : Addr) (q : V × V) => H' t = some (.tup [q.1, q.2])) ts (xs.zip ys) → Q (.ref p) H'
def tListZip (K : PySem.W.Frag) (ta : TA) : TE := fun σ H Q => ta σ H fun vs H1 => rListZip K vs H1 Q
theorem vals_refs : ∀ as : List Addr, Vals (as.map V.ref) (as.map Value.ref)
  | [] => .nil
  | _ :: as => .cons rfl (vals_refs as)
section
variable {X : Cx} {e e2 : Expr} {ta : TA} {p p2 cpos pos : Pos}
theorem zip_laid {pins : List (Addr × Obj)} {σ : L2.St} {H : Hp} {s : Shared} {h' : Heap} {tk : Nat} {S : Addr} {xs ys : List V} {us ws acc : Array Value} {c : Nat} {as : List Addr} (I : Inv X pins σ H s) (rx : Vals xs us.toList) (ry : Vals ys ws.toList) (hz : us.size ≤ sizeLine) (hs : s.heap.objs.size ≤ S)
    (hk : ∀ b o, s.heap.get? b = some o → h'.get? b = some o) (hS : h'.get? S = some { cls := .type "list", data := .seq acc c }) (hl : as.length = min us.size ws.size) (hP : Prd us ws h' as) (hacc : acc.toList = as.map Value.ref) (hab : ∀ a ∈ as, S < a) :
    Inv X pins σ (zipH H S as (xs.zip ys)) { s with heap := h', toks := tk } ∧ (∀ b o, H b = some o → zipH H S as (xs.zip ys) b = some o) ∧ zipH H S as (xs.zip ys) S = some (.lst (as.map V.ref)) ∧ Paired (fun (t : Addr) (q : V × V) => zipH H S as (xs.zip ys) t = some (.tup [q.1, q.2])) as (xs.zip ys) := by
  have l1 := rx.length
  have l2 := ry.length
  have hl2 : as.length = (xs.zip ys).length := by
    rw [hl, List.length_zip, l1, l2]
    show _ = min us.toList.length ws.toList.length
    rw [Array.length_toList, Array.length_toList]
  have newS : H S = none := I.hok.fresh hs
  have new : ∀ t ∈ as, H t = none := fun t ht => I.hok.fresh (Nat.le_trans hs (Nat.le_of_lt (hab t ht)))
  have hSn : S ∉ as := fun z => Nat.lt_irrefl _ (hab _ z)
  have eS : zipH H S as (xs.zip ys) S = some (.lst (as.map V.ref)) := if_pos rfl
  have off : ∀ b, b ∉ as → b ≠ S → zipH H S as (xs.zip ys) b = H b := fun b h1 h2 => by
    unfold zipH
    rw [if_neg h2, zlook_not h1]
  have kp : ∀ b u, H b = some u → zipH H S as (xs.zip ys) b = some u := fun b u ev => by
    rw [off b (fun z => by rw [new b z] at ev; cases ev) (fun z => by rw [z, newS] at ev; cases ev)]
    exact ev
  have low : ∀ b o, s.heap.get? b = some o → b ∉ as ∧ b ≠ S := fun b o ev => ⟨fun z => absurd (Heap.lt_size ev) (Nat.not_lt.mpr (Nat.le_trans hs (Nat.le_of_lt (hab b z)))), fun z => by rw [z] at ev; exact absurd (Heap.lt_size ev) (Nat.not_lt.mpr hs)⟩
  -- what stands at an index
  have at_j : ∀ (j : Nat) (t : Addr) (q : V × V), as[j]? = some t → (xs.zip ys)[j]? = some q → ∃ u w, RelV q.1 u ∧ RelV q.2 w ∧ IsPair h' t u w := by
    intro j t q h1 h2
    obtain ⟨u, w, hu, hw, hp⟩ := hP j t h1
    have hq := List.getElem?_zip_eq_some.mp h2
    obtain ⟨u', e1, r1⟩ := rx.get hq.1
    obtain ⟨w', e2, r2⟩ := ry.get hq.2
    have e1' : us[j]? = some u' := by rw [← Array.getElem?_toList]; exact e1
    have e2' : ws[j]? = some w' := by rw [← Array.getElem?_toList]; exact e2
    rw [hu] at e1'
    rw [hw] at e2'
    cases e1'; cases e2'
    exact ⟨u, w, r1, r2, hp⟩
  have look : ∀ (t : Addr), t ∈ as → ∃ q, (as.zip (xs.zip ys)).lookup t = some q ∧ zipH H S as (xs.zip ys) t = some (.tup [q.1, q.2]) := by
    intro t ht
    cases ev : (as.zip (xs.zip ys)).lookup t with
    | none => exact absurd ht (zlook_none hl2 ev)
    | some q =>
      refine ⟨q, rfl, ?_⟩
      unfold zipH
      rw [if_neg (fun z => hSn (by rw [← z]; exact ht)), ev]
  have atP : Paired (fun (t : Addr) (q : V × V) => zipH H S as (xs.zip ys) t = some (.tup [q.1, q.2])) as (xs.zip ys) := by
    refine paired_of hl2 fun j t q h1 h2 => ?_
    obtain ⟨q', ev, ez⟩ := look t (List.mem_of_getElem? h1)
    rw [ez]
    obtain ⟨j', h1', h2'⟩ := zlook_some ev
    obtain ⟨u, w, r1, r2, p1⟩ := at_j j t q h1 h2
    obtain ⟨u', w', r1', r2', p1'⟩ := at_j j' t q' h1' h2'
    have ep : some (_ : Obj) = some _ := p1.symm.trans p1'
    have eL : [u, w] = [u', w'] := by injection ep with z; injection z with z1 z2 z3 z4; injection z3 with z5; exact congrArg Array.toList z5
    obtain ⟨eu, eM⟩ := List.cons.inj eL
    obtain ⟨ew, _⟩ := List.cons.inj eM
    subst eu ew
    rw [RelV.inj r1 r1', RelV.inj r2 r2']
  refine ⟨?_, kp, eS, atP⟩
  refine I.call' (ch := []) rfl ⟨fun b o q _ _ _ => hk b o q, fun b o q _ _ _ => ⟨o.slots, hk b o q⟩, fun b o q n _ => ?_, fun b o q _ => ⟨o, hk b o q⟩, fun b xs q => kp b _ q, fun b o u q => kp b _ q, fun b ps q => ⟨#[], by rw [kp b _ q]; simp⟩⟩ (fun b u q => ?_) I.bare fun b z => by simp at z
  · obtain ⟨z1, z2⟩ := low b o q
    rw [off b z1 z2]
    exact n
  · by_cases hb : b ∈ as
    · obtain ⟨qq, ev, ez⟩ := look b hb
      rw [ez] at q
      cases q
      obtain ⟨j', h1', h2'⟩ := zlook_some ev
      obtain ⟨u, w, r1, r2, p1⟩ := at_j j' b qq h1' h2'
      exact ⟨by show 2 ≤ sizeLine; decide, [u, w], .cons r1 (.cons r2 .nil), ⟨_, p1, rfl, _, rfl⟩⟩
    · by_cases hb2 : b = S
      · rw [hb2] at q ⊢
        rw [eS] at q
        cases q
        refine ⟨by rw [List.length_map, hl]; exact Nat.le_trans (Nat.min_le_left _ _) hz, acc.toList, c, by rw [hacc]; exact vals_refs as, ?_⟩
        rw [Array.toArray_toList]
        exact hS
      · rw [off b hb hb2] at q
        exact (I.hok b u q).stay (fun d v _ y => hk d v y) (fun d y => kp d _ y) fun d xs y => kp d _ y
/-- list(zip(t, u)) -/
theorem pe_listZip (ha : PA X [e, e2] ta) (hg : Gl X "list") (hm : X.mg "list" = none) (hgz : Gl X "zip") (hmz : X.mg "zip" = none) (hc : X.calm = true := by rfl)
    (hv : bootBuiltins "list" = some (.type "list") := by decide +kernel)
    (hs2 : starEach [e, e2] X.env = (false, eval e X.env) :: starEach [e2] X.env := by rfl) (hpl : (backTo cpos (starEach [e2] X.env)).any (·.1) = false := by rfl)
    (hs : starEach [.Call (.Name "zip" p2) [e, e2] [] cpos] X.env = (false, eval (.Call (.Name "zip" p2) [e, e2] [] cpos) X.env) :: starEach [] X.env := by rfl) :
    PE X (.Call (.Name "list" p) [.Call (.Name "zip" p2) [e, e2] [] cpos] [] pos) (tListZip X.K ta) := by
  refine ⟨fun pins s σ H Q I hq => ?_⟩
  refine wpAny_Call_Name_kw (ld_blt I hg hm hv ?_)
  refine PyProof.Rows.callWith_type1 ?_ hs rfl
  rw [hs]
  show wpAny _ _ (spliced ((false, eval (.Call (.Name "zip" p2) [e, e2] [] cpos) X.env) :: backTo pos (starEach [] X.env))) _ _ s
  refine Calls.spliced_cons ?_
  refine Call_ (ld_blt I hgz hmz PyProof.Rows.boot_zip (PyProof.Rows.callWith_type1 (thn (ha.run cpos pins s σ H _ I hq) fun us s1 ⟨vs, H1, I1, r1, q1⟩ => ?_) hs2 hpl))
  obtain ⟨a, b, xs, ys, ex, hqx, hqy, q⟩ := q1
  subst ex
  cases r1 with
  | cons r rr =>
    cases rr with
    | cons r' rr =>
      cases rr
      cases r
      cases r'
      obtain ⟨its, rv, p1, z1⟩ := I1.tuple hqx
      obtain ⟨its2, rv2, p2, _⟩ := I1.tuple hqy
      obtain ⟨o1, ho1, _⟩ := id p1
      obtain ⟨o2, ho2, _⟩ := id p2
      have D := PySem.W.ktu_apart s1.heap.objs.size a b (Heap.lt_size ho1) (Heap.lt_size ho2)
      refine RZ.call_zipT (show s1.heap.IsTuple a its.toArray from p1) (show s1.heap.IsTuple b its2.toArray from p2) fun h' hz hTI hTO h1 h2 hsz hk => ?_
      refine Calls.spliced_nil ?_
      have up : ∀ {q : Addr} {o : Obj}, s1.heap.get? q = some o → h'.get? q = some o := fun ev => hk _ _ ev
      obtain ⟨oa, ea, ra⟩ := p1
      obtain ⟨ob, eb, rb⟩ := p2
      refine zl_call (s := { s1 with heap := h' }) (xs := its.toArray) (ys := its2.toArray) (I1.ok.hd hc) D (by rw [List.size_toArray]; have := rv.length; omega) hz hTO hTI h1 h2 ⟨oa, up ea, ra⟩ ⟨ob, up eb, rb⟩ fun h2' tk acc c as hk2 hS hl hP hacc hab => ?_
      have hle : s1.heap.objs.size ≤ h'.objs.size := by rw [hsz]; exact Nat.le_add_right _ _
      have kk : ∀ b o, s1.heap.get? b = some o → h2'.get? b = some o := fun b o ev => by
        have lt := Heap.lt_size ev
        exact hk2 b o (Nat.ne_of_lt (Nat.lt_of_lt_of_le lt (Nat.le_add_right _ _))) (Nat.ne_of_lt (Nat.lt_of_lt_of_le lt (Nat.le_add_right _ _))) (Nat.ne_of_lt lt) (Nat.ne_of_lt (Nat.lt_of_lt_of_le lt (Nat.le_add_right _ _))) (hk b o ev)
      obtain ⟨J, k1, k2, k3⟩ := zip_laid (tk := tk) (xs := xs) (ys := ys) I1 (by simpa using rv) (by simpa using rv2) (by rw [List.size_toArray]; have := rv.length; omega) hle kk hS hl hP hacc hab
      exact ⟨.ref _, _, J, rfl, q _ _ as k1 (I1.hok.fresh hle) k2 k3⟩
end
end LK
set_option Elab.async false
set_option linter.all false
set_option maxRecDepth 100000
set_option maxHeartbeats 2000000
namespace LK
open PySem PySem.Spec PyProof.Rows L2 Evl
theorem dp_at {K : PySem.W.Frag} {H : Hp} : ∀ {vs : List V} {ds : List PyData} {i : Nat} {y : V}, DpAll K H vs ds → vs[i]? = some y → ∃ d, ds[i]? = some d ∧ Dp K H y d
  | [], _, i, y, _, h => by simp at h
  | v :: vs, _, 0, y, .cons h1 _, h => by
    have e : v = y := by simpa using h
    subst e
    exact ⟨_, rfl, h1⟩
  | v :: vs, _, i + 1, y, .cons _ h2, h => by
    rw [List.getElem?_cons_succ] at h
    obtain ⟨d, e, hd⟩ := dp_at h2 h
    exact ⟨d, by rw [List.getElem?_cons_succ]; exact e, hd⟩
section
variable {K : PySem.W.Frag} {H0 H H' : Hp}
theorem Prs.tk {vs : List V} {ws : List (Str × PyData)} (h : Prs K H0 H vs ws) (s : Tk H H') : Prs K H0 H' vs ws := by
  induction h with
  | nil => exact .nil
  | cons e dx _ ih => exact .cons (s.seqT e) dx ih
theorem Prs.snoc {t : Addr} {k : Str} {x : V} {d : PyData} (e : SqT K H t [.str k, x]) (dx : Dp K H0 x d) : ∀ {vs : List V} {ws : List (Str × PyData)}, Prs K H0 H vs ws → Prs K H0 H (vs ++ [.ref t]) (ws ++ [(k, d)])
  | _, _, .nil => .cons e dx .nil
  | _, _, .cons e2 dx2 r => .cons e2 dx2 (Prs.snoc e dx r)
theorem prs_zip : ∀ {ts : List Addr} {ks : List Str} {vs : List V} {ds : List PyData}, Paired (fun (t : Addr) (q : V × V) => H t = some (.tup [q.1, q.2])) ts ((ks.map V.str).zip vs) → DpAll K H0 vs ds → Prs K H0 H (ts.map V.ref) (ks.zip ds)
  | [], [], _, _, .nil, _ => .nil
  | [], _ :: _, [], _, .nil, h => by cases h; exact .nil
  | _ :: _, k :: ks, v :: vs, _, .cons e r, h => by
    cases h with
    | cons h1 h2 => exact .cons (.inl (.inl e)) h1 (prs_zip r h2)
theorem stm_tup {k : Str} {d : PyData} (h : isPartD k d = true) (hk : k = "statement" ∨ k = "expression") : ∃ d0 ds ks, d = .tuple (d0 :: ds) ∧ kindsD k d = some ks ∧ ds.length = ks.length := by
  unfold isPartD at h
  rw [if_pos hk] at h
  cases e : kindsD k d with
  | none => rw [e] at h; cases h
  | some ks =>
    rw [e] at h
    have h2 := of_decide_eq_true h
    unfold kindsD at e
    split at e
    · rename_i z r
      refine ⟨_, r, ks, rfl, rfl, ?_⟩
      have h3 : (PyData.str z :: r).length = ks.length + 1 := h2
      rw [List.length_cons] at h3
      omega
    · cases e
theorem bod_tup {k : Str} {d : PyData} (h : isPartD k d = true) (hk : k = "body" ∨ k = "things") : ∃ ds, d = .tuple ds := by
  unfold isPartD at h
  rw [if_neg (by rcases hk with rfl | rfl <;> decide +kernel), if_pos hk] at h
  cases d with
  | tuple l => exact ⟨l, rfl⟩
  | _ => cases h
theorem in_none {k : Str} {d : PyData} (h1 : ¬ k = "body") (h2 : ¬ k = "things") (h3 : ¬ (k = "statement" ∨ k = "expression")) : insideD k d = [] := by
  cases d with
  | tuple ds => rw [in_t, if_neg h1, if_neg h2, if_neg h3]
  | _ => rfl
theorem cutV_tail (v : V) (vs : List V) : cutV (v :: vs) (some 1) none = vs := by
  have e : HT.sIx (v :: vs).length 0 (some 1) = 1 := by
    show (if (1 : Int) < 0 then ((1 : Int) + ((v :: vs).length : Int)).toNat else min (1 : Int).toNat (v :: vs).length) = 1
    rw [if_neg (by decide), List.length_cons]
    show min 1 _ = 1
    omega
  show ((v :: vs).drop (HT.sIx (v :: vs).length 0 (some 1))).take ((v :: vs).length - HT.sIx (v :: vs).length 0 (some 1)) = vs
  rw [e, List.length_cons, Nat.add_sub_cancel]
  show vs.take vs.length = vs
  exact List.take_of_length_le (Nat.le_refl _)
theorem cut_not (v : V) (vs : List V) : ¬ (HT.sIx (v :: vs).length 0 (some 1) = 0 ∧ HT.sIx (v :: vs).length (v :: vs).length none = (v :: vs).length) := by
  rintro ⟨h, _⟩
  have e : HT.sIx (v :: vs).length 0 (some 1) = 1 := by
    show (if (1 : Int) < 0 then ((1 : Int) + ((v :: vs).length : Int)).toNat else min (1 : Int).toNat (v :: vs).length) = 1
    rw [if_neg (by decide), List.length_cons]
    show min 1 _ = 1
    omega
  rw [e] at h
  cases h
theorem len_sizeL : ∀ ds : List PyData, ds.length ≤ sizeL ds
  | [] => Nat.le_refl _
  | d :: r => by
    have h1 := len_sizeL r
    have h2 := size_pos d
    show r.length + 1 ≤ sizeD d + sizeL r
    omega
end
end LK
set_option Elab.async false
set_option linter.all false
set_option maxRecDepth 100000
set_option maxHeartbeats 3200000
namespace LK
open PySem PySem.Spec PyProof.Rows L2
/-! ### len(set(t)) of a tuple of texts -/
def Cnt (zs : List Str) (i c : Nat) : Prop := c ≤ i ∧ (c = i ↔ (zs.take i).Nodup)
theorem cnt_zero (zs : List Str) : Cnt zs 0 0 := ⟨Nat.le_refl 0, by simp⟩
theorem nodup_snoc {l : List Str} {z : Str} : (l ++ [z]).Nodup ↔ l.Nodup ∧ z ∉ l := by
  rw [List.nodup_append]
  constructor
  · rintro ⟨h1, _, h3⟩
    exact ⟨h1, fun m => h3 z m z List.mem_cons_self rfl⟩
  · rintro ⟨h1, h2⟩
    refine ⟨h1, List.nodup_cons.mpr ⟨List.not_mem_nil, List.nodup_nil⟩, fun a ha b hb e => ?_⟩
    rw [List.mem_singleton.mp hb] at e
    exact h2 (e ▸ ha)
theorem cnt_step {zs : List Str} {i c : Nat} {z : Str} (hz : zs[i]? = some z) (h : Cnt zs i c) : Cnt zs (i + 1) (if decide (z ∈ zs.take i) = true then c else c + 1) := by
  obtain ⟨h1, h2⟩ := h
  have et : zs.take (i + 1) = zs.take i ++ [z] := by rw [List.take_add_one, hz]; rfl
  unfold Cnt
  rw [et, nodup_snoc]
  by_cases m : z ∈ zs.take i
  · rw [if_pos (decide_eq_true m)]
    exact ⟨by omega, ⟨fun e => by omega, fun q => absurd m q.2⟩⟩
  · rw [if_neg (by rw [decide_eq_false m]; exact Bool.false_ne_true)]
    exact ⟨by omega, ⟨fun e => ⟨h2.mp (by omega), m⟩, fun q => by rw [h2.mpr q.1]⟩⟩
section
variable {P : Program} {w : World} {A : Around} {E : Value → Shared → Prop} {s : Shared}
abbrev StS (P : Program) (w : World) (h : Heap) (a : Addr) (zs : List Str) (i c : Nat) : Prop := h.SetOf (PySem.strKind P w) a (fun y => decide (y ∈ zs.take i)) c
theorem sets_at {h h2 : Heap} {a : Addr} {zs : List Str} {i c : Nat} (x : StS P w h a zs i c) (k : ∀ o, h.get? a = some o → h2.get? a = some o) : StS P w h2 a zs i c := by
  obtain ⟨o, es, ep, t, e, r⟩ := x
  exact ⟨o, es, ep, t, k _ e, r⟩
theorem sets_loop {R : Result → Shared → Prop} {it T : Addr} {fp wr : List Addr} {G : Array GenState → Array GenState → Prop} {n : Nat} {Pv : Nat → Value → Prop} {St : Nat → Shared → Prop} (W : WalksS P w A.in1 it fp wr G n Pv St) (hT : T ∉ fp) (zs : List Str) (hn : n = zs.length) (hb : zs.length + 1 < scanBound)
    (item : ∀ i v, Pv i v → ∃ z t, zs[i]? = some z ∧ v = .str z t) : ∀ (m i : Nat) (s : Shared), n - i = m → i ≤ n → St i s → (∃ c, Cnt zs i c ∧ StS P w s.heap T zs i c) →
      (∀ s2 c, Moved (T :: wr) G s s2 → Cnt zs n c → StS P w s2.heap T zs n c → R (.ok (.ret .none)) s2) → codeAny (model P w) A (.builtin "set.update.loop" ⟨[.ref T, .ref it], []⟩) R s := by
  have nT : T ∉ wr := fun m => hT (W.sub _ m)
  have cons : ∀ a ∈ wr, a ∈ T :: wr := fun a ha => List.mem_cons_of_mem _ ha
  intro m
  induction m with
  | zero =>
    intro i s em le st ⟨c, hc, hs⟩ fin
    obtain rfl : i = n := by omega
    refine codeAny_builtin PyProof.Rows.F.entry_set_update_loop ?_
    rw [Around.under_plainId PyProof.Rows.F.plain_set_update_loop _]
    refine wpAny_bind (W.done s _ _ st fun s2 mv => ?_)
    exact wpAny_pure (fin s2 c (mv.mono cons) hc (sets_at hs fun o e => mv.heap T o nT e))
  | succ m ih =>
    intro i s em le st ⟨c, hc, hs⟩ fin
    have lt : i < n := by omega
    refine codeAny_builtin PyProof.Rows.F.entry_set_update_loop ?_
    rw [Around.under_plainId PyProof.Rows.F.plain_set_update_loop _]
    refine wpAny_bind (W.item i s _ _ lt st fun v s2 pv st2 mv => ?_)
    obtain ⟨z, t, hz, rfl⟩ := item i v pv
    have hs2 : StS P w s2.heap T zs i c := sets_at hs fun o e => mv.heap T o nT e
    show wpAny _ A.in1 (holding [Value.str z t] (setAdd T (.str z t)) >>= _) _ _ s2
    refine wpAny_bind (wpAny_holding ?_)
    unfold setAdd
    refine wpAny_holding (wpAny_bind ((PySem.strKind P w).pyHash (k := z) (strKind_is _ _ _ _) ?_))
    have hcl : c ≤ i := hc.1
    refine wpAny_setAddHashed_of (knd := PySem.strKind P w) (s := { s2 with toks := s2.toks + 1 }) (strKind_is _ _ _ _) rfl hs2 (by omega) fun h3 sb hs3 => ?_
    have hs4 : StS P w h3 T zs (i + 1) (if decide (z ∈ zs.take i) = true then c else c + 1) := SetOf_congr hs3 (fun y => by rw [List.take_add_one, hz]; simp [List.mem_append]) rfl
    refine wpAny_pure ⟨plainId_quiet PyProof.Rows.F.plain_set_update_loop _, ih (i + 1) _ (by omega) lt (W.frame _ s2 _ _ st2 (Nat.le_succ _) fun a ha o e => ?_) ⟨_, cnt_step hz hc, hs4⟩ fun s5 c5 mv5 hc5 hs5 => ?_⟩
    · exact (sb.2 a (fun e2 => hT (by rw [← e2]; exact ha))).trans e
    · exact fin s5 c5 (Moved.trans W.gtrans ((mv.mono cons).then_heap (Nat.le_succ _) fun a o ha e => (sb.2 a (fun e2 => ha (by rw [e2]; exact List.mem_cons_self))).trans e) mv5) hc5 hs5
abbrev newSet (l : Bool) : Obj := { cls := .type "set", dict := none, data := .set #[] 0 (.fresh 0 0 l) }
theorem sets_call {t : Addr} {its : Array Value} {zs : List Str} {Q : Value → Shared → Prop} (hh : A.handled = none) (ht : s.heap.IsTuple t its) (hz : StrsAre its.toList zs) (hb : zs.length + 1 < scanBound)
    (h : ∀ (h2 : Heap) (tk c : Nat), Cnt zs zs.length c → StS P w h2 s.heap.objs.size zs zs.length c → (∀ a o, s.heap.get? a = some o → h2.get? a = some o) → Q (.ref s.heap.objs.size) { s with heap := h2, toks := tk }) :
    wpAny (model P w) A (call (.type "set") [.ref t]) Q E s := by
  have lz : its.size = zs.length := by
    rw [← Array.length_toList]
    exact StrsAre.len_eq hz
  obtain ⟨cc, tl, hmro⟩ := PySem.F.called_set.mro
  have f1 := PySem.F.called_set.made
  have f2 := PySem.F.called_set.sub
  refine wpAny_call (codeAny_of_tree ?_)
  show wpAny _ _ (callAny (.type "set") _) _ _ _
  refine wpAny_pure ⟨Code.quiet_builtin _ (by decide +kernel), codeAny_builtin PySem.F.entry_type_call ?_⟩
  rw [Around.under_plain (weight_type_call_type "set" [.ref t] []) rfl]
  have f3 := PySem.F.called_set.notType
  have f4 := PySem.F.called_set.canCreate
  have f5 := PySem.F.typeCall_set_1 (.ref t)
  repeat (any_goals (first | assumption | wp_step))
  refine codeAny_mono (code_set_new_1 (.ref t) (E := E) (Q₁ := fun u s1 => ∃ l : Bool, u = .ref s.heap.objs.size ∧ s1 = { s with heap := s.heap.push (newSet l) }) fun l => ⟨l, rfl, rfl⟩) fun r s1 hr => ?_
  cases r with
  | error e => exact hr
  | ok fl =>
    cases fl with
    | ret u =>
      obtain ⟨l, rfl, rfl⟩ := hr
      have atS : (s.heap.push (newSet l)).get? s.heap.objs.size = some (newSet l) := Heap.get?_push_size _ rfl
      have isS : Shared.TypeIs { s with heap := s.heap.push (newSet l) } (.ref s.heap.objs.size) "set" := ⟨_, atS, rfl⟩
      have f6 := PySem.F.called_set.init.lookup
      have f7 := PySem.F.called_set.init.bind (.ref s.heap.objs.size)
      repeat (any_goals (first | assumption | wp_step))
      refine codeAny_mono (codeAny_call_builtin (R := wants (fun r s2 => r = .none ∧ ∃ h2 tk c, s2 = { s with heap := h2, toks := tk } ∧ Cnt zs zs.length c ∧ StS P w h2 s.heap.objs.size zs zs.length c ∧ ∀ a o, s.heap.get? a = some o → h2.get? a = some o) E)
        PySem.F.called_set.init.plain PySem.F.entry_set_init (check_set_init_1 isS ?_)) fun r2 s2 hr2 => ?_
      · obtain ⟨ot, et, ec, nt, ed⟩ := ht
        obtain ⟨c0, d0, x0, l0⟩ := ot
        dsimp only at ec ed
        subst ec ed
        have et2 := Heap.get?_push_of_some (newSet l) et
        have g1 := PySem.F.sub_tuple_set
        have g2 := PySem.F.sub_tuple_frozenset
        have g3 : (Value.type "tuple" == Value.type "dict") = false := by decide
        have isT : (s.heap.push (newSet l)).IsTuple t its := ⟨_, et2, rfl, nt, rfl⟩
        unfold Builtin.«set.__init__» noKeywords Builtin.Frozenset.updateFrom
        generalize hPI : pyIter = PI
        wp_walk
        subst hPI
        refine wpAny_pyIter_tuple isT (wpAny_bind (wpAny_runValue ?_))
        have ltS : t < s.heap.objs.size := Heap.lt_size et
        have sz1 : (s.heap.push (newSet l)).objs.size = s.heap.objs.size + 1 := Heap.size_push ..
        have neT : t ≠ (s.heap.push (newSet l)).objs.size := by rw [sz1]; exact Nat.ne_of_lt (Nat.lt_succ_of_lt ltS)
        have nin : s.heap.objs.size ∉ [(s.heap.push (newSet l)).objs.size, t] := by
          rw [sz1]
          intro m
          rcases List.mem_cons.mp m with e | m
          · exact Nat.ne_of_lt (Nat.lt_succ_self _) e
          · exact Nat.ne_of_gt ltS (List.mem_singleton.mp m)
        have nh : A.in1.in1.in1.handled = none := by simp [hh]
        refine sets_loop ((Walks.tuple nh _ t neT its).toS) nin zs lz hb (fun i v e => ?_) (its.size - 0) 0 _ (by omega) (Nat.zero_le _) ⟨⟨_, Heap.get?_push_size _ rfl, rfl, rfl⟩, isT.push _⟩ ⟨0, cnt_zero zs, ?hS0⟩ ?hR
        · have hi : i < zs.length := by rw [← lz]; exact (Array.getElem?_eq_some_iff.mp e).1
          obtain ⟨tk, ev⟩ := SS.strs_at hz i v (by rw [Array.getElem?_toList]; exact e)
          refine ⟨zs[i], tk, List.getElem?_eq_getElem hi, ?_⟩
          rw [ev, List.getD_eq_getElem?_getD, List.getElem?_eq_getElem hi]; rfl
        case hS0 => exact SetOf_congr ((setObjOf_fresh (knd := PySem.strKind P w) l).setOf (Heap.get?_push_of_some _ atS) (by unfold scanBound; omega)) (fun y => by simp) rfl
        case hR =>
          intro s3 c3 mv hc3 hs3
          obtain ⟨h3, gg3, d3, tk3, os3⟩ := s3
          obtain rfl : gg3 = s.gens := mv.gens
          obtain rfl : d3 = s.drawn := mv.drawn
          obtain rfl : os3 = s.os := mv.os
          show wpAny _ _ _ _ _ _
          refine wpAny_pure ?_
          show wpAny _ _ (ret Value.none) _ _ _
          rw [lz] at hc3 hs3
          refine wpAny_pure ⟨rfl, h3, tk3, c3, rfl, hc3, hs3, fun a o e => ?_⟩
          have la : a < s.heap.objs.size := Heap.lt_size e
          refine mv.heap a o (fun m => ?_) (Heap.get?_push_of_some _ (Heap.get?_push_of_some _ e))
          rcases List.mem_cons.mp m with z | m
          · exact Nat.ne_of_lt la z
          · have z := List.mem_singleton.mp m
            rw [sz1] at z
            exact Nat.ne_of_lt (Nat.lt_succ_of_lt la) z
      · cases r2 with
        | error e => exact hr2
        | ok fl2 =>
          cases fl2 with
          | ret r =>
            obtain ⟨rfl, h2, tk, c2, rfl, hc2, hs2, hk2⟩ := hr2
            repeat (any_goals (first | assumption | wp_step))
            exact h _ _ _ hc2 hs2 hk2
          | _ => exact hr2.elim
    | _ => exact hr.elim
end
/-- len(set(e)) -/
def tLenSetN (K : PySem.W.Frag) (ta : TE) : TE := fun σ H Q => ta σ H fun x H1 => ∃ (t : Addr) (zs : List Str), x = .ref t ∧ SqT K H1 t (zs.map V.str) ∧ zs.length ≤ 1000 ∧ ∀ c : Nat, (c = zs.length ↔ zs.Nodup) → Q (.int (c : Int)) H1
theorem pe_lenSetN {X : Cx} {a : Expr} {ta : TE} {p p2 q pos : Pos} (hg : Gl X "len") (hm : X.mg "len" = none) (hg2 : Gl X "set") (hm2 : X.mg "set" = none) (ha : PE X a ta) (hc : X.calm = true := by rfl)
    (na : starEach [a] X.env = (false, eval a X.env) :: starEach [] X.env := by rfl) : PE X (.Call (.Name "len" p) [.Call (.Name "set" p2) [a] [] q] [] pos) (tLenSetN X.K ta) := by
  refine ⟨fun pins s σ H Q I h => ?_⟩
  refine Call_ (ld_blt I hg hm boot_len (PyProof.Rows.callWith_builtin1 (PyProof.Rows.args_cons ?_ rfl) rfl rfl))
  refine Call_ (ld_blt I hg2 hm2 boot_set (PyProof.Rows.callWith_type1 (PyProof.Rows.args_cons (thn (ha.run pins s σ H _ I h) fun v s1 ⟨x, H1, I1, rx, hx⟩ => PyProof.Rows.args_nil ?_) na) na rfl))
  obtain ⟨t, zs, rfl, ht, hl, hx⟩ := hx
  cases rx
  obtain ⟨its, r, it, hz⟩ := I1.tuple ht
  refine sets_call (I1.ok.hd hc) it (by simpa using strsAre_of r) (by unfold scanBound; omega) fun h2 tk c hcn hst hk => ?_
  refine PyProof.Rows.args_nil ?_
  obtain ⟨o, es, ep, tb, e1, e2, e3, _, _, _, e4, e5⟩ := hst
  have I2 : Inv X pins σ H1 { s1 with heap := h2, toks := tk } := I1.kept fun b ob e => hk b ob e
  have lc : c ≤ zs.length := hcn.1
  refine call_len_set e1 e2 e3 e4 (by rw [e5]; omega) ⟨.int c, H1, I2.tok _, ⟨_, by rw [e5]⟩, hx c ?_⟩
  have := hcn.2
  rw [List.take_of_length_le (Nat.le_refl _)] at this
  exact this
end LK
set_option Elab.async false
set_option linter.all false
set_option maxRecDepth 100000
set_option maxHeartbeats 2000000
namespace LK
open PySem PySem.Spec PyProof.Rows L2 Evl
/-! ### type(x) not in (list, tuple) -/
def metaT : List String := ["NoneType", "bool", "int", "str", "list", "tuple", "dict"]
theorem meta_of {T : String} (h : T ∈ metaT) : ∀ s' : Shared, s'.TypeIs (.type T) "type" := by
  simp only [metaT, List.mem_cons, List.not_mem_nil, or_false] at h
  rcases h with rfl | rfl | rfl | rfl | rfl | rfl | rfl
  · exact TypeEq.meta_NoneType
  · exact TypeEq.meta_bool
  · exact TypeEq.meta_int
  · exact TypeEq.meta_str
  · exact TypeEq.meta_list
  · exact TypeEq.meta_tuple
  · exact TypeEq.meta_dict
theorem eqAt_ty {A : Around} {s : Shared} {U T : String} (hU : U ∈ metaT) (hT : T ∈ metaT) : SeqAt.EqAt A s (.type U) (.type T) (decide (U = T)) := by
  by_cases e : U = T
  · subst e
    rw [decide_eq_true rfl]
    exact SeqAt.EqAt.same _
  · rw [decide_eq_false e]
    intro prog w E Q h
    unfold eqBool
    have hne : (Value.type U == Value.type T) = false := beq_eq_false_iff_ne.mpr fun z => e (by injection z)
    refine wpAny_holding (wpAny_ite_split (fun hab => absurd hab (by rw [hne]; exact Bool.false_ne_true)) fun _ => ?_)
    exact wpAny_bind (TypeEq.eq_type_other (meta_of hU) (meta_of hT) hne (wpAny_truthy_bool h))
def tyEq (T : String) : Value → Bool
  | .type z => decide (z = T)
  | _ => false
def rNotTy (K : PySem.W.Frag) : R2 := fun x y H Q => ∃ (T U W : String) (p : Addr), x = .ty T ∧ y = .ref p ∧ SqT K H p [.ty U, .ty W] ∧ (T ∈ metaT ∧ U ∈ metaT ∧ W ∈ metaT) ∧ Q (.bl (!(decide (U = T) || decide (W = T)))) H
theorem op_notIn_ty {X : Cx} : OpR X (compareOp .NotIn) (rNotTy X.K) := by
  intro pins s σ H x y v u Q I rx ry h
  obtain ⟨T, U, W, p, rfl, rfl, hq, ⟨h1, h2, h3⟩, q⟩ := h
  obtain rfl : v = .type T := rx
  obtain rfl : u = .ref p := ry
  obtain ⟨its, r, pl, hz⟩ := I.tuple hq
  cases r with
  | @cons _ u1 _ _ r1 r =>
    cases r with
    | @cons _ u2 _ _ r2 r =>
      cases r
      obtain rfl : u1 = .type U := r1
      obtain rfl : u2 = .type W := r2
      refine SeqAt.notIn_tupleAt (tyEq T) pl (fun w hw => ?_) ⟨.bl _, H, I, rfl, ?_⟩
      · have hw' : w = .type U ∨ w = .type W := by simpa using hw
        rcases hw' with rfl | rfl
        · exact eqAt_ty h2 h1
        · exact eqAt_ty h3 h1
      · have e : (!([Value.type U, Value.type W].toArray.any (tyEq T))) = !(decide (U = T) || decide (W = T)) := by
          simp [tyEq]
        rw [e]
        exact q
theorem pe_fldA {X : Cx} {e : Expr} {ta : TE} {f : Str} {pos : Pos} (he : PE X e ta) (hb : attributeBase e f X.env (eval e X.env) = eval e X.env := by rfl) : PE X (.Attribute e f pos) (tFld X.K ta f) := pe_fld he hb
theorem ps_fldA {X : Cx} {o value : Expr} {ta tv : TE} {f : Str} {pos pos' : Pos} (ha : PE X o ta) (hv : PE X value tv) (hs : swapsWith value (some (.Attribute o f pos')) pos.line X.env = pure false := by rfl) : PS X (.Assign [.Attribute o f pos'] value pos) (sFld X.K ta tv f) := ps_fld ha hv hs
/-- e.f within a comprehension -/
theorem pe_fldK (K : PySem.W.Frag) {X : Cx} {e : Expr} {ta : TE} {f : Str} {pos : Pos} (he : PE X e ta) (hb : attributeBase e f X.env (eval e X.env) = eval e X.env := by rfl) (hK : X.K = K := by rfl) : PE X (.Attribute e f pos) (tFld K ta f) := by
  subst hK
  exact pe_fld he hb
theorem tk_dK {H : Hp} {D : Addr} {kvs : List (Key × V)} {o : HO} (h : H D = some (.dK kvs)) : Tk H (upd H D o) := by
  intro a u hu e
  rw [upd_ne]
  · exact e
  · rintro rfl
    rw [h] at e
    cases e
    rcases hu with ⟨_, z⟩ | ⟨_, _, z⟩ <;> cases z
/-! ### functions, as data -/
structure FnD where
  n : PyData
  p : PyData
  b : PyData
def parD : PyData → Bool
  | .tuple l => l.all nameD && decide ((l.map strD).Nodup)
  | _ => false
def headD (f : FnD) : Bool := nameD f.n && parD f.p
def headT : Option FnD → Bool
  | some f => headD f
  | none => false
def cntStep (cs : List (Str × Int)) : Option FnD → List (Str × Int)
  | some f => if headD f && !(cs.lookup (strD f.n)).isSome then cs ++ [(strD f.n, (lenT f.p : Int))] else cs
  | none => cs
def countsD (ts : List (Option FnD)) : List (Str × Int) := ts.foldl cntStep []
def badAt (cs : List (Str × Int)) (i : Nat) (ah : List Str) : Option FnD → Bool
  | some f => (decide (i = 6) || !headD f || decide (strD f.n ∈ ah)) || !okD cs "body" false f.b
  | none => true
def nameT : Option FnD → Str
  | some f => strD f.n
  | none => ""
def wrongAt (cs : List (Str × Int)) : Nat → List Str → List (Option FnD) → Option Nat
  | _, _, [] => none
  | i, ah, t :: ts => if badAt cs i ah t then some i else wrongAt cs (i + 1) (ah ++ [nameT t]) ts
def wrongD (ts : List (Option FnD)) : Option Nat := if ts = [] then some 0 else wrongAt (countsD ts) 0 [] ts
/-- a Function's fields -/
def fld (n p b : V) : List (Str × V) := [("name", n), ("params", p), ("body", b)]
theorem kf_np : ¬ (("name" : Str) = "params") := by decide +kernel
theorem kf_nb : ¬ (("name" : Str) = "body") := by decide +kernel
theorem kf_pb : ¬ (("params" : Str) = "body") := by decide +kernel
theorem fld_eq (n p b : V) : putF "body" b (putF "params" p (putF "name" n [])) = fld n p b := by
  simp [putF, fld, kf_np, kf_nb, kf_pb]
theorem fld_name (n p b : V) : (fld n p b).lookup ("name" : Str) = some n := by simp [fld, List.lookup]
theorem fld_params (n p b : V) : (fld n p b).lookup ("params" : Str) = some p := by
  have : (("params" : Str) == ("name" : Str)) = false := by decide +kernel
  simp [fld, List.lookup, this]
theorem fld_body (n p b : V) : (fld n p b).lookup ("body" : Str) = some b := by
  have h1 : (("body" : Str) == ("name" : Str)) = false := by decide +kernel
  have h2 : (("body" : Str) == ("params" : Str)) = false := by decide +kernel
  simp [fld, List.lookup, h1, h2]
/-- what is small enough to be looked at -/
structure FnS (f : FnD) : Prop where
  n : smallD f.n = true
  p : smallD f.p = true
  b : smallD f.b = true
  bz : sizeD f.b ≤ 20000
  pl : lenT f.p ≤ 1000
/-- a thing in a list of functions: a Function of the class at C, or another thing -/
inductive Th (K : PySem.W.Frag) (C : Addr) (H : Hp) : V → Option FnD → Prop
  | fn {a dx : Addr} {n p b : V} {f : FnD} (e : H a = some (.ins C dx (fld n p b))) (hn : Dp K H n f.n) (hp : Dp K H p f.p) (hb : Dp K H b f.b) (s : FnS f) : Th K C H (.ref a) (some f)
  | other {x : V} (h : ∀ H', Same H H' → ∃ t, TyX K H' x t ∧ PySem.W.kitOne K t (.ref C) = some false) : Th K C H x none
theorem Th.same {K : PySem.W.Frag} {C : Addr} {H H' : Hp} {x : V} {t : Option FnD} (h : Th K C H x t) (s : Same H H') : Th K C H' x t := by
  cases h with
  | fn e hn hp hb z => exact .fn (s _ _ e) (Dp.small s _ hn z.n) (Dp.small s _ hp z.p) (Dp.small s _ hb z.b) z
  | other h => exact .other fun H2 s2 => h H2 (s.trans s2)
/-- the things of a list -/
def Ths (K : PySem.W.Frag) (C : Addr) (H : Hp) (vs : List V) (ts : List (Option FnD)) : Prop := Paired (Th K C H) vs ts
theorem Ths.same {K : PySem.W.Frag} {C : Addr} {H H' : Hp} (s : Same H H') : ∀ {vs : List V} {ts : List (Option FnD)}, Ths K C H vs ts → Ths K C H' vs ts
  | _, _, .nil => .nil
  | _, _, .cons h r => .cons (h.same s) (Ths.same s r)
theorem Ths.at {K : PySem.W.Frag} {C : Addr} {H : Hp} : ∀ {vs : List V} {ts : List (Option FnD)} {i : Nat} {x : V}, Ths K C H vs ts → vs[i]? = some x → ∃ t, ts[i]? = some t ∧ Th K C H x t
  | _, _, i, x, .nil, h => by simp at h
  | _, _, 0, x, .cons r _, h => by
    have e := Option.some.inj h
    subst e
    exact ⟨_, rfl, r⟩
  | _, _, i + 1, x, .cons _ r, h => by
    rw [List.getElem?_cons_succ] at h
    obtain ⟨t, e, r2⟩ := Ths.at r h
    exact ⟨t, by rw [List.getElem?_cons_succ]; exact e, r2⟩
theorem ths_len {K : PySem.W.Frag} {C : Addr} {H : Hp} {vs : List V} {ts : List (Option FnD)} (h : Ths K C H vs ts) : vs.length = ts.length := Paired.length h
theorem name_str {d : PyData} (h : nameD d = true) : ∃ z, d = .str z := by
  cases d with
  | str z => exact ⟨z, rfl⟩
  | _ => cases h
theorem names_strs : ∀ {l : List PyData}, l.all nameD = true → l = (l.map strD).map PyData.str
  | [], _ => rfl
  | d :: l, h => by
    rw [List.all_cons, Bool.and_eq_true] at h
    obtain ⟨z, rfl⟩ := name_str h.1
    show PyData.str z :: l = PyData.str z :: (l.map strD).map PyData.str
    rw [← names_strs h.2]
theorem dps_strs {K : PySem.W.Frag} {H : Hp} : ∀ {l : List Str} {vs : List V}, DpAll K H vs (l.map PyData.str) → vs = l.map V.str
  | [], _, h => by cases h; rfl
  | z :: l, _, h => by
    cases h with
    | cons h1 h2 =>
      cases h1
      rw [dps_strs h2]; rfl
/-! the dict of counts -/
theorem lookup_kvC (cs : List (Str × Int)) (n : Str) : (valV (kvC cs) (.inr n : Key)).isSome = (cs.lookup n).isSome := by
  rw [val_kvC]
  cases cs.lookup n <;> rfl
theorem any_key {k : Key} : ∀ {kvs : List (Key × V)}, valV kvs k = none → (kvs.any fun kv => decide (kv.fst = k)) = false
  | [], _ => rfl
  | (k', v') :: kvs, h => by
    by_cases e : k' = k
    · subst e
      rw [valV_pos rfl] at h
      cases h
    · rw [valV_neg e] at h
      rw [List.any_cons, any_key h, Bool.or_false]
      exact decide_eq_false e
theorem putK_new {kvs : List (Key × V)} {k : Key} {v : V} (h : valV kvs k = none) : putK kvs k v = kvs ++ [(k, v)] := by
  unfold putK
  rw [any_key h]; rfl
theorem kvC_snoc (cs : List (Str × Int)) (n : Str) (i : Int) : kvC (cs ++ [(n, i)]) = kvC cs ++ [((.inr n : Key), .int i)] := by
  unfold kvC
  rw [List.map_append]; rfl
def kvN (ah : List Str) : List (Key × V) := ah.map fun n => ((.inr n : Key), .bl true)
theorem val_kvN (n : Str) : ∀ ah : List Str, (valV (kvN ah) (.inr n : Key)).isSome = decide (n ∈ ah)
  | [] => rfl
  | m :: ah => by
    by_cases h : m = n
    · subst h
      rw [show kvN (m :: ah) = ((.inr m : Key), .bl true) :: kvN ah from rfl, valV_pos rfl, decide_eq_true List.mem_cons_self]; rfl
    · rw [show kvN (m :: ah) = ((.inr m : Key), .bl true) :: kvN ah from rfl, valV_neg (kne h), val_kvN n ah]
      by_cases q : n ∈ ah
      · rw [decide_eq_true q, decide_eq_true (List.mem_cons_of_mem _ q)]
      · rw [decide_eq_false q, decide_eq_false fun z => (List.mem_cons.mp z).elim (fun e => h e.symm) q]
theorem kvN_snoc (ah : List Str) (n : Str) : kvN (ah ++ [n]) = kvN ah ++ [((.inr n : Key), .bl true)] := by
  unfold kvN
  rw [List.map_append]; rfl
theorem cnt_len : ∀ (ts : List (Option FnD)) (cs : List (Str × Int)), (ts.foldl cntStep cs).length ≤ cs.length + ts.length
  | [], cs => Nat.le_refl _
  | t :: ts, cs => by
    show (ts.foldl cntStep (cntStep cs t)).length ≤ _
    have h1 := cnt_len ts (cntStep cs t)
    have h2 : (cntStep cs t).length ≤ cs.length + 1 := by
      cases t with
      | none => exact Nat.le_succ _
      | some f =>
        show (if _ then _ else _ : List (Str × Int)).length ≤ _
        split
        · rw [List.length_append]; exact Nat.le_refl _
        · exact Nat.le_succ _
    rw [List.length_cons]
    omega
theorem seqL_put {K : PySem.W.Frag} {H : Hp} {a C dx : Addr} {fs gs : List (Str × V)} (ha : H a = some (.ins C dx fs)) {b : Addr} {xs : List V} (h : SqL K H b xs) : SqL K (upd H a (.ins C dx gs)) b xs := by
  rcases h with (h | ⟨o, h⟩) | h
  · exact .inl (.inl (by rw [upd_ne (ne_of h ha (by intro z; cases z))]; exact h))
  · exact .inl (.inr ⟨o, by rw [upd_ne (ne_of h ha (by intro z; cases z))]; exact h⟩)
  · exact .inr h
theorem seqT_put {K : PySem.W.Frag} {H : Hp} {a C dx : Addr} {fs gs : List (Str × V)} (ha : H a = some (.ins C dx fs)) {b : Addr} {xs : List V} (h : SqT K H b xs) : SqT K (upd H a (.ins C dx gs)) b xs := by
  rcases h with (h | ⟨o, h⟩) | h
  · exact .inl (.inl (by rw [upd_ne (ne_of h ha (by intro z; cases z))]; exact h))
  · exact .inl (.inr ⟨o, by rw [upd_ne (ne_of h ha (by intro z; cases z))]; exact h⟩)
  · exact .inr h
mutual
/-- an instance's fields are put: data stays -/
theorem Dp.put {K : PySem.W.Frag} {H : Hp} {a C dx : Addr} {fs gs : List (Str × V)} (ha : H a = some (.ins C dx fs)) : ∀ (d : PyData) {v : V}, Dp K H v d → smallD d = true → Dp K (upd H a (.ins C dx gs)) v d
  | .none, _, h, _ => by cases h; exact .non
  | .bool b, _, h, _ => by cases h; exact .bl b
  | .int i, _, h, _ => by cases h; exact .int i
  | .str x, _, h, _ => by cases h; exact .str x
  | .list l, _, h, o => by
    cases h with
    | lst hs hd => exact .lst (seqL_put ha hs) (DpAll.put ha l hd o)
  | .tuple l, _, h, o => by
    cases h with
    | tup hs hd => exact .tup (seqT_put ha hs) (DpAll.put ha l hd o)
  | .dict l, _, h, _ => by cases h
theorem DpAll.put {K : PySem.W.Frag} {H : Hp} {a C dx : Addr} {fs gs : List (Str × V)} (ha : H a = some (.ins C dx fs)) : ∀ (ds : List PyData) {vs : List V}, DpAll K H vs ds → smallL ds = true → DpAll K (upd H a (.ins C dx gs)) vs ds
  | [], _, h, _ => by cases h; exact .nil
  | d :: ds, _, h, o => by
    cases h with
    | cons h1 h2 =>
      have o' : (smallD d && smallL ds) = true := o
      obtain ⟨o1, o2⟩ := Bool.and_eq_true_iff.mp o'
      exact .cons (Dp.put ha d h1 o1) (DpAll.put ha ds h2 o2)
end
theorem th_put {K : PySem.W.Frag} {C : Addr} {H : Hp} {a B dx : Addr} {fs gs : List (Str × V)} (ha : H a = some (.ins B dx fs)) (ne : B ≠ C) {x : V} {f : FnD} (h : Th K C H x (some f)) : Th K C (upd H a (.ins B dx gs)) x (some f) := by
  cases h with
  | @fn c dc n p b _ e hn hp hb z =>
    have e2 : upd H a (.ins B dx gs) c = some (.ins C dc (fld n p b)) := by
      rw [upd_ne (ne_of e ha (by intro z; injection z with z1; exact ne z1.symm))]
      exact e
    exact .fn e2 (Dp.put ha _ hn z.n) (Dp.put ha _ hp z.p) (Dp.put ha _ hb z.b) z
theorem ths_put {K : PySem.W.Frag} {C : Addr} {H : Hp} {a B dx : Addr} {gs hs : List (Str × V)} (ha : H a = some (.ins B dx gs)) (ne : B ≠ C) : ∀ {vs : List V} {fs : List FnD}, Ths K C H vs (fs.map some) → Ths K C (upd H a (.ins B dx hs)) vs (fs.map some)
  | _, [], .nil => .nil
  | _, _ :: _, .cons h r => .cons (th_put ha ne h) (ths_put ha ne r)
end LK
set_option Elab.async false
set_option linter.all false
set_option maxRecDepth 100000
set_option maxHeartbeats 2000000
namespace LK
open PySem PySem.Spec PyProof.Rows L2 Evl
/-! ### the boxes that stand in a part -/
mutual
def bxD (k : Str) : PyData → List Str
  | .tuple ds =>
    if k = "body" then bxA "statement" ds else if k = "things" then bxA "expression" ds
    else if k = "statement" ∨ k = "expression" then bxR ((kindsD k (.tuple ds)).getD []) ds else []
  | .str z => if k = "box" ∨ k = "caught" then [z] else []
  | _ => []
def bxA (k : Str) : List PyData → List Str
  | [] => []
  | d :: r => bxD k d ++ bxA k r
def bxZ : List Str → List PyData → List Str
  | k :: ks, d :: r => bxD k d ++ bxZ ks r
  | _, _ => []
def bxR (ks : List Str) : List PyData → List Str
  | [] => []
  | _ :: r => bxZ ks r
end
abbrev bxP (p : Str × PyData) : List Str := bxD p.1 p.2
theorem bxA_eq (k : Str) : ∀ ds : List PyData, bxA k ds = (ds.map fun d => (k, d)).flatMap bxP
  | [] => by unfold bxA; rfl
  | d :: r => by
    unfold bxA
    rw [bxA_eq k r]; rfl
theorem bxZ_eq : ∀ (ks : List Str) (ds : List PyData), bxZ ks ds = (ks.zip ds).flatMap bxP
  | [], [] => by unfold bxZ; rfl
  | [], _ :: _ => by unfold bxZ; rfl
  | _ :: _, [] => by unfold bxZ; rfl
  | k :: ks, d :: r => by
    unfold bxZ
    rw [bxZ_eq ks r]; rfl
theorem bxR_eq (ks : List Str) (ds : List PyData) : bxR ks ds = (ks.zip ds.tail).flatMap bxP := by
  cases ds with
  | nil => unfold bxR; cases ks <;> rfl
  | cons d r => unfold bxR; rw [bxZ_eq]; rfl
theorem bxD_t (k : Str) (ds : List PyData) : bxD k (.tuple ds) = (if k = "body" then bxA "statement" ds else if k = "things" then bxA "expression" ds
    else if k = "statement" ∨ k = "expression" then bxR ((kindsD k (.tuple ds)).getD []) ds else []) := by unfold bxD; rfl
theorem bxD_s (k z : Str) : bxD k (.str z) = if k = "box" ∨ k = "caught" then [z] else [] := by unfold bxD; rfl
/-- the box that a part is itself -/
def hdB (k : Str) : PyData → List Str
  | .str z => if k = "box" ∨ k = "caught" then [z] else []
  | _ => []
theorem bxD_step (k : Str) (d : PyData) : bxD k d = hdB k d ++ (insideD k d).flatMap bxP := by
  cases d with
  | tuple ds =>
    rw [bxD_t, in_t]
    show _ = [] ++ _
    rw [List.nil_append]
    by_cases h1 : k = "body"
    · rw [if_pos h1, if_pos h1, bxA_eq]
    rw [if_neg h1, if_neg h1]
    by_cases h2 : k = "things"
    · rw [if_pos h2, if_pos h2, bxA_eq]
    rw [if_neg h2, if_neg h2]
    by_cases h3 : k = "statement" ∨ k = "expression"
    · rw [if_pos h3, if_pos h3, bxR_eq]
    · rw [if_neg h3, if_neg h3]; rfl
  | str z => rw [bxD_s]; show _ = (if _ then _ else _) ++ []; rw [List.append_nil]
  | none => unfold bxD; rfl
  | bool b => unfold bxD; rfl
  | int i => unfold bxD; rfl
  | list m => unfold bxD; rfl
  | dict m => unfold bxD; rfl
theorem bx_expr (z : Str) (r : List PyData) : bxD "expression" (.tuple (.str z :: r)) = bxZ ((exprK.lookup z).getD []) r := by
  rw [bxD_t, if_neg (by decide +kernel), if_neg (by decide +kernel), if_pos (.inr rfl)]
  have e : kindsD "expression" (.tuple (.str z :: r)) = exprK.lookup z := by
    show (if ("expression" : Str) = "statement" then stmK.lookup z else exprK.lookup z) = _
    rw [if_neg (by decide +kernel)]
  rw [e]
  unfold bxR; rfl
theorem bx_stm (z : Str) (r : List PyData) : bxD "statement" (.tuple (.str z :: r)) = bxZ ((stmK.lookup z).getD []) r := by
  rw [bxD_t, if_neg (by decide +kernel), if_neg (by decide +kernel), if_pos (.inl rfl)]
  have e : kindsD "statement" (.tuple (.str z :: r)) = stmK.lookup z := by
    show (if ("statement" : Str) = "statement" then stmK.lookup z else exprK.lookup z) = _
    rw [if_pos rfl]
  rw [e]
  unfold bxR; rfl
theorem bx_body (ds : List PyData) : bxD "body" (.tuple ds) = bxA "statement" ds := by rw [bxD_t, if_pos rfl]
theorem bx_things (ds : List PyData) : bxD "things" (.tuple ds) = bxA "expression" ds := by rw [bxD_t, if_neg (by decide +kernel), if_pos rfl]
theorem bx_box (z : Str) : bxD "box" (.str z) = [z] := by rw [bxD_s, if_pos (.inl rfl)]
theorem bx_caught (z : Str) : bxD "caught" (.str z) = [z] := by rw [bxD_s, if_pos (.inr rfl)]
theorem bx_caught0 : bxD "caught" .none = [] := by unfold bxD; rfl
theorem bx_way (z : Str) : bxD "way" (.str z) = [] := by rw [bxD_s, if_neg (by decide +kernel)]
theorem bx_fun (z : Str) : bxD "function" (.str z) = [] := by rw [bxD_s, if_neg (by decide +kernel)]
theorem bx_num (n : Int) : bxD "number" (.int n) = [] := by unfold bxD; rfl
theorem bxZ_c (k : Str) (ks : List Str) (d : PyData) (r : List PyData) : bxZ (k :: ks) (d :: r) = bxD k d ++ bxZ ks r := by
  rw [bxZ]
theorem bxZ_n (ks : List Str) : bxZ ks [] = [] := by cases ks <;> (unfold bxZ; rfl)
theorem bx_ex {bs : List Str} {d : Nat} {e : Ex} (h : OkE bs d e) : bxD "expression" (exD e) = boxesE e := by
  induction h with
  | num _ _ =>
    show bxD "expression" (.tuple (.str "number" :: [_])) = _
    rw [bx_expr, show exprK.lookup ("number" : Str) = some (["number"] : List Str) by decide +kernel]
    show bxZ ["number"] _ = _
    rw [bxZ_c, bxZ_n, bx_num]; rfl
  | non =>
    show bxD "expression" (.tuple (.str "none" :: [])) = _
    rw [bx_expr, bxZ_n]; rfl
  | box hb =>
    show bxD "expression" (.tuple (.str "box" :: [_])) = _
    rw [bx_expr, show exprK.lookup ("box" : Str) = some (["box"] : List Str) by decide +kernel]
    show bxZ ["box"] _ = _
    rw [bxZ_c, bxZ_n, bx_box]; rfl
  | @op d w a b hw ha hb i1 i2 =>
    show bxD "expression" (.tuple (.str w :: [_, _])) = _
    have e : exprK.lookup w = some (["expression", "expression"] : List Str) := by
      have h : ∀ z ∈ opW, exprK.lookup z = some (["expression", "expression"] : List Str) := by decide +kernel
      exact h w hw
    rw [bx_expr, e]
    show bxZ ["expression", "expression"] _ = _
    rw [bxZ_c, bxZ_c, bxZ_n, i1, i2, List.append_nil]; rfl
theorem bx_exs {bs : List Str} {d : Nat} : ∀ {es : List Ex}, (∀ e ∈ es, OkE bs d e) → bxA "expression" (es.map exD) = (es.map boxesE).flatten
  | [], _ => by unfold bxA; rfl
  | e :: es, h => by
    show bxA "expression" (exD e :: es.map exD) = _
    rw [bxA, bx_ex (h e List.mem_cons_self), bx_exs fun x hx => h x (List.mem_cons_of_mem _ hx)]; rfl
theorem bx_sms {x : List Sm} (h : ∀ s ∈ x, bxD "statement" (smD s) = boxesS s) : bxD "body" (bodyD x) = boxesB x := by
  show bxD "body" (.tuple (smsD x)) = _
  rw [bx_body]
  induction x with
  | nil => show bxA _ [] = _; unfold bxA; rfl
  | cons s r ih =>
    show bxA "statement" (smD s :: smsD r) = boxesS s ++ boxesB r
    rw [bxA, h s List.mem_cons_self, ih fun y hy => h y (List.mem_cons_of_mem _ hy)]
theorem bx_opt (c : Option Str) : bxD "caught" (optD c) = c.toList := by
  cases c with
  | none => exact bx_caught0
  | some z => exact bx_caught z
theorem bx_sm {bs : List Str} {ms : List (Str × Nat)} {q d : Nat} {l : Bool} {s : Sm} (h : OkS bs ms q d l s) : bxD "statement" (smD s) = boxesS s := by
  induction h with
  | @set3 d l w b e hw hb he =>
    show bxD "statement" (.tuple (.str w :: [_, _])) = _
    have e : stmK.lookup w = some (["box", "expression"] : List Str) := by
      have h : ∀ z ∈ (["set", "give", "all"] : List Str), stmK.lookup z = some (["box", "expression"] : List Str) := by decide +kernel
      exact h w hw
    rw [bx_stm, e]
    show bxZ ["box", "expression"] _ = _
    rw [bxZ_c, bxZ_c, bxZ_n, bx_box, bx_ex he, List.append_nil]
    show _ = b :: boxesE _; rfl
  | @one d l w e hw he =>
    show bxD "statement" (.tuple (.str w :: [_])) = _
    have e : stmK.lookup w = some (["expression"] : List Str) := by
      have h : ∀ z ∈ (["say", "return", "close", "throw"] : List Str), stmK.lookup z = some (["expression"] : List Str) := by decide +kernel
      exact h w hw
    rw [bx_stm, e]
    show bxZ ["expression"] _ = _
    rw [bxZ_c, bxZ_n, bx_ex he, List.append_nil]
    show _ = boxesE _; rfl
  | jump hw => show bxD "statement" (.tuple (.str _ :: [])) = _; rw [bx_stm, bxZ_n]; rfl
  | make hb hn he =>
    show bxD "statement" (.tuple (.str "make" :: [_, _, _])) = _
    rw [bx_stm, show stmK.lookup ("make" : Str) = some (["box", "function", "things"] : List Str) by decide +kernel]
    show bxZ ["box", "function", "things"] _ = _
    rw [bxZ_c, bxZ_c, bxZ_c, bxZ_n, bx_box, bx_fun, bx_things, bx_exs he, List.append_nil]; rfl
  | ifs he hx hy i1 i2 =>
    show bxD "statement" (.tuple (.str "if" :: [_, bodyD _, bodyD _])) = _
    rw [bx_stm, show stmK.lookup ("if" : Str) = some (["expression", "body", "body"] : List Str) by decide +kernel]
    show bxZ ["expression", "body", "body"] _ = _
    rw [bxZ_c, bxZ_c, bxZ_c, bxZ_n, bx_ex he, bx_sms i1, bx_sms i2, List.append_nil, ← List.append_assoc]
    show _ = boxesE _ ++ boxesB _ ++ boxesB _; rfl
  | whl he hx i1 =>
    show bxD "statement" (.tuple (.str "while" :: [_, bodyD _])) = _
    rw [bx_stm, show stmK.lookup ("while" : Str) = some (["expression", "body"] : List Str) by decide +kernel]
    show bxZ ["expression", "body"] _ = _
    rw [bxZ_c, bxZ_c, bxZ_n, bx_ex he, bx_sms i1, List.append_nil]
    show _ = boxesE _ ++ boxesB _; rfl
  | pull hb hw he hf hx i1 =>
    show bxD "statement" (.tuple (.str "pull" :: [_, _, _, _, bodyD _])) = _
    rw [bx_stm, show stmK.lookup ("pull" : Str) = some (["box", "way", "expression", "expression", "body"] : List Str) by decide +kernel]
    show bxZ ["box", "way", "expression", "expression", "body"] _ = _
    rw [bxZ_c, bxZ_c, bxZ_c, bxZ_c, bxZ_c, bxZ_n, bx_box, bx_way, bx_ex he, bx_ex hf, bx_sms i1, List.append_nil]; rfl
  | @fin d l x z hx hz hn i1 i2 =>
    show bxD "statement" (.tuple (.str "try" :: [bodyD _, .none, .tuple [], bodyD _])) = _
    rw [bx_stm, show stmK.lookup ("try" : Str) = some (["body", "caught", "body", "body"] : List Str) by decide +kernel]
    show bxZ ["body", "caught", "body", "body"] _ = _
    rw [bxZ_c, bxZ_c, bxZ_c, bxZ_c, bxZ_n, bx_sms i1, bx_caught0, bx_sms i2, bx_body, List.append_nil]
    show _ = boxesB x ++ [] ++ ([] ++ boxesB z)
    unfold bxA
    simp
  | @tri d l x y z c hc hx hy hz i1 i2 i3 =>
    show bxD "statement" (.tuple (.str "try" :: [bodyD _, .str _, bodyD _, bodyD _])) = _
    rw [bx_stm, show stmK.lookup ("try" : Str) = some (["body", "caught", "body", "body"] : List Str) by decide +kernel]
    show bxZ ["body", "caught", "body", "body"] _ = _
    rw [bxZ_c, bxZ_c, bxZ_c, bxZ_c, bxZ_n, bx_sms i1, bx_caught, bx_sms i2, bx_sms i3, List.append_nil]
    show _ = boxesB x ++ [c] ++ (boxesB y ++ boxesB z)
    simp
/-! each once, as they first stand -/
def addS (acc : List Str) (z : Str) : List Str := if z ∈ acc then acc else acc ++ [z]
def ded (acc zs : List Str) : List Str := zs.foldl addS acc
theorem ded_app (acc a b : List Str) : ded acc (a ++ b) = ded (ded acc a) b := List.foldl_append ..
theorem put_kvN (acc : List Str) (z : Str) : putK (kvN acc) (.inr z : Key) (.bl true) = kvN (addS acc z) := by
  unfold addS
  by_cases m : z ∈ acc
  · rw [if_pos m]
    have a : ((kvN acc).any fun kv => decide (kv.fst = (.inr z : Key))) = true := by
      rw [List.any_eq_true]
      exact ⟨((.inr z : Key), .bl true), List.mem_map.mpr ⟨z, m, rfl⟩, decide_eq_true rfl⟩
    unfold putK
    rw [a]
    show List.map _ (kvN acc) = kvN acc
    unfold kvN
    rw [List.map_map]
    refine List.map_congr_left fun y hy => ?_
    show (if ((.inr y : Key) = .inr z) then _ else _) = _
    split <;> rfl
  · rw [if_neg m]
    have ev : valV (kvN acc) (.inr z : Key) = none := by
      have h := val_kvN z acc
      rw [decide_eq_false m] at h
      cases e : valV (kvN acc) (.inr z : Key) with
      | none => rfl
      | some v => rw [e] at h; cases h
    rw [putK_new ev, ← kvN_snoc]
theorem addS_len (acc : List Str) (z : Str) : (addS acc z).length ≤ acc.length + 1 := by
  unfold addS
  split
  · exact Nat.le_succ _
  · rw [List.length_append]; exact Nat.le_refl _
theorem keys_kvN (acc : List Str) : (kvN acc).map (fun kv => kV kv.1) = acc.map V.str := by
  unfold kvN
  rw [List.map_map]; rfl
/-- what waits: parts that are right -/
def okP (p : Str × PyData) : Prop := smallD p.2 = true ∧ ∃ (cs : List (Str × Int)) (l : Bool), okD cs p.1 l p.2 = true
theorem okP_part {p : Str × PyData} (h : okP p) : isPartD p.1 p.2 = true := by
  obtain ⟨_, cs, l, h⟩ := h
  rw [okD_step] at h
  exact (Bool.and_eq_true_iff.mp h).1
theorem okP_in {k : Str} {d : PyData} (h : okP (k, d)) : ∀ p ∈ insideD k d, okP p := by
  obtain ⟨sm, cs, l, h⟩ := h
  intro p hp
  refine ⟨small_inside sm p hp, cs, loopD k l d, ?_⟩
  have h' : okD cs k l d = true := h
  rw [okD_step] at h'
  have h2 := (Bool.and_eq_true_iff.mp (Bool.and_eq_true_iff.mp h').2).2
  exact List.all_eq_true.mp h2 p hp
theorem okP_box {k : Str} {d : PyData} (h : okP (k, d)) (hk : k = "box" ∨ k = "caught") (hn : d ≠ .none) : ∃ z, d = .str z ∧ hdB k d = [z] := by
  have hp := okP_part h
  have hp' : isPartD k d = true := hp
  unfold isPartD at hp'
  have d1 : ¬ (k = "statement" ∨ k = "expression") := by rcases hk with rfl | rfl <;> decide +kernel
  have d2 : ¬ (k = "body" ∨ k = "things") := by rcases hk with rfl | rfl <;> decide +kernel
  have d3 : ¬ k = "number" := by rcases hk with rfl | rfl <;> decide +kernel
  have d4 : ¬ k = "way" := by rcases hk with rfl | rfl <;> decide +kernel
  rw [if_neg d1, if_neg d2, if_neg d3, if_neg d4, notNone hn, Bool.and_false, Bool.false_or] at hp'
  obtain ⟨z, rfl⟩ := name_str hp'
  exact ⟨z, rfl, if_pos hk⟩
theorem hdB_no {k : Str} {d : PyData} (h : ¬ (k = "box" ∨ k = "caught")) : hdB k d = [] := by
  cases d with
  | str z => exact if_neg h
  | _ => rfl
end LK
set_option Elab.async false
set_option linter.all false
set_option maxRecDepth 100000
set_option maxHeartbeats 2000000
namespace LK
open PySem PySem.Spec PyProof.Rows L2 Evl
/-! ### drawn functions as data that a book is made of -/
def fuF (f : Fu) : FnD := ⟨.str f.n, .tuple (f.ps.map PyData.str), bodyD f.b⟩
theorem nm_all : ∀ {zs : List Str}, (∀ z ∈ zs, Nm z) → (zs.map PyData.str).all nameD = true
  | [], _ => rfl
  | z :: zs, h => by
    show (nameOk z && (zs.map PyData.str).all nameD) = true
    rw [Nm.nameOk (h z List.mem_cons_self), nm_all fun y hy => h y (List.mem_cons_of_mem _ hy)]; rfl
theorem strD_map : ∀ zs : List Str, (zs.map PyData.str).map strD = zs
  | [] => rfl
  | z :: zs => by show z :: (zs.map PyData.str).map strD = _; rw [strD_map zs]
theorem head_fu {ms : List (Str × Nat)} {q d L : Nat} {f : Fu} (h : OkF ms q d L f) : headD (fuF f) = true := by
  show (nameOk f.n && ((f.ps.map PyData.str).all nameD && decide (((f.ps.map PyData.str).map strD).Nodup))) = true
  rw [Nm.nameOk h.n, nm_all h.pn, strD_map, decide_eq_true h.nd]; rfl
def fuC (f : Fu) : Str × Int := (f.n, (f.ps.length : Int))
theorem look_none : ∀ {cs : List (Str × Int)} {n : Str}, n ∉ cs.map (·.1) → cs.lookup n = none
  | [], _, _ => rfl
  | (m, i) :: cs, n, h => by
    have h1 : ¬ n = m := fun e => h (by rw [e]; exact List.mem_cons_self)
    have e2 : (n == m) = false := beq_eq_false_iff_ne.mpr h1
    have : ((m, i) :: cs).lookup n = cs.lookup n := by simp [List.lookup, e2]
    rw [this]
    exact look_none fun k => h (List.mem_cons_of_mem _ k)
theorem look_mem : ∀ {cs : List (Str × Int)} {n : Str} {i : Int}, (cs.map (·.1)).Nodup → (n, i) ∈ cs → cs.lookup n = some i
  | [], _, _, _, h => by cases h
  | (m, j) :: cs, n, i, nd, h => by
    obtain ⟨n1, n2⟩ := List.nodup_cons.mp nd
    rcases List.mem_cons.mp h with e | h
    · cases e
      simp [List.lookup]
    · have h1 : ¬ n = m := fun e => n1 (by rw [← e]; exact List.mem_map.mpr ⟨_, h, rfl⟩)
      have e2 : (n == m) = false := beq_eq_false_iff_ne.mpr h1
      have : ((m, j) :: cs).lookup n = cs.lookup n := by simp [List.lookup, e2]
      rw [this]
      exact look_mem n2 h
theorem cnt_fus {ms : List (Str × Nat)} {q d L : Nat} : ∀ {fs : List Fu} {cs : List (Str × Int)}, (∀ f ∈ fs, OkF ms q d L f) → ((cs.map (·.1)) ++ fs.map (·.n)).Nodup → ((fs.map fuF).map some).foldl cntStep cs = cs ++ fs.map fuC
  | [], cs, _, _ => by show cs = cs ++ []; rw [List.append_nil]
  | f :: fs, cs, h, nd => by
    have hf := h f List.mem_cons_self
    have e1 : cs.lookup f.n = none := by
      refine look_none fun m => ?_
      rw [List.map_cons] at nd
      exact (List.nodup_append.mp nd).2.2 _ m _ List.mem_cons_self rfl
    have e : cntStep cs (some (fuF f)) = cs ++ [fuC f] := by
      show (if headD (fuF f) && !(cs.lookup f.n).isSome then cs ++ [(f.n, ((f.ps.map PyData.str).length : Int))] else cs) = _
      rw [head_fu hf, e1, List.length_map]; rfl
    show ((fs.map fuF).map some).foldl cntStep (cntStep cs (some (fuF f))) = _
    rw [e, cnt_fus (fun g hg => h g (List.mem_cons_of_mem _ hg))]
    · rw [List.append_assoc]; rfl
    · rw [List.map_append, List.append_assoc]
      rw [List.map_cons] at nd
      exact nd
theorem counts_fus {most q d L : Nat} {fs : List Fu} (h : OkB most q d L fs) : countsD ((fs.map fuF).map some) = fs.map fuC := by
  have e := cnt_fus (cs := []) h.ok (by show (fs.map (·.n)).Nodup; exact h.nd)
  exact e
theorem names_fuC (fs : List Fu) : (fs.map fuC).map (·.1) = fs.map (·.n) := by rw [List.map_map]; rfl
theorem body_fu {most q d L : Nat} {fs : List Fu} (h : OkB most q d L fs) {f : Fu} (hf : f ∈ fs) : okD (fs.map fuC) "body" false (bodyD f.b) = true := by
  obtain ⟨bs, _, _, bn, _, ok⟩ := (h.ok f hf).bs
  have mn : ∀ u ∈ fs.map fuM, Nm u.1 := fun u hu => by
    obtain ⟨g, hg, rfl⟩ := List.mem_map.mp hu
    exact (h.ok g hg).n
  have mc : ∀ u ∈ fs.map fuM, (fs.map fuC).lookup u.1 = some (u.2 : Int) := fun u hu => by
    obtain ⟨g, hg, rfl⟩ := List.mem_map.mp hu
    exact look_mem (by rw [names_fuC]; exact h.nd) (List.mem_map.mpr ⟨g, hg, rfl⟩)
  exact ok_sms fun s hs => ok_sm bn mn mc (ok s hs)
theorem wrong_fus {ms : List (Str × Nat)} {q d L : Nat} {cs : List (Str × Int)} : ∀ {fs : List Fu} {i : Nat} {ah : List Str}, (∀ f ∈ fs, OkF ms q d L f) → (∀ f ∈ fs, okD cs "body" false (bodyD f.b) = true) → (ah ++ fs.map (·.n)).Nodup → i + fs.length ≤ 6 →
    wrongAt cs i ah ((fs.map fuF).map some) = none
  | [], _, _, _, _, _, _ => rfl
  | f :: fs, i, ah, h, hb, nd, hl => by
    have hn : f.n ∉ ah := fun m => by
      rw [List.map_cons] at nd
      exact (List.nodup_append.mp nd).2.2 _ m _ List.mem_cons_self rfl
    rw [List.length_cons] at hl
    have e : badAt cs i ah (some (fuF f)) = false := by
      show ((decide (i = 6) || !headD (fuF f) || decide (f.n ∈ ah)) || !okD cs "body" false (bodyD f.b)) = false
      rw [head_fu (h f List.mem_cons_self), hb f List.mem_cons_self, decide_eq_false hn, decide_eq_false (by omega)]; rfl
    show (if badAt cs i ah (some (fuF f)) then some i else wrongAt cs (i + 1) (ah ++ [f.n]) ((fs.map fuF).map some)) = none
    rw [e, if_neg Bool.false_ne_true]
    refine wrong_fus (fun g hg => h g (List.mem_cons_of_mem _ hg)) (fun g hg => hb g (List.mem_cons_of_mem _ hg)) ?_ (by omega)
    rw [List.append_assoc]
    rw [List.map_cons] at nd
    exact nd
theorem good_fus {most q d L : Nat} {fs : List Fu} (h : OkB most q d L fs) (m6 : most ≤ 6) : wrongD ((fs.map fuF).map some) = none := by
  unfold wrongD
  have hne : ((fs.map fuF).map some) ≠ [] := fun e => h.f0 (List.map_eq_nil_iff.mp (List.map_eq_nil_iff.mp e))
  rw [if_neg hne, counts_fus h]
  have := h.fl
  exact wrong_fus h.ok (fun f hf => body_fu h hf) (by show (fs.map (·.n)).Nodup; exact h.nd) (by omega)
/-! how small -/
theorem small_nm {z : Str} (h : Nm z) : smallD (.str z) = true := decide_eq_true (Nat.le_trans h.l8 (by decide))
theorem small_nms : ∀ {zs : List Str}, (∀ z ∈ zs, Nm z) → smallL (zs.map PyData.str) = true
  | [], _ => rfl
  | z :: zs, h => by
    show (smallD (.str z) && smallL (zs.map PyData.str)) = true
    rw [small_nm (h z List.mem_cons_self), small_nms fun y hy => h y (List.mem_cons_of_mem _ hy)]; rfl
def bE : Nat → Nat
  | 0 => 3
  | d + 1 => 2 + 2 * bE d
theorem bE_4 {q : Nat} (h : q ≤ 4) : bE q ≤ 78 := by
  match q, h with
  | 0, _ => decide
  | 1, _ => decide
  | 2, _ => decide
  | 3, _ => decide
  | 4, _ => decide
theorem bE_3 : ∀ d : Nat, 3 ≤ bE d
  | 0 => Nat.le_refl _
  | d + 1 => by
    have := bE_3 d
    show 3 ≤ 2 + 2 * bE d
    omega
theorem small_ex {bs : List Str} (bn : ∀ z ∈ bs, Nm z) {d : Nat} {e : Ex} (h : OkE bs d e) : smallD (exD e) = true ∧ sizeD (exD e) ≤ bE d := by
  induction h with
  | @num d n _ _ => exact ⟨by show (smallD (.str "number") && (true && true)) = true; rw [show smallD (.str "number") = true by decide +kernel]; rfl, bE_3 d⟩
  | @non d => exact ⟨by show (smallD (.str "none") && true) = true; rw [show smallD (.str "none") = true by decide +kernel]; rfl, Nat.le_trans (show 1 + (1 + 0) ≤ 3 by decide) (bE_3 d)⟩
  | @box d b hb => exact ⟨by show (smallD (.str "box") && (smallD (.str b) && true)) = true; rw [show smallD (.str "box") = true by decide +kernel, small_nm (bn b hb)]; rfl, bE_3 d⟩
  | @op d w a b hw _ _ i1 i2 =>
    have hw2 : ∀ z ∈ opW, smallD (.str z) = true := by decide +kernel
    refine ⟨?_, ?_⟩
    · show (smallD (.str w) && (smallD (exD a) && (smallD (exD b) && true))) = true
      rw [hw2 w hw, i1.1, i2.1]; rfl
    · show 1 + (1 + (sizeD (exD a) + (sizeD (exD b) + 0))) ≤ 2 + 2 * bE d
      have := i1.2
      have := i2.2
      omega
theorem small_exs {bs : List Str} (bn : ∀ z ∈ bs, Nm z) {q : Nat} (q4 : q ≤ 4) : ∀ {es : List Ex}, (∀ e ∈ es, OkE bs q e) → smallL (es.map exD) = true ∧ sizeL (es.map exD) ≤ 78 * es.length
  | [], _ => ⟨rfl, Nat.le_refl _⟩
  | e :: es, h => by
    obtain ⟨h1, h2⟩ := small_ex bn (h e List.mem_cons_self)
    obtain ⟨h3, h4⟩ := small_exs bn q4 fun x hx => h x (List.mem_cons_of_mem _ hx)
    have := bE_4 q4
    refine ⟨?_, ?_⟩
    · show (smallD (exD e) && smallL (es.map exD)) = true
      rw [h1, h3]; rfl
    · show sizeD (exD e) + sizeL (es.map exD) ≤ 78 * (es.length + 1)
      omega
theorem small_sms {x : List Sm} (h : ∀ s ∈ x, smallD (smD s) = true ∧ sizeD (smD s) ≤ 250 * cnt s) : smallL (smsD x) = true ∧ sizeL (smsD x) ≤ 250 * cnts x := by
  induction x with
  | nil => exact ⟨rfl, Nat.le_refl _⟩
  | cons s r ih =>
    obtain ⟨h1, h2⟩ := h s List.mem_cons_self
    obtain ⟨h3, h4⟩ := ih fun y hy => h y (List.mem_cons_of_mem _ hy)
    refine ⟨?_, ?_⟩
    · show (smallD (smD s) && smallL (smsD r)) = true
      rw [h1, h3]; rfl
    · show sizeD (smD s) + sizeL (smsD r) ≤ 250 * (cnt s + cnts r)
      omega
theorem small_sm {bs : List Str} {ms : List (Str × Nat)} {q d : Nat} {l : Bool} {s : Sm} (bn : ∀ z ∈ bs, Nm z) (mn : ∀ u ∈ ms, Nm u.1) (m3 : ∀ u ∈ ms, u.2 ≤ 3) (q4 : q ≤ 4) (h : OkS bs ms q d l s) : smallD (smD s) = true ∧ sizeD (smD s) ≤ 250 * cnt s := by
  have sx : ∀ {e : Ex}, OkE bs q e → smallD (exD e) = true ∧ sizeD (exD e) ≤ 78 := fun he => ⟨(small_ex bn he).1, Nat.le_trans (small_ex bn he).2 (bE_4 q4)⟩
  have sw : ∀ z ∈ (["set", "give", "all", "say", "return", "close", "throw", "break", "again", "make", "if", "while", "pull", "try", "ask", "toss"] : List Str), smallD (.str z) = true := by decide +kernel
  induction h with
  | @set3 d l w b e hw hb he =>
    obtain ⟨a1, a2⟩ := sx he
    have hw' : smallD (.str w) = true := sw w (by revert hw; revert w; decide +kernel)
    refine ⟨?_, ?_⟩
    · show (smallD (.str w) && (smallD (.str b) && (smallD (exD e) && true))) = true
      rw [hw', small_nm (bn b hb), a1]; rfl
    · show 1 + (1 + (1 + (sizeD (exD e) + 0))) ≤ 250 * 1
      omega
  | @one d l w e hw he =>
    obtain ⟨a1, a2⟩ := sx he
    have hw' : smallD (.str w) = true := sw w (by revert hw; revert w; decide +kernel)
    refine ⟨?_, ?_⟩
    · show (smallD (.str w) && (smallD (exD e) && true)) = true
      rw [hw', a1]; rfl
    · show 1 + (1 + (sizeD (exD e) + 0)) ≤ 250 * 1
      omega
  | @jump d w hw =>
    have hw' : smallD (.str w) = true := sw w (by revert hw; revert w; decide +kernel)
    refine ⟨?_, by show 1 + (1 + 0) ≤ 250 * 1; decide⟩
    show (smallD (.str w) && true) = true
    rw [hw']; rfl
  | @make d l b n es hb hn he =>
    obtain ⟨a1, a2⟩ := small_exs bn q4 he
    have := m3 _ hn
    refine ⟨?_, ?_⟩
    · show (smallD (.str "make") && (smallD (.str b) && (smallD (.str n) && (smallL (es.map exD) && true)))) = true
      rw [sw _ (by decide +kernel), small_nm (bn b hb), small_nm (mn _ hn), a1]; rfl
    · show 1 + (1 + (1 + (1 + ((1 + sizeL (es.map exD)) + 0)))) ≤ 250 * 1
      have h3 : es.length ≤ 3 := this
      omega
  | @ifs d l e x y he hx hy i1 i2 =>
    obtain ⟨a1, a2⟩ := sx he
    obtain ⟨b1, b2⟩ := small_sms i1
    obtain ⟨c1, c2⟩ := small_sms i2
    refine ⟨?_, ?_⟩
    · show (smallD (.str "if") && (smallD (exD e) && (smallL (smsD x) && (smallL (smsD y) && true)))) = true
      rw [sw _ (by decide +kernel), a1, b1, c1]; rfl
    · show 1 + (1 + (sizeD (exD e) + ((1 + sizeL (smsD x)) + ((1 + sizeL (smsD y)) + 0)))) ≤ 250 * (1 + cnts x + cnts y)
      omega
  | @whl d l e x he hx i1 =>
    obtain ⟨a1, a2⟩ := sx he
    obtain ⟨b1, b2⟩ := small_sms i1
    refine ⟨?_, ?_⟩
    · show (smallD (.str "while") && (smallD (exD e) && (smallL (smsD x) && true))) = true
      rw [sw _ (by decide +kernel), a1, b1]; rfl
    · show 1 + (1 + (sizeD (exD e) + ((1 + sizeL (smsD x)) + 0))) ≤ 250 * (1 + cnts x)
      omega
  | @pull d l b w e f x hb hw he hf hx i1 =>
    obtain ⟨a1, a2⟩ := sx he
    obtain ⟨f1, f2⟩ := sx hf
    obtain ⟨b1, b2⟩ := small_sms i1
    have hw' : smallD (.str w) = true := sw w (by revert hw; revert w; decide +kernel)
    refine ⟨?_, ?_⟩
    · show (smallD (.str "pull") && (smallD (.str b) && (smallD (.str w) && (smallD (exD e) && (smallD (exD f) && (smallL (smsD x) && true)))))) = true
      rw [sw _ (by decide +kernel), small_nm (bn b hb), hw', a1, f1, b1]; rfl
    · show 1 + (1 + (1 + (1 + (sizeD (exD e) + (sizeD (exD f) + ((1 + sizeL (smsD x)) + 0)))))) ≤ 250 * (1 + cnts x)
      omega
  | @fin d l x z hx hz hn i1 i2 =>
    obtain ⟨a1, a2⟩ := small_sms i1
    obtain ⟨b1, b2⟩ := small_sms i2
    refine ⟨?_, ?_⟩
    · show (smallD (.str "try") && (smallL (smsD x) && (true && (true && (smallL (smsD z) && true))))) = true
      rw [sw _ (by decide +kernel), a1, b1]; rfl
    · show 1 + (1 + ((1 + sizeL (smsD x)) + (1 + ((1 + 0) + ((1 + sizeL (smsD z)) + 0))))) ≤ 250 * (1 + cnts x + 0 + cnts z)
      omega
  | @tri d l x y z c hc hx hy hz i1 i2 i3 =>
    obtain ⟨a1, a2⟩ := small_sms i1
    obtain ⟨b1, b2⟩ := small_sms i2
    obtain ⟨c1, c2⟩ := small_sms i3
    refine ⟨?_, ?_⟩
    · show (smallD (.str "try") && (smallL (smsD x) && (smallD (.str c) && (smallL (smsD y) && (smallL (smsD z) && true))))) = true
      rw [sw _ (by decide +kernel), a1, small_nm (bn c hc), b1, c1]; rfl
    · show 1 + (1 + ((1 + sizeL (smsD x)) + (1 + ((1 + sizeL (smsD y)) + ((1 + sizeL (smsD z)) + 0))))) ≤ 250 * (1 + cnts x + cnts y + cnts z)
      omega
theorem fnS_fu {most q d L : Nat} {fs : List Fu} (h : OkB most q d L fs) (q4 : q ≤ 4) (L30 : L ≤ 70) {f : Fu} (hf : f ∈ fs) : FnS (fuF f) := by
  have ok := h.ok f hf
  obtain ⟨bs, _, _, bn, _, os⟩ := ok.bs
  have mn : ∀ u ∈ fs.map fuM, Nm u.1 := fun u hu => by
    obtain ⟨g, hg, rfl⟩ := List.mem_map.mp hu
    exact (h.ok g hg).n
  have m3 : ∀ u ∈ fs.map fuM, u.2 ≤ 3 := fun u hu => by
    obtain ⟨g, hg, rfl⟩ := List.mem_map.mp hu
    exact (h.ok g hg).p3
  obtain ⟨b1, b2⟩ := small_sms (x := f.b) fun s hs => small_sm bn mn m3 q4 (os s hs)
  have := ok.c
  refine ⟨small_nm ok.n, small_nms ok.pn, b1, ?_, ?_⟩
  · show 1 + sizeL (smsD f.b) ≤ 20000
    omega
  · show (f.ps.map PyData.str).length ≤ 1000
    rw [List.length_map]
    exact Nat.le_trans ok.p3 (by decide)
/-! the text of a tuple of names -/
theorem shown_strs (zs : List Str) : (PyData.tuple (zs.map PyData.str)).shown = tupleText (zs.map reprText) := by
  have e : ∀ l : List Str, PyData.shownAll (l.map PyData.str) = l.map reprText := by
    intro l
    induction l with
    | nil => rfl
    | cons z l ih => show reprText z :: PyData.shownAll (l.map PyData.str) = _; rw [ih]; rfl
  show tupleText (PyData.shownAll (zs.map PyData.str)) = _
  rw [e]
theorem cost_nms : ∀ {zs : List Str}, (∀ z ∈ zs, Nm z) → fmtCost zs ≤ 84 * zs.length
  | [], _ => Nat.le_refl _
  | z :: zs, h => by
    have h1 := (h z List.mem_cons_self).l8
    have h2 := cost_nms fun y hy => h y (List.mem_cons_of_mem _ hy)
    rw [fmtCost_cons, List.length_cons]
    omega
theorem shown_len {zs : List Str} (h : ∀ z ∈ zs, Nm z) : (PyData.tuple (zs.map PyData.str)).shown.length ≤ 84 * zs.length + 2 := by
  rw [shown_strs]
  have h1 := fmt_text (zs.map reprText)
  have h2 := fmt_piled zs fun y hy c hc => Nat.lt_trans ((h y hy).c128 c hc) (by decide)
  have h3 := cost_nms h
  omega
theorem showable_strs (zs : List Str) : (PyData.tuple (zs.map PyData.str)).showable = true := by
  show PyData.showableAll (zs.map PyData.str) = true
  induction zs with
  | nil => rfl
  | cons z zs ih => show (true && PyData.showableAll (zs.map PyData.str)) = true; rw [ih]; rfl
theorem depth_strs (zs : List Str) : (PyData.tuple (zs.map PyData.str)).depth ≤ 60 := by
  have e : ∀ l : List Str, PyData.depthAll (l.map PyData.str) = 0 := by
    intro l
    induction l with
    | nil => rfl
    | cons z l ih => show max 0 (PyData.depthAll (l.map PyData.str)) = 0; rw [ih]; rfl
  show PyData.depthAll (zs.map PyData.str) + 1 ≤ 60
  rw [e]; decide
theorem shaped_nms {zs : List Str} (h : ∀ z ∈ zs, Nm z) : SeqAt.shaped (.tuple (zs.map PyData.str)) = true := by
  have e := shaped_strs (l := zs) fun z hz => (h z hz).tx.lay
  exact e
theorem ded_mem {z : Str} : ∀ {zs acc : List Str}, z ∈ ded acc zs → z ∈ acc ∨ z ∈ zs
  | [], acc, h => .inl h
  | y :: zs, acc, h => by
    have h' : z ∈ ded (addS acc y) zs := h
    rcases ded_mem h' with m | m
    · unfold addS at m
      split at m
      · exact .inl m
      · rcases List.mem_append.mp m with m | m
        · exact .inl m
        · exact .inr (by rw [List.mem_singleton.mp m]; exact List.mem_cons_self)
    · exact .inr (List.mem_cons_of_mem _ m)
theorem ded_len : ∀ (zs acc : List Str), (ded acc zs).length ≤ acc.length + zs.length
  | [], acc => Nat.le_refl _
  | y :: zs, acc => by
    have h1 := ded_len zs (addS acc y)
    have h2 := addS_len acc y
    show (ded (addS acc y) zs).length ≤ acc.length + (zs.length + 1)
    omega
end LK
namespace LK
open PySem PySem.Spec PyProof.Rows L2 Evl
theorem bE_mem {bs : List Str} {d : Nat} {e : Ex} (h : OkE bs d e) : ∀ z ∈ boxesE e, z ∈ bs := by
  induction h with
  | num _ _ => exact fun z m => nomatch m
  | non => exact fun z m => nomatch m
  | box hb =>
    intro z m
    rw [List.mem_singleton.mp m]
    exact hb
  | op _ _ _ i1 i2 =>
    intro z m
    rcases List.mem_append.mp m with m | m
    · exact i1 z m
    · exact i2 z m
theorem bB_mem {bs : List Str} {x : List Sm} (h : ∀ s ∈ x, ∀ z ∈ boxesS s, z ∈ bs) : ∀ z ∈ boxesB x, z ∈ bs := by
  induction x with
  | nil => exact fun z m => nomatch m
  | cons s r ih =>
    intro z m
    rcases List.mem_append.mp m with m | m
    · exact h s List.mem_cons_self z m
    · exact ih (fun y hy => h y (List.mem_cons_of_mem _ hy)) z m
theorem bS_mem {bs : List Str} {ms : List (Str × Nat)} {q d : Nat} {l : Bool} {s : Sm} (h : OkS bs ms q d l s) : ∀ z ∈ boxesS s, z ∈ bs := by
  induction h with
  | set3 hw hb he =>
    intro z m
    rcases List.mem_cons.mp m with rfl | m
    · exact hb
    · exact bE_mem he z m
  | one hw he => exact bE_mem he
  | jump hw => exact fun z m => nomatch m
  | make hb hn he =>
    intro z m
    rcases List.mem_cons.mp m with rfl | m
    · exact hb
    · obtain ⟨l, hl, hz⟩ := List.mem_flatten.mp m
      obtain ⟨e, h1, rfl⟩ := List.mem_map.mp hl
      exact bE_mem (he e h1) z hz
  | ifs he hx hy i1 i2 =>
    intro z m
    rcases List.mem_append.mp m with m | m
    · rcases List.mem_append.mp m with m | m
      · exact bE_mem he z m
      · exact bB_mem i1 z m
    · exact bB_mem i2 z m
  | whl he hx i1 =>
    intro z m
    rcases List.mem_append.mp m with m | m
    · exact bE_mem he z m
    · exact bB_mem i1 z m
  | pull hb hw he hf hx i1 =>
    intro z m
    rcases List.mem_append.mp m with m | m
    · rcases List.mem_cons.mp m with rfl | m
      · exact hb
      · exact bE_mem he z m
    · rcases List.mem_append.mp m with m | m
      · exact bE_mem hf z m
      · exact bB_mem i1 z m
  | fin hx hz hn i1 i2 =>
    intro z m
    rcases List.mem_append.mp m with m | m
    · rcases List.mem_append.mp m with m | m
      · exact bB_mem i1 z m
      · cases m
    · rcases List.mem_append.mp m with m | m
      · cases m
      · exact bB_mem i2 z m
  | tri hc hx hy hz i1 i2 i3 =>
    intro z m
    rcases List.mem_append.mp m with m | m
    · rcases List.mem_append.mp m with m | m
      · exact bB_mem i1 z m
      · rw [show z = _ from List.mem_singleton.mp m]; exact hc
    · rcases List.mem_append.mp m with m | m
      · exact bB_mem i2 z m
      · exact bB_mem i3 z m
/-- the names that stand in a drawn function -/
theorem OkF.boxes {ms : List (Str × Nat)} {q d L : Nat} {f : Fu} (h : OkF ms q d L f) : ∀ z ∈ f.ps ++ boxesB f.b, Nm z := by
  obtain ⟨bs, _, _, bn, ⟨r, eb⟩, ok⟩ := h.bs
  intro z m
  rcases List.mem_append.mp m with m | m
  · exact h.pn z m
  · exact bn z (bB_mem (fun s hs => bS_mem (ok s hs)) z m)
theorem OkF.bx {ms : List (Str × Nat)} {q d L : Nat} {f : Fu} (h : OkF ms q d L f) : bxD "body" (bodyD f.b) = boxesB f.b := by
  obtain ⟨bs, _, _, bn, ⟨r, eb⟩, ok⟩ := h.bs
  exact bx_sms fun s hs => bx_sm (ok s hs)
end LK
set_option Elab.async false
set_option linter.all false
set_option maxRecDepth 100000
set_option maxHeartbeats 2000000
namespace LK
open PySem PySem.Spec PyProof.Rows L2 Evl
/-! ### texts put together -/
theorem ap_assoc (x y z : Str) : x ++ y ++ z = x ++ (y ++ z) := str_ext (by rw [app_list, app_list, app_list, app_list, List.append_assoc])
theorem nil_ap (x : Str) : ("" : Str) ++ x = x := str_ext (by rw [app_list]; rfl)
theorem emp_ap (x : Str) : Str.empty ++ x = x := nil_ap x
theorem ap_nil (x : Str) : x ++ ("" : Str) = x := str_ext (by rw [app_list, show ("" : Str).cps.toList = [] from rfl, List.append_nil])
def catS : List Str → Str
  | [] => ""
  | z :: r => z ++ catS r
theorem cat_app : ∀ a b : List Str, catS (a ++ b) = catS a ++ catS b
  | [], b => (nil_ap _).symm
  | z :: a, b => by show z ++ catS (a ++ b) = (z ++ catS a) ++ catS b; rw [cat_app a b, ap_assoc]
theorem cat_one (z : Str) : catS [z] = z := ap_nil z
theorem cat_list : ∀ zs : List Str, (catS zs).cps.toList = (zs.map fun z => z.cps.toList).flatten
  | [] => rfl
  | z :: zs => by
    show (z ++ catS zs).cps.toList = _
    rw [app_list, cat_list zs]; rfl
theorem join_cat (zs : List Str) : Txt.join "" zs = catS zs := str_ext (by rw [join_nil, cat_list])
theorem cat_len : ∀ zs : List Str, (catS zs).length = (zs.map (·.length)).sum
  | [] => rfl
  | z :: zs => by
    show (z ++ catS zs).length = z.length + (zs.map (·.length)).sum
    rw [app_len, cat_len zs]
/-- rows with their line ends -/
def nlS (rows : List Str) : Str := catS (rows.map (· ++ ("\n" : Str)))
theorem nl_app (a b : List Str) : nlS (a ++ b) = nlS a ++ nlS b := by
  unfold nlS
  rw [List.map_append, cat_app]
theorem nl_one (z : Str) : nlS [z] = z ++ ("\n" : Str) := cat_one _
theorem nl_nil : nlS [] = "" := rfl
theorem nl_cons (z : Str) (r : List Str) : nlS (z :: r) = z ++ ("\n" ++ nlS r) := by
  show (z ++ ("\n" : Str)) ++ nlS r = _
  rw [ap_assoc]
/-! ### expressions and statements as texts -/
def numS (n : Int) : Str := toString n
def sgK : List (Str × Str) := [("plus", "+"), ("less", "-"), ("times", "*"), ("under", "<"), ("same", "=")]
def sgS (w : Str) : Str := (sgK.lookup w).getD ""
def txE : Ex → Str
  | .num n => numS n
  | .non => "none"
  | .box b => b
  | .op w a b => "(" ++ txE a ++ " " ++ sgS w ++ " " ++ txE b ++ ")"
def thT : List Ex → Str
  | [] => ""
  | e :: es => " " ++ txE e ++ catS (es.map fun e => " , " ++ txE e)
def makeR (b n : Str) (es : List Ex) : Str := "make " ++ b ++ " " ++ n ++ thT es
def headR (w : Str) (x : List Sm) (r : List Str) : List Str := match x with
  | [] => []
  | _ :: _ => w :: r
def catR (c : Option Str) (r : List Str) : List Str := match c with
  | none => []
  | some c => ("catch " ++ c) :: r
def endR : List Str := ["end"]
mutual
def rowsS : Sm → List Str
  | .set3 w b e => [w ++ " " ++ b ++ " " ++ txE e]
  | .one w e => [w ++ " " ++ txE e]
  | .jump w => [w]
  | .make b n es => [makeR b n es]
  | .ifs e x y => ("if" ++ " " ++ txE e) :: (rowsB x ++ headR "else" y (rowsB y) ++ endR)
  | .whl e x => ("while" ++ " " ++ txE e) :: (rowsB x ++ endR)
  | .pull b w e f x => (w ++ " " ++ b ++ " " ++ (txE e ++ " , " ++ txE f)) :: (rowsB x ++ endR)
  | .tri x c y z => ("try" : Str) :: (rowsB x ++ catR c (rowsB y) ++ headR "finally" z (rowsB z) ++ endR)
def rowsB : List Sm → List Str
  | [] => []
  | s :: r => rowsS s ++ rowsB r
end
theorem rowsB_app (x y : List Sm) : rowsB (x ++ y) = rowsB x ++ rowsB y := by
  induction x with
  | nil => rfl
  | cons s x ih => show rowsS s ++ rowsB (x ++ y) = rowsS s ++ rowsB x ++ rowsB y; rw [ih, List.append_assoc]
theorem rowsB_snoc (x : List Sm) (s : Sm) : rowsB (x ++ [s]) = rowsB x ++ rowsS s := by
  rw [rowsB_app]
  show rowsB x ++ (rowsS s ++ []) = _
  rw [List.append_nil]
/-! ### the pieces of which a text is written -/
inductive Pc where
  | s (z : Str) | e (x : Ex) | st (x : Sm)
def pcD : Pc → PyData
  | .s z => .str z
  | .e x => exD x
  | .st x => smD x
def txP : Pc → Str
  | .s z => z
  | .e x => txE x
  | .st x => nlS (rowsS x)
def txPs (l : List Pc) : Str := catS (l.map txP)
theorem txPs_app (a b : List Pc) : txPs (a ++ b) = txPs a ++ txPs b := by
  unfold txPs
  rw [List.map_append, cat_app]
theorem txPs_st (x : List Sm) : txPs (x.map Pc.st) = nlS (rowsB x) := by
  induction x with
  | nil => rfl
  | cons s x ih =>
    show nlS (rowsS s) ++ txPs (x.map Pc.st) = nlS (rowsS s ++ rowsB x)
    rw [ih, nl_app]
def thP : Str → List Ex → List Pc
  | _, [] => []
  | sep, e :: es => .s sep :: .e e :: thP " , " es
def tailP (w : Str) (x : List Sm) : List Pc := match x with
  | [] => []
  | s :: r => .s (w ++ "\n") :: (s :: r).map Pc.st
def catchP (c : Option Str) (y : List Sm) : List Pc := match c with
  | none => []
  | some c => .s ("catch " ++ c ++ "\n") :: y.map Pc.st
def pcsE : Ex → List Pc
  | .num n => [.s (numS n)]
  | .non => [.s "none"]
  | .box b => [.s b]
  | .op w a b => [.s "(", .e a, .s (" " ++ sgS w ++ " "), .e b, .s ")"]
def pcsS : Sm → List Pc
  | .set3 w b e => [.s w, .s " ", .s b, .s " ", .e e, .s "\n"]
  | .one w e => [.s w, .s " ", .e e, .s "\n"]
  | .jump w => [.s w, .s "\n"]
  | .make b n es => .s ("make " ++ b ++ " " ++ n) :: (thP " " es ++ [.s "\n"])
  | .ifs e x y => [.s "if ", .e e, .s "\n"] ++ (x.map Pc.st ++ (tailP "else" y ++ [.s "end\n"]))
  | .whl e x => [.s "while ", .e e, .s "\n"] ++ (x.map Pc.st ++ [.s "end\n"])
  | .pull b w e f x => [.s (w ++ " " ++ b ++ " "), .e e, .s " , ", .e f, .s "\n"] ++ (x.map Pc.st ++ [.s "end\n"])
  | .tri x c y z => .s "try\n" :: (x.map Pc.st ++ (catchP c y ++ (tailP "finally" z ++ [.s "end\n"])))
def pcsP : Pc → List Pc
  | .s z => [.s z]
  | .e x => pcsE x
  | .st x => pcsS x
theorem txPs_cons (p : Pc) (l : List Pc) : txPs (p :: l) = txP p ++ txPs l := rfl
theorem txPs_nil : txPs [] = "" := rfl
theorem pcs_ex (x : Ex) : txPs (pcsE x) = txE x := by
  cases x with
  | num n => simp only [pcsE, txPs_cons, txPs_nil, txP, txE, ap_nil]
  | non => simp only [pcsE, txPs_cons, txPs_nil, txP, txE, ap_nil]
  | box b => simp only [pcsE, txPs_cons, txPs_nil, txP, txE, ap_nil]
  | op w a b => simp only [pcsE, txPs_cons, txPs_nil, txP, txE, ap_nil, ap_assoc]
theorem txPs_thC (es : List Ex) : txPs (thP " , " es) = catS (es.map fun e => " , " ++ txE e) := by
  induction es with
  | nil => rfl
  | cons e es ih => simp only [thP, txPs_cons, txP, List.map_cons, catS, ih, ap_assoc]
theorem txPs_th (es : List Ex) : txPs (thP " " es) = thT es := by
  cases es with
  | nil => rfl
  | cons e es => simp only [thP, thT, txPs_cons, txP, txPs_thC, ap_assoc]
theorem txPs_tail (w : Str) (x : List Sm) : txPs (tailP w x) = nlS (headR w x (rowsB x)) := by
  cases x with
  | nil => rfl
  | cons s r => simp only [tailP, headR, txPs_cons, txP, txPs_st, nl_cons, ap_assoc]
theorem txPs_catch (c : Option Str) (y : List Sm) : txPs (catchP c y) = nlS (catR c (rowsB y)) := by
  cases c with
  | none => rfl
  | some c => simp only [catchP, catR, txPs_cons, txP, txPs_st, nl_cons, ap_assoc]
theorem end_nl : ("end" : Str) ++ "\n" = "end\n" := by decide +kernel
theorem if_sp : ("if" : Str) ++ " " = "if " := by decide +kernel
theorem while_sp : ("while" : Str) ++ " " = "while " := by decide +kernel
theorem try_nl : ("try\n" : Str) = "try" ++ "\n" := by decide +kernel
theorem end_r : nlS endR = "end\n" := (nl_one "end").trans end_nl
theorem pcs_sm (x : Sm) : txPs (pcsS x) = nlS (rowsS x) := by
  cases x with
  | set3 w b e => simp only [pcsS, rowsS, txPs_cons, txPs_nil, txP, nl_one, ap_assoc, ap_nil]
  | one w e => simp only [pcsS, rowsS, txPs_cons, txPs_nil, txP, nl_one, ap_assoc, ap_nil]
  | jump w => simp only [pcsS, rowsS, txPs_cons, txPs_nil, txP, nl_one, ap_assoc, ap_nil]
  | make b n es => simp only [pcsS, rowsS, makeR, txPs_cons, txPs_nil, txP, nl_one, ap_assoc, ap_nil, txPs_app, txPs_th]
  | ifs e x y => simp only [pcsS, rowsS, List.cons_append, List.nil_append, txPs_cons, txPs_app, txPs_st, txPs_tail, end_r, txPs_nil, ap_nil, txP, nl_cons, nl_app, if_sp, ap_assoc]
  | whl e x => simp only [pcsS, rowsS, List.cons_append, List.nil_append, txPs_cons, txPs_app, txPs_st, end_r, txPs_nil, ap_nil, txP, nl_cons, nl_app, while_sp, ap_assoc]
  | pull b w e f x => simp only [pcsS, rowsS, List.cons_append, List.nil_append, txPs_cons, txPs_app, txPs_st, end_r, txPs_nil, ap_nil, txP, nl_cons, nl_app, ap_assoc]
  | tri x c y z => simp only [pcsS, rowsS, txPs_cons, txPs_app, txPs_st, txPs_tail, txPs_catch, end_r, txPs_nil, ap_nil, txP, nl_cons, nl_app, try_nl, ap_assoc]
theorem pcs_tx (p : Pc) : txPs (pcsP p) = txP p := by
  cases p with
  | s z => exact ap_nil _
  | e x => exact pcs_ex x
  | st x => exact pcs_sm x
/-! what is still to be written, counted -/
def wE : Ex → Nat
  | .op _ a b => 4 + wE a + wE b
  | _ => 2
mutual
def wS : Sm → Nat
  | .set3 _ _ e => 6 + wE e
  | .one _ e => 4 + wE e
  | .jump _ => 3
  | .make _ _ es => 3 + (es.map fun e => 1 + wE e).sum
  | .ifs e x y => 6 + wE e + wB x + wB y
  | .whl e x => 5 + wE e + wB x
  | .pull _ _ e f x => 5 + wE e + wE f + wB x
  | .tri x _ y z => 5 + wB x + wB y + wB z
def wB : List Sm → Nat
  | [] => 0
  | s :: r => wS s + wB r
end
def wP : Pc → Nat
  | .s _ => 1
  | .e x => wE x
  | .st x => wS x
def wPs (l : List Pc) : Nat := (l.map wP).sum
theorem wPs_app (a b : List Pc) : wPs (a ++ b) = wPs a + wPs b := by
  unfold wPs
  rw [List.map_append, List.sum_append]
theorem wPs_cons (p : Pc) (l : List Pc) : wPs (p :: l) = wP p + wPs l := rfl
theorem wPs_nil : wPs [] = 0 := rfl
theorem wPs_st (x : List Sm) : wPs (x.map Pc.st) = wB x := by
  induction x with
  | nil => rfl
  | cons s x ih => show wS s + wPs (x.map Pc.st) = wS s + wB x; rw [ih]
theorem wPs_th (sep : Str) (es : List Ex) : wPs (thP sep es) = (es.map fun e => 1 + wE e).sum := by
  induction es generalizing sep with
  | nil => rfl
  | cons e es ih =>
    show 1 + (wE e + wPs (thP " , " es)) = (1 + wE e) + (es.map fun e => 1 + wE e).sum
    rw [ih]; omega
theorem wPs_tail (w : Str) (x : List Sm) : wPs (tailP w x) ≤ 1 + wB x := by
  cases x with
  | nil => exact Nat.zero_le _
  | cons s r =>
    show 1 + wPs ((s :: r).map Pc.st) ≤ _
    rw [wPs_st]; exact Nat.le_refl _
theorem wPs_catch (c : Option Str) (y : List Sm) : wPs (catchP c y) ≤ 1 + wB y := by
  cases c with
  | none => exact Nat.zero_le _
  | some c =>
    show 1 + wPs (y.map Pc.st) ≤ _
    rw [wPs_st]; exact Nat.le_refl _
theorem pcs_lessE (x : Ex) : wPs (pcsE x) < wE x := by
  cases x with
  | num n => simp only [pcsE, wPs_cons, wPs_nil, wP, wE]; omega
  | non => simp only [pcsE, wPs_cons, wPs_nil, wP, wE]; omega
  | box b => simp only [pcsE, wPs_cons, wPs_nil, wP, wE]; omega
  | op w a b => simp only [pcsE, wPs_cons, wPs_nil, wP, wE]; omega
theorem pcs_lessS (x : Sm) : wPs (pcsS x) < wS x := by
  cases x with
  | set3 w b e => simp only [pcsS, wPs_cons, wPs_nil, wP, wS]; omega
  | one w e => simp only [pcsS, wPs_cons, wPs_nil, wP, wS]; omega
  | jump w => simp only [pcsS, wPs_cons, wPs_nil, wP, wS]; omega
  | make b n es => simp only [pcsS, wPs_cons, wPs_nil, wP, wS, wPs_app, wPs_th]; omega
  | ifs e x y =>
    have := wPs_tail "else" y
    simp only [pcsS, List.cons_append, List.nil_append, wPs_cons, wPs_nil, wP, wS, wPs_app, wPs_st]; omega
  | whl e x => simp only [pcsS, List.cons_append, List.nil_append, wPs_cons, wPs_nil, wP, wS, wPs_app, wPs_st]; omega
  | pull b w e f x => simp only [pcsS, List.cons_append, List.nil_append, wPs_cons, wPs_nil, wP, wS, wPs_app, wPs_st]; omega
  | tri x c y z =>
    have h1 := wPs_tail "finally" z
    have h2 := wPs_catch c y
    simp only [pcsS, wPs_cons, wPs_nil, wP, wS, wPs_app, wPs_st]; omega
end LK
set_option Elab.async false
set_option linter.all false
set_option maxRecDepth 100000
set_option maxHeartbeats 2000000
namespace LK
open PySem PySem.Spec PyProof.Rows L2 Evl
/-! ### signs at the end; strip -/
def Ends (z : Str) : Prop := ∃ c, z.cps.toList.getLast? = some c ∧ Unicode.isSpace c = false
theorem ends_app {x y : Str} (h : Ends y) : Ends (x ++ y) := by
  obtain ⟨c, h1, h2⟩ := h
  refine ⟨c, ?_, h2⟩
  rw [app_list, List.getLast?_append, h1]; rfl
theorem ends_of {z : Str} (n : z.cps.toList ≠ []) (h : ∀ c ∈ z.cps.toList, Unicode.isSpace c = false) : Ends z := by
  refine ⟨z.cps.toList.getLast n, List.getLast?_eq_some_getLast n, h _ (List.getLast_mem n)⟩
theorem lo_space {c : Nat} (h : lo c = true) : Unicode.isSpace c = false := by
  have := of_decide_eq_true h
  exact PySem.W.KXs.no_space c (by omega) (by omega)
theorem ends_nm {z : Str} (h : Nm z) : Ends z := by
  refine ends_of (fun e => ?_) fun c hc => lo_space (h.lo c hc)
  have h1 := h.l1
  have : z.cps.toList.length = 0 := by rw [e]; rfl
  have h2 : 1 ≤ z.cps.toList.length := h1
  omega
theorem ends_num {n : Int} (h0 : 0 ≤ n) : Ends (numS n) := by
  obtain ⟨m, rfl⟩ := Int.eq_ofNat_of_zero_le h0
  have e : (numS ((m : Nat) : Int)).cps.toList = (Nat.toDigits 10 m).map Char.toNat := PySem.W.KIN.signs_num m
  refine ends_of (fun z => ?_) fun c hc => ?_
  · rw [e] at z
    have := List.map_eq_nil_iff.mp z
    exact absurd this Nat.toDigits_ne_nil
  · rw [e] at hc
    obtain ⟨ch, hch, rfl⟩ := List.mem_map.mp hc
    have r := PyProof.Rows.digit_range (Nat.isDigit_of_mem_toDigits (by decide) (by decide) hch)
    exact PySem.W.KXs.no_space _ (by omega) (by omega)
theorem ends_ex {bs : List Str} (bn : ∀ z ∈ bs, Nm z) {d : Nat} {e : Ex} (h : OkE bs d e) : Ends (txE e) := by
  cases h with
  | num h0 h1 => exact ends_num h0
  | non => exact ⟨101, by decide +kernel, by decide +kernel⟩
  | box hb => exact ends_nm (bn _ hb)
  | op hw ha hb => exact ends_app ⟨41, by decide +kernel, by decide +kernel⟩
theorem rev_space {xs ts : List Nat} {c : Nat} (h1 : xs.getLast? = some c) (h2 : Unicode.isSpace c = false) (h3 : ∀ c ∈ ts, Unicode.isSpace c = true) : ((xs ++ ts).reverse.takeWhile Unicode.isSpace).length = ts.length := by
  have e : xs.reverse.head? = some c := by rw [List.head?_reverse]; exact h1
  have h4 : (xs ++ ts).reverse.takeWhile Unicode.isSpace = ts.reverse := by
    rw [List.reverse_append, List.takeWhile_append_of_pos (fun c hc => h3 c (List.mem_reverse.mp hc))]
    cases hx : xs.reverse with
    | nil => simp
    | cons b l =>
      rw [hx] at e
      obtain rfl : b = c := Option.some.inj e
      simp [List.takeWhile_cons, h2]
  rw [h4, List.length_reverse]
theorem strip_tail {a t : Str} {c0 : Nat} (f : a.cps.toList.head? = some c0) (f0 : Unicode.isSpace c0 = false) (l : Ends a) (ts : ∀ c ∈ t.cps.toList, Unicode.isSpace c = true) : Txt.strip (a ++ t) = a := by
  obtain ⟨c, h1, h2⟩ := l
  have la : (a ++ t).length = a.length + t.length := app_len a t
  have lt : t.cps.toList.length = t.length := rfl
  have lo : stripLo Unicode.isSpace true (a ++ t) = 0 := by
    simp only [stripLo, if_true]
    rw [app_list]
    cases hx : a.cps.toList with
    | nil => rw [hx] at f; cases f
    | cons b r =>
      rw [hx] at f
      obtain rfl : b = c0 := Option.some.inj f
      simp [List.takeWhile_cons, f0]
  have hi : stripHi Unicode.isSpace true (a ++ t) 0 = a.length := by
    simp only [stripHi, if_true, List.drop_zero]
    rw [app_list, rev_space h1 h2 ts, la, lt]
    omega
  unfold Txt.strip Txt.stripBy
  split
  · rename_i hs
    unfold stripSame at hs
    rw [lo, hi] at hs
    have e := eq_of_beq (Bool.and_eq_true_iff.mp hs).2
    have z : t.cps.toList = [] := List.length_eq_zero_iff.mp (by rw [lt]; omega)
    exact str_ext (by rw [app_list, z, List.append_nil])
  · unfold stripped
    rw [lo, hi]
    refine str_ext ?_
    show ((a ++ t).cps.extract 0 a.length).toList = a.cps.toList
    rw [Array.toList_extract, app_list]
    show ((a.cps.toList ++ t.cps.toList).drop 0).take (a.length - 0) = _
    rw [List.drop_zero, Nat.sub_zero, show a.length = a.cps.toList.length from rfl, List.take_left]
theorem join_sep (sep z : Str) : ∀ zs : List Str, Txt.join sep (z :: zs) = z ++ catS (zs.map fun y => sep ++ y)
  | [] => by rw [TL.join_eq]; exact (ap_nil z).symm
  | y :: zs => by
    have ih := join_sep sep y zs
    rw [TL.join_eq] at ih
    rw [TL.join_eq]
    show z ++ sep ++ Str.join sep (y :: zs) = z ++ ((sep ++ y) ++ catS (zs.map fun y => sep ++ y))
    rw [ih]
    simp only [ap_assoc]
theorem strip_make {b n : Str} {es : List Ex} {bs : List Str} {q : Nat} (bn : ∀ z ∈ bs, Nm z) (hn : Nm n) (he : ∀ e ∈ es, OkE bs q e) :
    Txt.strip ("make" ++ " " ++ b ++ " " ++ n ++ " " ++ Txt.join " , " (es.map txE)) = makeR b n es := by
  have f0 : Unicode.isSpace 109 = false := by decide +kernel
  have mk : ("make" : Str) ++ " " = "make " := by decide +kernel
  have hd : ∀ r : Str, (("make " : Str) ++ r).cps.toList.head? = some 109 := fun r => by
    rw [app_list, show ("make " : Str).cps.toList = [109, 97, 107, 101, 32] by decide +kernel]; rfl
  cases es with
  | nil =>
    have e : Txt.join " , " (([] : List Ex).map txE) = "" := by rw [TL.join_eq]; rfl
    rw [e, ap_nil]
    have h : makeR b n [] = "make" ++ " " ++ b ++ " " ++ n := by
      show "make " ++ b ++ " " ++ n ++ ("" : Str) = _
      rw [ap_nil, mk]
    rw [h]
    refine strip_tail (c0 := 109) (by rw [mk]; simp only [ap_assoc]; exact hd _) f0 (ends_app (ends_nm hn)) (by decide +kernel)
  | cons e es =>
    have e2 : "make" ++ " " ++ b ++ " " ++ n ++ " " ++ Txt.join " , " ((e :: es).map txE) = makeR b n (e :: es) := by
      rw [List.map_cons, join_sep, mk]
      show _ = "make " ++ b ++ " " ++ n ++ (" " ++ txE e ++ catS (es.map fun e => " , " ++ txE e))
      rw [List.map_map]
      simp only [ap_assoc]
      rfl
    rw [e2]
    have s := strip_tail (a := makeR b n (e :: es)) (t := "") (c0 := 109) (by
      show ("make " ++ b ++ " " ++ n ++ thT (e :: es)).cps.toList.head? = _
      simp only [ap_assoc]; exact hd _) f0 (by
      refine ends_app ?_
      show Ends (" " ++ txE e ++ catS (es.map fun e => " , " ++ txE e))
      have ce : ∀ (a : Str) (l : List Ex), Ends a → (∀ e ∈ l, OkE bs q e) → Ends (a ++ catS (l.map fun e => " , " ++ txE e)) := by
        intro a l
        induction l generalizing a with
        | nil => intro ha _; show Ends (a ++ ""); rw [ap_nil]; exact ha
        | cons x l ih =>
          intro ha hl
          have h := ih (a ++ (" , " ++ txE x)) (ends_app (ends_app (ends_ex bn (hl x List.mem_cons_self)))) fun y hy => hl y (List.mem_cons_of_mem _ hy)
          show Ends (a ++ ((" , " ++ txE x) ++ catS (l.map fun e => " , " ++ txE e)))
          rw [← ap_assoc]
          exact h
      exact ce _ es (ends_app (ends_ex bn (he e List.mem_cons_self))) fun y hy => he y (List.mem_cons_of_mem _ hy)) (fun c hc => nomatch hc)
    rw [ap_nil] at s
    exact s
/-! ### how long -/
theorem num_len {n : Int} (h0 : 0 ≤ n) (h1 : n < 1000003) : (numS n).length ≤ 10 := PySem.W.KT.len_num h0 (by omega)
def lE : Nat → Nat
  | 0 => 10
  | d + 1 => 5 + 2 * lE d
theorem lE_10 : ∀ d, 10 ≤ lE d
  | 0 => Nat.le_refl _
  | d + 1 => by have := lE_10 d; show 10 ≤ 5 + 2 * lE d; omega
theorem lE_4 {q : Nat} (h : q ≤ 4) : lE q ≤ 235 := by
  match q, h with
  | 0, _ => decide
  | 1, _ => decide
  | 2, _ => decide
  | 3, _ => decide
  | 4, _ => decide
theorem sg_len : ∀ w ∈ opW, (sgS w).length = 1 := by decide +kernel
theorem txE_len {bs : List Str} (bn : ∀ z ∈ bs, Nm z) {d : Nat} {e : Ex} (h : OkE bs d e) : (txE e).length ≤ lE d := by
  induction h with
  | @num d n h0 h1 => exact Nat.le_trans (num_len h0 h1) (lE_10 d)
  | @non d => exact Nat.le_trans (show ("none" : Str).length ≤ 10 by decide +kernel) (lE_10 d)
  | @box d b hb => exact Nat.le_trans (bn b hb).l8 (Nat.le_trans (by decide) (lE_10 d))
  | @op d w a b hw _ _ i1 i2 =>
    show ("(" ++ txE a ++ " " ++ sgS w ++ " " ++ txE b ++ ")" : Str).length ≤ 5 + 2 * lE d
    simp only [app_len]
    rw [sg_len w hw, show ("(" : Str).length = 1 by decide +kernel, show (" " : Str).length = 1 by decide +kernel, show (")" : Str).length = 1 by decide +kernel]
    omega
theorem txE_235 {bs : List Str} (bn : ∀ z ∈ bs, Nm z) {q : Nat} (q4 : q ≤ 4) {e : Ex} (h : OkE bs q e) : (txE e).length ≤ 235 := Nat.le_trans (txE_len bn h) (lE_4 q4)
theorem cat_le {k : Nat} : ∀ {zs : List Str}, (∀ z ∈ zs, z.length ≤ k) → (catS zs).length ≤ k * zs.length
  | [], _ => Nat.zero_le _
  | z :: zs, h => by
    have h1 := h z List.mem_cons_self
    have h2 := cat_le fun y hy => h y (List.mem_cons_of_mem _ hy)
    show (z ++ catS zs).length ≤ k * (zs.length + 1)
    rw [app_len, Nat.mul_add, Nat.mul_one]; omega
theorem nl_len (z : Str) (r : List Str) : (nlS (z :: r)).length = z.length + 1 + (nlS r).length := by
  rw [nl_cons, app_len, app_len, show ("\n" : Str).length = 1 by decide +kernel]; omega
theorem nl_app_len (a b : List Str) : (nlS (a ++ b)).length = (nlS a).length + (nlS b).length := by rw [nl_app, app_len]
theorem nl_rows : ∀ r : List Str, r.length ≤ (nlS r).length
  | [] => Nat.zero_le _
  | z :: r => by
    have := nl_rows r
    rw [nl_len, List.length_cons]; omega
theorem nl_head (w : Str) (x : List Sm) (r : List Str) : (nlS (headR w x r)).length ≤ w.length + 1 + (nlS r).length := by
  cases x with
  | nil => exact Nat.zero_le _
  | cons s x => show (nlS (w :: r)).length ≤ _; rw [nl_len]; exact Nat.le_refl _
theorem rows_small {x : List Sm} (h : ∀ s ∈ x, (nlS (rowsS s)).length ≤ 1000 * cnt s) : (nlS (rowsB x)).length ≤ 1000 * cnts x := by
  induction x with
  | nil => exact Nat.zero_le _
  | cons s r ih =>
    have h1 := h s List.mem_cons_self
    have h2 := ih fun y hy => h y (List.mem_cons_of_mem _ hy)
    show (nlS (rowsS s ++ rowsB r)).length ≤ 1000 * (cnt s + cnts r)
    rw [nl_app_len]; omega
theorem th_len {bs : List Str} (bn : ∀ z ∈ bs, Nm z) {q : Nat} (q4 : q ≤ 4) {es : List Ex} (he : ∀ e ∈ es, OkE bs q e) : (thT es).length ≤ 238 * es.length := by
  cases es with
  | nil => exact Nat.zero_le _
  | cons e es =>
    have h1 := txE_235 bn q4 (he e List.mem_cons_self)
    have h2 : (catS (es.map fun e => " , " ++ txE e)).length ≤ 238 * (es.map fun e => " , " ++ txE e).length := cat_le fun z hz => by
      obtain ⟨y, hy, rfl⟩ := List.mem_map.mp hz
      have := txE_235 bn q4 (he y (List.mem_cons_of_mem _ hy))
      rw [app_len, show (" , " : Str).length = 3 by decide +kernel]; omega
    show (" " ++ txE e ++ catS (es.map fun e => " , " ++ txE e)).length ≤ _
    rw [List.length_map] at h2
    rw [app_len, app_len, show (" " : Str).length = 1 by decide +kernel, List.length_cons]; omega
theorem w_len {l : List Str} (h : ∀ z ∈ l, z.length ≤ 8) {w : Str} (hw : w ∈ l) : w.length ≤ 8 := h w hw
theorem rows_sm {bs : List Str} {ms : List (Str × Nat)} {q d : Nat} {l : Bool} {s : Sm} (bn : ∀ z ∈ bs, Nm z) (mn : ∀ u ∈ ms, Nm u.1) (m3 : ∀ u ∈ ms, u.2 ≤ 3) (q4 : q ≤ 4) (h : OkS bs ms q d l s) : (nlS (rowsS s)).length ≤ 1000 * cnt s := by
  have sx : ∀ {e : Ex}, OkE bs q e → (txE e).length ≤ 235 := fun he => txE_235 bn q4 he
  have l1 : (" " : Str).length = 1 := by decide +kernel
  have lend : (nlS endR).length = 4 := by decide +kernel
  have l3 : (" , " : Str).length = 3 := by decide +kernel
  have nlz : (nlS []).length = 0 := rfl
  induction h with
  | @set3 d l w b e hw hb he =>
    have h1 := sx he
    have h2 := w_len (l := ["set", "give", "all"]) (by decide +kernel) hw
    have h3 := (bn b hb).l8
    simp only [rowsS, cnt, nl_len, nlz, app_len, l1]; omega
  | @one d l w e hw he =>
    have h1 := sx he
    have h2 := w_len (l := ["say", "return", "close", "throw"]) (by decide +kernel) hw
    simp only [rowsS, cnt, nl_len, nlz, app_len, l1]; omega
  | @jump d w hw =>
    have h2 := w_len (l := ["break", "again"]) (by decide +kernel) hw
    simp only [rowsS, cnt, nl_len, nlz]; omega
  | @make d l b n es hb hn he =>
    have h1 := th_len bn q4 he
    have h2 : es.length ≤ 3 := m3 _ hn
    have h3 := (bn b hb).l8
    have h4 : n.length ≤ 8 := (mn _ hn).l8
    simp only [rowsS, cnt, makeR, nl_len, nlz, app_len, l1]
    rw [show ("make " : Str).length = 5 by decide +kernel]; omega
  | @ifs d l e x y he hx hy i1 i2 =>
    have h1 := sx he
    have h2 := rows_small i1
    have h3 := rows_small i2
    have h4 := nl_head "else" y (rowsB y)
    rw [show ("else" : Str).length = 4 by decide +kernel] at h4
    simp only [rowsS, cnt, nl_len, nl_app_len, app_len, l1, lend]
    rw [show ("if" : Str).length = 2 by decide +kernel]; omega
  | @whl d l e x he hx i1 =>
    have h1 := sx he
    have h2 := rows_small i1
    simp only [rowsS, cnt, nl_len, nl_app_len, app_len, l1, lend]
    rw [show ("while" : Str).length = 5 by decide +kernel]; omega
  | @pull d l b w e f x hb hw he hf hx i1 =>
    have h1 := sx he
    have h2 := sx hf
    have h3 := rows_small i1
    have h4 := w_len (l := ["ask", "toss"]) (by decide +kernel) hw
    have h5 := (bn b hb).l8
    simp only [rowsS, cnt, nl_len, nl_app_len, app_len, l1, l3, lend]; omega
  | @fin d l x z hx hz hn i1 i2 =>
    have h1 := rows_small i1
    have h2 := rows_small i2
    have h4 := nl_head "finally" z (rowsB z)
    rw [show ("finally" : Str).length = 7 by decide +kernel] at h4
    simp only [rowsS, cnt, catR, nl_len, nl_app_len, nlz, lend]
    rw [show ("try" : Str).length = 3 by decide +kernel]; omega
  | @tri d l x y z c hc hx hy hz i1 i2 i3 =>
    have h1 := rows_small i1
    have h2 := rows_small i2
    have h3 := rows_small i3
    have h4 := nl_head "finally" z (rowsB z)
    have h5 := (bn c hc).l8
    rw [show ("finally" : Str).length = 7 by decide +kernel] at h4
    simp only [rowsS, cnt, catR, nl_len, nl_app_len, app_len, lend]
    rw [show ("try" : Str).length = 3 by decide +kernel, show ("catch " : Str).length = 6 by decide +kernel]; omega
def wq : Nat → Nat
  | 0 => 2
  | d + 1 => 4 + 2 * wq d
theorem wq_2 : ∀ d, 2 ≤ wq d
  | 0 => Nat.le_refl _
  | d + 1 => by have := wq_2 d; show 2 ≤ 4 + 2 * wq d; omega
theorem wq_4 {q : Nat} (h : q ≤ 4) : wq q ≤ 92 := by
  match q, h with
  | 0, _ => decide
  | 1, _ => decide
  | 2, _ => decide
  | 3, _ => decide
  | 4, _ => decide
theorem wE_le {bs : List Str} {d : Nat} {e : Ex} (h : OkE bs d e) : wE e ≤ wq d := by
  induction h with
  | @num d n h0 h1 => exact wq_2 d
  | @non d => exact wq_2 d
  | @box d b hb => exact wq_2 d
  | @op d w a b hw _ _ i1 i2 => show 4 + wE a + wE b ≤ 4 + 2 * wq d; omega
theorem wB_small {x : List Sm} (h : ∀ s ∈ x, wS s ≤ 600 * cnt s) : wB x ≤ 600 * cnts x := by
  induction x with
  | nil => exact Nat.zero_le _
  | cons s r ih =>
    have h1 := h s List.mem_cons_self
    have h2 := ih fun y hy => h y (List.mem_cons_of_mem _ hy)
    show wS s + wB r ≤ 600 * (cnt s + cnts r)
    omega
theorem wS_le {bs : List Str} {ms : List (Str × Nat)} {q d : Nat} {l : Bool} {s : Sm} (m3 : ∀ u ∈ ms, u.2 ≤ 3) (q4 : q ≤ 4) (h : OkS bs ms q d l s) : wS s ≤ 600 * cnt s := by
  have sx : ∀ {e : Ex}, OkE bs q e → wE e ≤ 92 := fun he => Nat.le_trans (wE_le he) (wq_4 q4)
  induction h with
  | @set3 d l w b e hw hb he => have := sx he; simp only [wS, cnt]; omega
  | @one d l w e hw he => have := sx he; simp only [wS, cnt]; omega
  | @jump d w hw => simp only [wS, cnt]; omega
  | @make d l b n es hb hn he =>
    have h2 : es.length ≤ 3 := m3 _ hn
    have h1 : ∀ {es : List Ex}, (∀ e ∈ es, OkE bs q e) → (es.map fun e => 1 + wE e).sum ≤ 93 * es.length := by
      intro es
      induction es with
      | nil => intro _; exact Nat.zero_le _
      | cons e es ih =>
        intro h
        have a := sx (h e List.mem_cons_self)
        have b := ih fun y hy => h y (List.mem_cons_of_mem _ hy)
        rw [List.map_cons, List.sum_cons, List.length_cons]; omega
    have h3 := h1 he
    simp only [wS, cnt]; omega
  | @ifs d l e x y he hx hy i1 i2 => have := sx he; have := wB_small i1; have := wB_small i2; simp only [wS, cnt]; omega
  | @whl d l e x he hx i1 => have := sx he; have := wB_small i1; simp only [wS, cnt]; omega
  | @pull d l b w e f x hb hw he hf hx i1 => have := sx he; have := sx hf; have := wB_small i1; simp only [wS, cnt]; omega
  | @fin d l x z hx hz hn i1 i2 => have := wB_small i1; have := wB_small i2; simp only [wS, wB, cnt]; omega
  | @tri d l x y z c hc hx hy hz i1 i2 i3 => have := wB_small i1; have := wB_small i2; have := wB_small i3; simp only [wS, cnt]; omega
end LK
set_option Elab.async false
set_option linter.all false
set_option maxRecDepth 100000
set_option maxHeartbeats 2000000
namespace LK
open PySem PySem.Spec PyProof.Rows L2 Evl
/-! ### how long what repr tells of drawn functions is -/
def Tin (d : PyData) (n : Nat) : Prop := d.showable = true ∧ d.shown.length + 2 ≤ 92 * n
def Tins (l : List PyData) (n : Nat) : Prop := PyData.showableAll l = true ∧ piled (PyData.shownAll l) ≤ 92 * n
theorem Tin.mono {d : PyData} {n m : Nat} (h : Tin d n) (e : n ≤ m) : Tin d m := ⟨h.1, by have := h.2; omega⟩
theorem Tins.mono {d : List PyData} {n m : Nat} (h : Tins d n) (e : n ≤ m) : Tins d m := ⟨h.1, by have := h.2; omega⟩
theorem Tins.nil : Tins [] 0 := ⟨rfl, Nat.le_refl _⟩
theorem Tins.cons {d : PyData} {l : List PyData} {n m : Nat} (h : Tin d n) (r : Tins l m) : Tins (d :: l) (n + m) := by
  refine ⟨?_, ?_⟩
  · show (d.showable && PyData.showableAll l) = true
    rw [h.1, r.1]; rfl
  · show piled (d.shown :: PyData.shownAll l) ≤ _
    have h2 := h.2
    have r2 := r.2
    rw [piled_cons]; omega
theorem Tin.tup {l : List PyData} {n : Nat} (h : Tins l n) : Tin (.tuple l) (n + 1) := by
  refine ⟨h.1, ?_⟩
  have h1 := fmt_text (PyData.shownAll l)
  have h2 := h.2
  show (tupleText (PyData.shownAll l)).length + 2 ≤ _
  omega
theorem from_len : ∀ (ts : List Str) (k : Nat) (acc : Str), (textFrom k acc ts).length ≤ acc.length + piled ts
  | [], k, acc => Nat.le_refl _
  | t :: r, k, acc => by
    have h := from_len r (k + 1) (acc ++ (if k > 0 then ", " else "" : String) ++ t)
    have e : (acc ++ (if k > 0 then ", " else "" : String) ++ t).length ≤ acc.length + 2 + t.length := by
      rw [app_len, app_len]
      have : ((if k > 0 then ", " else "" : String) : Str).length ≤ 2 := by split <;> decide +kernel
      omega
    rw [piled_cons]
    show (textFrom (k + 1) (acc ++ (if k > 0 then ", " else "" : String) ++ t) r).length ≤ _
    omega
theorem Tin.lst {l : List PyData} {n : Nat} (h : Tins l n) : Tin (.list l) (n + 1) := by
  refine ⟨h.1, ?_⟩
  have h1 := from_len (PyData.shownAll l) 0 "["
  have h2 := h.2
  have e1 : (("[" : String) : Str).length = 1 := by decide +kernel
  have e2 : (("]" : String) : Str).length = 1 := by decide +kernel
  show (textFrom 0 "[" (PyData.shownAll l) ++ "]" : Str).length + 2 ≤ _
  rw [app_len]
  omega
theorem Tin.str {z : Str} (h8 : z.length ≤ 8) (h : ∀ c ∈ z.cps.toList, c < 128) : Tin (.str z) 1 := by
  refine ⟨rfl, ?_⟩
  have h1 := StrLaws.reprText_len z fun c hc => Nat.lt_trans (h c hc) (by decide)
  show (reprText z).length + 2 ≤ _
  omega
theorem Tin.nm {z : Str} (h : Nm z) : Tin (.str z) 1 := .str h.l8 h.c128
theorem Tin.non : Tin .none 1 := ⟨rfl, by decide +kernel⟩
theorem Tin.int {n : Int} (h0 : 0 ≤ n) (h1 : n < 1000003) : Tin (.int n) 1 := by
  refine ⟨?_, ?_⟩
  · show decide (n.natAbs.log2 < 1920) = true
    refine decide_eq_true ?_
    by_cases e : n.natAbs = 0
    · rw [e]; decide
    · exact Nat.lt_trans ((Nat.log2_lt e).mpr (show n.natAbs < 2 ^ 20 by omega)) (by decide)
  · have := num_len h0 h1
    show (numS n).length + 2 ≤ _
    omega
theorem Tin.word {l : List Str} {w : Str} (h : w ∈ l) (hl : ∀ z ∈ l, z.length ≤ 8 ∧ ∀ c ∈ z.cps.toList, c < 128) : Tin (.str w) 1 := .str (hl w h).1 (hl w h).2
theorem tin_ex {bs : List Str} (bn : ∀ z ∈ bs, Nm z) {d : Nat} {e : Ex} (h : OkE bs d e) : Tin (exD e) (bE d) := by
  induction h with
  | @num d n h0 h1 => exact (Tin.tup (.cons (.word (l := ["number"]) List.mem_cons_self (by decide +kernel)) (.cons (.int h0 h1) .nil))).mono (bE_3 d)
  | @non d => exact (Tin.tup (.cons (.word (l := ["none"]) List.mem_cons_self (by decide +kernel)) .nil)).mono (Nat.le_trans (by decide) (bE_3 d))
  | @box d b hb => exact (Tin.tup (.cons (.word (l := ["box"]) List.mem_cons_self (by decide +kernel)) (.cons (.nm (bn b hb)) .nil))).mono (bE_3 d)
  | @op d w a b hw _ _ i1 i2 => exact (Tin.tup (.cons (.word hw (by decide +kernel)) (.cons i1 (.cons i2 .nil)))).mono (by show 1 + (bE d + (bE d + 0)) + 1 ≤ 2 + 2 * bE d; omega)
theorem tin_exs {bs : List Str} (bn : ∀ z ∈ bs, Nm z) {q : Nat} (q4 : q ≤ 4) : ∀ {es : List Ex}, (∀ e ∈ es, OkE bs q e) → Tins (es.map exD) (78 * es.length)
  | [], _ => .nil
  | e :: es, h => (Tins.cons (tin_ex bn (h e List.mem_cons_self)) (tin_exs bn q4 fun x hx => h x (List.mem_cons_of_mem _ hx))).mono (by have := bE_4 q4; rw [List.length_cons]; omega)
theorem tin_sms {x : List Sm} (h : ∀ s ∈ x, Tin (smD s) (250 * LK.cnt s)) : Tins (smsD x) (250 * cnts x) := by
  induction x with
  | nil => exact .nil
  | cons s r ih => exact (Tins.cons (h s List.mem_cons_self) (ih fun y hy => h y (List.mem_cons_of_mem _ hy))).mono (by show _ ≤ 250 * (LK.cnt s + cnts r); omega)
theorem tin_sm {bs : List Str} {ms : List (Str × Nat)} {q d : Nat} {l : Bool} {s : Sm} (bn : ∀ z ∈ bs, Nm z) (mn : ∀ u ∈ ms, Nm u.1) (m3 : ∀ u ∈ ms, u.2 ≤ 3) (q4 : q ≤ 4) (h : OkS bs ms q d l s) : Tin (smD s) (250 * LK.cnt s) := by
  have sx : ∀ {e : Ex}, OkE bs q e → Tin (exD e) 78 := fun he => (tin_ex bn he).mono (bE_4 q4)
  have wd : ∀ z : Str, z ∈ (["make", "if", "while", "pull", "try"] : List Str) → Tin (.str z) 1 := fun z hz => .word hz (by decide +kernel)
  induction h with
  | @set3 d l w b e hw hb he => exact (Tin.tup (.cons (.word hw (by decide +kernel)) (.cons (.nm (bn b hb)) (.cons (sx he) .nil)))).mono (by show _ ≤ 250 * 1; decide)
  | @one d l w e hw he => exact (Tin.tup (.cons (.word hw (by decide +kernel)) (.cons (sx he) .nil))).mono (by show _ ≤ 250 * 1; decide)
  | @jump d w hw => exact (Tin.tup (.cons (.word hw (by decide +kernel)) .nil)).mono (by show _ ≤ 250 * 1; decide)
  | @make d l b n es hb hn he =>
    have n3 : es.length ≤ 3 := m3 _ hn
    exact (Tin.tup (.cons (wd _ (by decide +kernel)) (.cons (.nm (bn b hb)) (.cons (.nm (mn _ hn)) (.cons (Tin.tup (tin_exs bn q4 he)) .nil))))).mono (by show _ ≤ 250 * 1; omega)
  | @ifs d l e x y he hx hy i1 i2 =>
    exact (Tin.tup (.cons (wd _ (by decide +kernel)) (.cons (sx he) (.cons (Tin.tup (tin_sms i1)) (.cons (Tin.tup (tin_sms i2)) .nil))))).mono (by show _ ≤ 250 * (1 + cnts x + cnts y); omega)
  | @whl d l e x he hx i1 => exact (Tin.tup (.cons (wd _ (by decide +kernel)) (.cons (sx he) (.cons (Tin.tup (tin_sms i1)) .nil)))).mono (by show _ ≤ 250 * (1 + cnts x); omega)
  | @pull d l b w e f x hb hw he hf hx i1 =>
    exact (Tin.tup (.cons (wd _ (by decide +kernel)) (.cons (.nm (bn b hb)) (.cons (.word hw (by decide +kernel)) (.cons (sx he) (.cons (sx hf) (.cons (Tin.tup (tin_sms i1)) .nil))))))).mono (by show _ ≤ 250 * (1 + cnts x); omega)
  | @fin d l x z hx hz hn i1 i2 =>
    exact (Tin.tup (.cons (wd _ (by decide +kernel)) (.cons (Tin.tup (tin_sms i1)) (.cons .non (.cons (Tin.tup Tins.nil) (.cons (Tin.tup (tin_sms i2)) .nil)))))).mono (by show _ ≤ 250 * (1 + cnts x + 0 + cnts z); omega)
  | @tri d l x y z c hc hx hy hz i1 i2 i3 =>
    exact (Tin.tup (.cons (wd _ (by decide +kernel)) (.cons (Tin.tup (tin_sms i1)) (.cons (.nm (bn c hc)) (.cons (Tin.tup (tin_sms i2)) (.cons (Tin.tup (tin_sms i3)) .nil)))))).mono (by show _ ≤ 250 * (1 + cnts x + cnts y + cnts z); omega)
theorem tin_nms : ∀ {zs : List Str}, (∀ z ∈ zs, Nm z) → Tins (zs.map PyData.str) zs.length
  | [], _ => .nil
  | z :: zs, h => (Tins.cons (.nm (h z List.mem_cons_self)) (tin_nms fun y hy => h y (List.mem_cons_of_mem _ hy))).mono (by rw [List.length_cons]; omega)
theorem tin_fu {most q d L : Nat} {fs : List Fu} (h : OkB most q d L fs) (q4 : q ≤ 4) (L30 : L ≤ 30) {f : Fu} (hf : f ∈ fs) : Tin (fuD f) 7600 := by
  have ok := h.ok f hf
  obtain ⟨bs, _, _, bn, _, os⟩ := ok.bs
  have mn : ∀ u ∈ fs.map fuM, Nm u.1 := fun u hu => by
    obtain ⟨g, hg, rfl⟩ := List.mem_map.mp hu
    exact (h.ok g hg).n
  have m3 : ∀ u ∈ fs.map fuM, u.2 ≤ 3 := fun u hu => by
    obtain ⟨g, hg, rfl⟩ := List.mem_map.mp hu
    exact (h.ok g hg).p3
  have p3 := ok.p3
  have c := ok.c
  exact (Tin.tup (.cons (.nm ok.n) (.cons (Tin.tup (tin_nms ok.pn)) (.cons (Tin.tup (tin_sms fun s hs => tin_sm bn mn m3 q4 (os s hs))) .nil)))).mono (by omega)
theorem tin_fus {most q d L : Nat} {fs : List Fu} (h : OkB most q d L fs) (q4 : q ≤ 4) (L30 : L ≤ 30) : ∀ gs : List Fu, (∀ g ∈ gs, g ∈ fs) → Tins (gs.map fuD) (7600 * gs.length)
  | [], _ => .nil
  | g :: gs, hg => (Tins.cons (tin_fu h q4 L30 (hg g List.mem_cons_self)) (tin_fus h q4 L30 gs fun x hx => hg x (List.mem_cons_of_mem _ hx))).mono (by rw [List.length_cons]; omega)
theorem ly_nms : ∀ {zs : List Str}, (∀ z ∈ zs, Nm z) → Lys 0 (zs.map PyData.str)
  | [], _ => .nil
  | z :: zs, h => .cons (.str (h z List.mem_cons_self)) (ly_nms fun y hy => h y (List.mem_cons_of_mem _ hy))
theorem ly_fu {most q d L : Nat} {fs : List Fu} (h : OkB most q d L fs) {f : Fu} (hf : f ∈ fs) : Ly (q + 3 + 2 * d + 2) (fuD f) := by
  have ok := h.ok f hf
  obtain ⟨bs, _, _, bn, _, os⟩ := ok.bs
  have mn : ∀ u ∈ fs.map fuM, Nm u.1 := fun u hu => by
    obtain ⟨g, hg, rfl⟩ := List.mem_map.mp hu
    exact (h.ok g hg).n
  exact Ly.tup (.cons (.str ok.n) (.cons ((Ly.tup (ly_nms ok.pn)).mono (by omega)) (.cons (ly_body fun s hs => ly_sm bn mn (os s hs)) .nil)))
theorem ly_fus {most q d L : Nat} {fs : List Fu} (h : OkB most q d L fs) : ∀ gs : List Fu, (∀ g ∈ gs, g ∈ fs) → Lys (q + 3 + 2 * d + 2) (gs.map fuD)
  | [], _ => .nil
  | g :: gs, hg => .cons (ly_fu h (hg g List.mem_cons_self)) (ly_fus h gs fun x hx => hg x (List.mem_cons_of_mem _ hx))
/-- repr of the functions drawn -/
theorem repr_fus {K : PySem.W.Frag} {H : Hp} {v : V} {most q d L : Nat} {fs : List Fu} (h : OkB most q d L fs) (q4 : q ≤ 4) (d9 : d ≤ 9) (L30 : L ≤ 30) (m6 : most ≤ 6) (dv : Dp K H v (.list (fs.map fuD))) : ReprOf K H v (PyData.list (fs.map fuD)).shown := by
  have t := Tin.lst (tin_fus h q4 L30 fs fun _ h => h)
  have l := ly_fus h fs fun _ h => h
  have fl := h.fl
  refine .inl ⟨_, dv, t.1, ?_, ?_, rfl⟩
  · show PyData.depthAll (fs.map fuD) + 1 ≤ 60
    have := l.2
    omega
  · have := t.2
    exact Nat.le_trans (show _ ≤ 92 * 45601 by omega) (by decide)
end LK
set_option Elab.async false
set_option linter.all false
set_option maxRecDepth 100000
set_option maxHeartbeats 4000000
namespace K10
open PySem PySem.Spec PyProof.Rows L2 Evl LK
/-! the law -/
def big30 : Int := 10 ^ (30 : Int).toNat
/-- what a refusal is made of here, and the data that it is -/
def Thg (K : PySem.W.Frag) (H : Hp) (x : V) (d : PyData) : Prop :=
  (∃ i : Int, x = .int i ∧ d = .int i ∧ 0 ≤ i ∧ i < 3001) ∨ (∃ z : Str, x = .str z ∧ d = .str z ∧ z.length ≤ 8 ∧ ∀ c ∈ z.cps.toList, c < 128) ∨ (x = .non ∧ d = .none) ∨
  (∃ a : Addr, x = .ref a ∧ d = .tuple [.str "a"] ∧ SqT K H a [.str "a"]) ∨ (x = .int big30 ∧ d = .int big30)
theorem Thg.same {K : PySem.W.Frag} {H H' : Hp} {x : V} {d : PyData} (h : Thg K H x d) (s : Same H H') : Thg K H' x d := by
  rcases h with h | h | h | ⟨a, e1, e2, h⟩ | h
  · exact .inl h
  · exact .inr (.inl h)
  · exact .inr (.inr (.inl h))
  · exact .inr (.inr (.inr (.inl ⟨a, e1, e2, (Tk.same s).seqT h⟩)))
  · exact .inr (.inr (.inr (.inr h)))
theorem int_len {i : Int} (h0 : 0 ≤ i) (h1 : i < 3001) : i.natAbs.log2 < 1920 ∧ (toString i : Str).length ≤ 1000 := by
  have h := Tin.int h0 (by omega)
  refine ⟨of_decide_eq_true h.1, ?_⟩
  have h2 : (toString i : Str).length + 2 ≤ 92 * 1 := h.2
  omega
theorem big_len : big30.natAbs.log2 < 1920 ∧ (toString big30 : Str).length ≤ 90 := by decide +kernel
theorem Thg.fmt {K : PySem.W.Frag} {H : Hp} {x : V} {d : PyData} (h : Thg K H x d) : Fmt K H x := by
  rcases h with ⟨i, rfl, _, h0, h1⟩ | ⟨z, rfl, _, h8, _⟩ | ⟨rfl, _⟩ | ⟨a, rfl, _, h⟩ | ⟨rfl, _⟩
  · exact .inr (.inr (.inl ⟨i, rfl, int_len h0 h1⟩))
  · exact .inr (.inl ⟨z, rfl, Nat.le_trans h8 (by decide)⟩)
  · exact .inl rfl
  · refine .inr (.inr (.inr ⟨a, ["a"], rfl, h, fun y hy c hc => ?_, by decide +kernel⟩))
    obtain rfl := List.mem_singleton.mp hy
    obtain rfl : c = 97 := by simpa using (show c ∈ [97] from hc)
    decide
  · exact .inr (.inr (.inl ⟨_, rfl, big_len.1, Nat.le_trans big_len.2 (by decide)⟩))
theorem Thg.dp {K : PySem.W.Frag} {H : Hp} {x : V} {d : PyData} (h : Thg K H x d) : Dp K H x d := by
  rcases h with ⟨i, rfl, rfl, _⟩ | ⟨z, rfl, rfl, _⟩ | ⟨rfl, rfl⟩ | ⟨a, rfl, rfl, h⟩ | ⟨rfl, rfl⟩
  · exact .int i
  · exact .str z
  · exact .non
  · exact .tup h (.cons (.str _) .nil)
  · exact .int _
theorem Thg.tin {K : PySem.W.Frag} {H : Hp} {x : V} {d : PyData} (h : Thg K H x d) : Tin d 2 ∧ d.depth ≤ 3 := by
  rcases h with ⟨i, rfl, rfl, h0, h1⟩ | ⟨z, rfl, rfl, h8, hc⟩ | ⟨rfl, rfl⟩ | ⟨a, rfl, rfl, h⟩ | ⟨rfl, rfl⟩
  · exact ⟨(Tin.int h0 (by omega)).mono (by decide), by show 0 ≤ 3; decide⟩
  · exact ⟨(Tin.str h8 hc).mono (by decide), by show 0 ≤ 3; decide⟩
  · exact ⟨Tin.non.mono (by decide), by decide⟩
  · exact ⟨Tin.tup (.cons (Tin.str (by decide +kernel) (by decide +kernel)) .nil), by decide⟩
  · refine ⟨⟨decide_eq_true big_len.1, ?_⟩, by decide⟩
    have := big_len.2
    show (toString big30 : Str).length + 2 ≤ 92 * 2
    omega
theorem Thg.repr {K : PySem.W.Frag} {H : Hp} {x : V} {d : PyData} {l : Addr} (h : Thg K H x d) (hl : H l = some (.lst [x, x])) : ReprOf K H (.ref l) (PyData.list [d, d]).shown := by
  obtain ⟨t, dd⟩ := h.tin
  have tl := Tin.lst (.cons t (.cons t .nil))
  refine .inl ⟨_, .lst (SqL.of hl) (.cons h.dp (.cons h.dp .nil)), tl.1, ?_, ?_, rfl⟩
  · show PyData.depthAll [d, d] + 1 ≤ 60
    show max d.depth (max d.depth 0) + 1 ≤ 60
    omega
  · have := tl.2
    exact Nat.le_trans (show (PyData.list [d, d]).shown.length ≤ 1000 by omega) (by decide)
def kindsD (i : Nat) : List PyData := (List.range 17).map fun j => PyData.bool (decide (i = j))
theorem dp_kinds {K : PySem.W.Frag} {H : Hp} (i : Nat) : DpAll K H (kindsL i) (kindsD i) := by
  have h : ∀ l : List Nat, DpAll K H (l.map fun j => V.bl (decide (i = j))) (l.map fun j => PyData.bool (decide (i = j))) := by
    intro l
    induction l with
    | nil => exact .nil
    | cons a l ih => exact .cons (.bl _) ih
  exact h _
theorem kinds_ok : ∀ i, i < 17 → SeqAt.shaped (.list (kindsD i)) = true ∧ PyData.eqv (.list (kindsD i)) (.list (kindsD i)) = true := by decide +kernel
def spLaw (K : PySem.W.Frag) : Sp := fun vs H Q _ => ∃ (a : Addr) (ns : List Int), vs = [.ref a] ∧ SqL K H a (ns.map V.int) ∧ ns.length ≤ 63 ∧ ∀ H', Q (.bl true) H'
structure TLaw (mg : Str → Option Value) (fB fTk fPk fA fK fTn : Addr) : Prop where
  begun : mg "_law_begun" = some (.ref fB)
  take : mg "_law_take" = some (.ref fTk)
  pick : mg "_law_pick" = some (.ref fPk)
  all : mg "_law_all" = some (.ref fA)
  kinds : mg "_law_kinds" = some (.ref fK)
  taken : mg "_law_taken" = some (.ref fTn)
  range : mg "range" = none
  enumerate : mg "enumerate" = none
  repr : mg "repr" = none
  isinstance : mg "isinstance" = none
  len : mg "len" = none
  valueError : mg "ValueError" = none
section
variable {P : Program} {w : World} {K : PySem.W.Frag} {mg : Str → Option Value} {base : Heap} {S : Addr} {Cs fI : Nat → Addr} {fd0 : Nat → FuncData}
theorem scLaw : FnScope ["script", "state", "turn", "k", "own", "thing", "one", "other", "told", "error", "j"] ["script"] (defScope s_law) := ⟨rfl, rfl, rfl, by decide +kernel, rfl, by decide +kernel, by decide +kernel⟩
theorem ok_law {f fB fTk fPk fA fK fTn : Addr} {fd fdB fdTk fdPk fdA fdK fdTn : FuncData} (F : FnP K "law" s_law f fd) (FB : FnP K "_law_begun" s_law_begun fB fdB) (FTk : FnP K "_law_take" s_law_take fTk fdTk) (FPk : FnP K "_law_pick" s_law_pick fPk fdPk)
    (FA : FnP K "_law_all" s_law_all fA fdA) (FK : FnP K "_law_kinds" s_law_kinds fK fdK) (FTn : FnP K "_law_taken" s_law_taken fTn fdTn) (T : TLaw mg fB fTk fPk fA fK fTn) (TA : TAl P w K mg base S Cs fI fd0) (TT : TTk K S Cs) (gS : mg "StillError" = some (.ref S)) :
    FnG P w K mg base 4 f fd ["script"] (spLaw K) := by
  have GB : FnOk P w K mg base CX0 1 fB fdB ["script"] (spBegun K) := ok_begun FB
  have GTk : FnOk P w K mg base CX0 1 fTk fdTk ["state", "many"] spTake := ok_take FTk T.len
  have GPk : FnOk P w K mg base CX0 2 fPk fdPk ["state", "some"] (spPick K) := ok_pick FPk FTk T.take T.len
  have GK : FnOk P w K mg base CX0 1 fK fdK ["e"] (spKinds Cs) := ok_kinds FK TA.cs T.isinstance
  have GA : FnOk P w K mg base CX0 3 fA fdA ["one"] (spAll K Cs) := ok_all FA TA
  have GTn : FnOk P w K mg base CX0 3 fTn fdTn ["k"] spTaken := ok_taken FTn FK TA TT gS T.kinds GK
  have bB : Binds K fdB ["script"] [] := FB.bindsN fun _ _ _ _ _ _ us hl => match us, hl with | [_], _ => rfl
  have bTk : Binds K fdTk ["state", "many"] [] := FTk.bindsN fun _ _ _ _ _ _ us hl => match us, hl with | [_, _], _ => rfl
  have bPk : Binds K fdPk ["state", "some"] [] := FPk.bindsN fun _ _ _ _ _ _ us hl => match us, hl with | [_, _], _ => rfl
  have bA : Binds K fdA ["one"] [] := FA.bindsN fun _ _ _ _ _ _ us hl => match us, hl with | [_], _ => rfl
  have bK : Binds K fdK ["e"] [] := FK.bindsN fun _ _ _ _ _ _ us hl => match us, hl with | [_], _ => rfl
  have bTn : Binds K fdTn ["k"] [] := FTn.bindsN fun _ _ _ _ _ _ us hl => match us, hl with | [_], _ => rfl
  have nd := scLaw.nd
  refine FnG.of F scLaw (fun vs H Q E h => ?_) (fun cdv A outer s H vs Q E hG hr h => ?_)
  · obtain ⟨a, ns, rfl, _⟩ := h; rfl
  · obtain ⟨a, ns, rfl, hS, hl, q⟩ := h
    have hr1 : Room 1 _ := hr.mono (by decide)
    have hr2 : Room 2 _ := hr.mono (by decide)
    have hr3 : Room 3 _ := hr
    have hu64 := hr.units
    replace hG : (A.deeper (envOfC "law" (defScope s_law) s.heap.objs.size f cdv)).guards = some [] := hG
    refine ⟨_, PSs.nox (pss_cons (ps_set (i := 1) nd rfl (Or.inr rfl) (pe_call GB hr1 rfl T.begun FB.kp bB .nil pass0 (pa_cons (pv 0) pa_nil)))
      (pss_cons (ps_for PassesOwn.never rfl (pi_range1 (by rfl) T.range (pa_cons pe_int pa_nil)) (pg_name (i := 2) nd rfl (Or.inl rfl)) (pss_cons (ps_set (i := 4) nd rfl (Or.inl rfl) (pe_join pe_str (pe_lc (own := [("k", 3)]) (g := gName 3) (by rfl) nd (pi_range1 (by rfl) T.range (pa_cons (pe_op op_add pe_int (pe_call GTk hr1 rfl T.take FTk.kp bTk .nil pass0 (pa_cons (pv 1) (pa_cons pe_int pa_nil)))) pa_nil)) (blkOk_by (N := ["script", "state", "turn", "k", "own", "thing", "one", "other", "told", "error", "j"]) (sc := defScope s_law) (by decide +kernel)) (fun _ _ _ _ _ => (pg_name (i := 3) nd rfl (Or.inl rfl))) (fun _ _ _ _ _ => pts_nil) (fun _ _ _ _ _ => (pe_call GPk hr2 rfl T.pick FPk.kp bPk .nil pass0 (pa_cons (pv 1) (pa_cons pe_str pa_nil)))))))
      (pss_cons (ps_set (i := 5) nd rfl (Or.inl rfl) (pe_call GPk hr2 rfl T.pick FPk.kp bPk .nil pass0 (pa_cons (pv 1) (pa_cons (pe_lst (pa_cons (pe_call GTk hr1 rfl T.take FTk.kp bTk .nil pass0 (pa_cons (pv 1) (pa_cons pe_int pa_nil))) (pa_cons (pv 4) (pa_cons pe_non (pa_cons pe_str (pa_cons (pe_tup (pa_cons pe_str pa_nil)) (pa_cons (pe_op op_pow pe_int pe_int) pa_nil))))))) pa_nil))))
      (pss_one (ps_for PassesOwn.never rfl (pi_enum (by rfl) T.enumerate (pa_cons (pe_call GA hr3 rfl T.all FA.kp bA .nil pass0 (pa_cons (pv 5) pa_nil)) pa_nil)) (pg_tup (by rfl) (pgs_cons (pg_name (i := 3) nd rfl (Or.inr rfl)) (pgs_cons (pg_tup (by rfl) (pgs_cons (pg_name (i := 6) nd rfl (Or.inl rfl)) (pgs_cons (pg_name (i := 7) nd rfl (Or.inl rfl)) (pgs_cons (pg_name (i := 8) nd rfl (Or.inl rfl)) pgs_nil)))) pgs_nil))) (pss_one (ps_for PassesOwn.never rfl (pi_tup (pe_tup (pa_cons (pv 6) (pa_cons (pv 7) pa_nil)))) (pg_name (i := 9) nd rfl (Or.inl rfl)) (pss_cons (ps_if (PW.pt (pw_or (pt_cmpR (op_neD hu64) (pe_call GK hr1 rfl T.kinds FK.kp bK .nil pass0 (pa_cons (pv 9) pa_nil)) (pe_lc (own := [("j", 10)]) (g := gName 10) (by rfl) nd (pi_range1 (by rfl) T.range (pa_cons pe_int pa_nil)) (blkOk_by (N := ["script", "state", "turn", "k", "own", "thing", "one", "other", "told", "error", "j"]) (sc := defScope s_law) (by decide +kernel)) (fun _ _ _ _ _ => (pg_name (i := 10) nd rfl (Or.inl rfl))) (fun _ _ _ _ _ => pts_nil) (fun _ _ _ _ _ => (pe_cmpR op_eq (pv 10) (pv 3) (nomark _)))) (nomark _)) (pw_or1 (pt_not (pt_val (pe_callB (id := "isinstance") (r := rIsEx K) call_isEx (by rfl) T.isinstance (by decide +kernel) (pa_cons (pv 9) (pa_cons (pe_bltn (v := .ty "ValueError") (by rfl) T.valueError (by decide +kernel) rfl) pa_nil)))))))) (pss_one (ps_ret pe_bl)) pss_nil)
      (pss_one (ps_if (PW.pt (pw_or (pt_not (pt_val (pe_callB (id := "isinstance") (r := rIsEx K) call_isEx (by rfl) T.isinstance (by decide +kernel) (pa_cons (pv 9) (pa_cons (pe_glob (v := .ref S) rfl gS rfl) pa_nil))))) (pw_or1 (pt_cmpR op_ne (pe_callB (call_reprQ hG hu64) (by rfl) T.repr (by decide +kernel) (pa_cons (pv 8) pa_nil)) (pe_callB (call_reprQ hG hu64) (by rfl) T.repr (by decide +kernel) (pa_cons (pe_lst (pa_cons (pv 5) (pa_cons (pv 5) pa_nil))) pa_nil)) (nomark _))))) (pss_one (ps_ret pe_bl)) pss_nil))))))))))
      (pss_one (ps_ret (pe_cmpR (op_eqD hu64) (pe_lc (own := [("k", 3)]) (g := gName 3) (by rfl) nd (pi_range1 (by rfl) T.range (pa_cons pe_int pa_nil)) (blkOk_by (N := ["script", "state", "turn", "k", "own", "thing", "one", "other", "told", "error", "j"]) (sc := defScope s_law) (by decide +kernel)) (fun _ _ _ _ _ => (pg_name (i := 3) nd rfl (Or.inl rfl))) (fun _ _ _ _ _ => (pts_one (pt_not (pt_val (pe_call GTn hr3 rfl T.taken FTn.kp bTn .nil pass0 (pa_cons (pv 3) pa_nil)))))) (fun _ _ _ _ _ => (pv 3))) (pe_lst pa_nil) (nomark _)))))), ?_⟩
    -- state
    refine ⟨_, rfl, a, ns, rfl, hS, hl, fun d H1 s1 _ _ S1 => ?_⟩
    refine ⟨3, rfl, by decide, by decide, for_range (lo := 0) (n := 3) (fun i σ H' => ∃ v2 v3 v4 v5 v6 v7 v8 v9 v10, σ = [some (.ref a), some (.ref d.s), v2, v3, v4, v5, v6, v7, v8, v9, v10] ∧ StAt H' d (20 * i))
      ⟨none, none, none, none, none, none, none, none, none, rfl, S1⟩ ?_ ?_⟩
    · rintro i σ H2 hi ⟨v2, v3, v4, v5, v6, v7, v8, v9, v10, rfl, S2⟩
      -- own
      refine ⟨⟨_, rfl⟩, ?_⟩
      refine ⟨_, rfl, d, 8, _, rfl, S2, by omega, by decide, by decide, fun t H3 t0 t1 S3 f3 => ?_⟩
      refine ⟨_, _, rfl, rfl, _, rfl, by omega, by omega, fun D hD => ?_⟩
      have S4 := S3.new (o := .lst []) hD
      refine lc_range (lo := 0) (n := (1 + t).toNat) (fun j H' => ∃ ys : List Str, H' D = some (.lst (ys.map V.str)) ∧ ys.length = j ∧ (∀ z ∈ ys, ∃ c ∈ [97, 98, 99, 122], z = ⟨#[c]⟩) ∧ StAt H' d (20 * i + 1 + j)) ⟨[], upd_same, rfl, fun z hz => (nomatch hz), S4⟩ ?_ ?_
      · rintro j H5 hj ⟨ys, hys, hyl, hal, S5⟩
        refine ⟨rfl, ?_⟩
        refine ⟨_, rfl, d, .str "abcz", _, _, rfl, S5, by omega, .inr ⟨_, rfl, rfl⟩, (fun z => nomatch z), by decide, by decide, fun x H6 hx S6 f6 => ?_⟩
        obtain ⟨c, hc, rfl⟩ := List.mem_map.mp hx
        have hD6 := f6 D _ hys (S3.ns hD) (S3.ng hD)
        refine ⟨_, hD6, by rw [List.length_map]; exact small1000 (by omega), ys ++ [⟨#[c]⟩], ?_, by rw [List.length_append, hyl]; rfl, ?_, ?_⟩
        · rw [upd_same, List.map_append]; rfl
        · intro z hz
          rcases List.mem_append.mp hz with h | h
          · exact hal z h
          · exact ⟨c, hc, List.mem_singleton.mp h⟩
        · exact (S6.mono (by omega)).upd (S3.ns hD) (S3.ng hD) (S3.nc hD)
      rintro H5 ⟨ys, hys, hyl, hal, S5⟩
      obtain ⟨j1, j2⟩ := join_ones hal
      have ones : ∀ z ∈ ys, z.length = 1 := by
        intro z hz
        obtain ⟨c, _, rfl⟩ := hal z hz
        rfl
      refine ⟨"", D, ys, rfl, rfl, .inl (SqL.of hys), ?_, ?_⟩
      · rw [sum_ones ys ones]
        show ys.length + ys.length * 0 ≤ 16777216
        omega
      have l8 : (Txt.join "" ys).length ≤ 8 := by rw [j1]; omega
      have lo : ∀ c ∈ (Txt.join "" ys).cps.toList, c < 128 := fun c hc => by
        have := j2 c hc
        simp only [List.mem_cons, List.not_mem_nil, or_false] at this
        omega
      generalize Txt.join "" ys = own at l8 lo
      replace S5 : StAt H5 d (20 * i + 9) := S5.mono (by omega)
      clear hys hal ones j1 j2 S4 hD f3 S3
      -- thing
      refine ⟨_, rfl, _, rfl, d, 3001, _, rfl, S5, by omega, by decide, by decide, fun r H6 r0 r1 S6 f6 => ?_⟩
      refine ⟨_, rfl, by show 1 ≤ sizeLine; decide, fun tp htp => ?_⟩
      have S7 := S6.new (o := .tup [.str "a"]) htp
      have e7 : upd H6 tp (.tup [.str "a"]) tp = some (.tup [.str "a"]) := upd_same
      generalize upd H6 tp (.tup [.str "a"]) = H7 at S7 e7
      refine ⟨_, _, rfl, rfl, ⟨by decide, by decide, by decide⟩, ?_⟩
      refine ⟨by show 6 ≤ sizeLine; decide, fun l hl7 => ?_⟩
      have S8 := S7.new (o := .lst [.int r, .str own, .non, .str "", .ref tp, .int big30]) hl7
      have e8 := same_new (o := .lst [.int r, .str own, .non, .str "", .ref tp, .int big30]) hl7 _ _ e7
      have el : upd H7 l (.lst [.int r, .str own, .non, .str "", .ref tp, .int big30]) l = some (.lst [.int r, .str own, .non, .str "", .ref tp, .int big30]) := upd_same
      refine ⟨d, .ref l, _, _, rfl, S8, by omega, .inl ⟨l, rfl, .inl (SqL.of el)⟩, (fun z => S7.ng hl7 (V.ref.inj z)), (fun z => nomatch z), (by show 6 ≤ 1000; decide), fun x H9 hx S9 f9 => ?_⟩
      have e9 : SqT K H9 tp [.str "a"] := f9.seqT S8 (SqT.of e8)
      obtain ⟨dd, hT⟩ : ∃ dd, Thg K H9 x dd := by
        simp only [List.mem_cons, List.not_mem_nil, or_false] at hx
        rcases hx with rfl | rfl | rfl | rfl | rfl | rfl
        · exact ⟨_, .inl ⟨r, rfl, rfl, r0, r1⟩⟩
        · exact ⟨_, .inr (.inl ⟨own, rfl, rfl, l8, lo⟩)⟩
        · exact ⟨_, .inr (.inr (.inl ⟨rfl, rfl⟩))⟩
        · exact ⟨_, .inr (.inl ⟨"", rfl, rfl, by decide +kernel, by decide +kernel⟩)⟩
        · exact ⟨_, .inr (.inr (.inr (.inl ⟨tp, rfl, rfl, e9⟩)))⟩
        · exact ⟨_, .inr (.inr (.inr (.inr ⟨rfl, rfl⟩)))⟩
      replace S9 : StAt H9 d (20 * (i + 1)) := S9.mono (by omega)
      clear hx e9 e8 el f9 S8 S7 S6 S5 e7 hl7 htp f6 l8 lo
      -- all of them
      refine ⟨_, rfl, x, rfl, hT.fmt, fun Fa H10 nF s10 stg => ?_⟩
      obtain ⟨ys, hF, pr⟩ := stg
      have S10 := S9.same s10
      have hT10 := hT.same s10
      have ly : ys.length = 17 := by
        have : ∀ {us : List V} {js : List Nat}, Paired (Ent Cs x Fa H10) us js → us.length = js.length := fun h => by
          induction h with
          | nil => rfl
          | cons _ _ ih => simp [ih]
        rw [this pr, List.length_range]
      clear hT S9 s10 nF
      refine ⟨Fa, ys, rfl, SqL.of hF, for_it walk_enum (fun k σ H' => ∃ v3 v6 v7 v8 v9, σ = [some (.ref a), some (.ref d.s), some (.int (0 + (i : Int))), v3, some (.str own), some x, v6, v7, v8, v9, v10] ∧ Same H10 H')
        ⟨_, _, _, _, _, rfl, Same.refl _⟩ (fun k σ H' _ ⟨_, _, _, _, _, _, h⟩ => SqL.of (h _ _ hF)) ?_ ?_⟩
      · rintro k y σ H11 H12 hk ⟨w3, w6, w7, w8, w9, rfl, s11⟩ ⟨Tp, x1, y, rfl, nT, rfl, e1, hy⟩
        cases e1
        obtain ⟨j, hj, ent⟩ := pair_get pr hy
        have k17 : k < 17 := by omega
        rw [List.getElem?_eq_getElem (by rw [List.length_range]; exact k17), List.getElem_range] at hj
        obtain rfl : k = j := Option.some.inj hj
        obtain ⟨t, b1, b2, tl, rfl, ht, x1, x2, htl, _⟩ := ent
        have s12 : Same H10 (upd H11 Tp (.tup [.int (k : Nat), .ref t])) := fun b o e => same_new nT _ _ (s11 _ _ e)
        refine ⟨Tp, _, rfl, SqT.of upd_same, rfl, _, _, rfl, _, _, rfl, t, _, rfl, SqT.of (s12 _ _ ht), rfl, _, _, rfl, _, _, rfl, _, _, rfl, rfl, rfl, ?_⟩
        generalize upd H11 Tp (.tup [.int (k : Nat), .ref t]) = H12 at s12
        clear s11 nT hy
        refine ⟨_, rfl, _, rfl, by show 2 ≤ sizeLine; decide, fun t2 ht2 => ⟨t2, rfl, ⟨_, SqT.of upd_same⟩, ?_⟩⟩
        have s13 : Same H10 (upd H12 t2 (.tup [.ref b1, .ref b2])) := fun b o e => same_new ht2 _ _ (s12 _ _ e)
        have e13 : upd H12 t2 (.tup [.ref b1, .ref b2]) t2 = some (.tup [.ref b1, .ref b2]) := upd_same
        generalize upd H12 t2 (.tup [.ref b1, .ref b2]) = H13 at s13 e13
        refine for_tup (fun i2 σ H' => ∃ v9, σ = [some (.ref a), some (.ref d.s), some (.int (0 + (i : Int))), some (.int (k : Nat)), some (.str own), some x, some (.ref b1), some (.ref b2), some (.ref tl), v9, v10] ∧ Same H10 H' ∧ H' t2 = some (.tup [.ref b1, .ref b2]))
          ⟨_, rfl, s13, e13⟩ (fun i2 σ H' _ ⟨_, _, _, h⟩ => SqT.of h) ?_ ?_
        · rintro i2 y σ H14 hy ⟨w9, rfl, s14, e14⟩
          obtain ⟨b, rfl, xb⟩ : ∃ b, y = .ref b ∧ ExI H10 b (Cs k) := by
            match i2, hy with
            | 0, h => exact ⟨b1, (Option.some.inj h).symm, x1⟩
            | 1, h => exact ⟨b2, (Option.some.inj h).symm, x2⟩
          refine ⟨_, rfl, b, k, rfl, k17, xb.same s14, fun D H15 nD s15 hD => ?_⟩
          refine ⟨17, rfl, by decide, by decide, fun D2 hD2 => lc_range (lo := 0) (n := 17) (fun m H' => ∃ acc, H' D2 = some (.lst acc) ∧ acc = (kindsL k).take m ∧ Same H15 H') ⟨[], upd_same, rfl, same_new hD2⟩ ?_ ?_⟩
          · rintro m H16 hm ⟨acc, hacc, ea, s16⟩
            refine ⟨rfl, ?_⟩
            have la : acc.length ≤ 17 := by rw [ea]; exact Nat.le_trans (List.length_take_le _ _) (by omega)
            refine ⟨_, rfl, _, rfl, rfl, acc, hacc, Nat.lt_of_le_of_lt la (by decide), _, upd_same, ?_, fun b o e => by rw [upd_ne (ne_of_none e hD2)]; exact s16 _ _ e⟩
            have hl17 : m < (kindsL k).length := by unfold kindsL; rw [List.length_map, List.length_range]; exact hm
            rw [List.take_add_one, List.getElem?_eq_getElem hl17, ← ea]
            have e := kinds_at (List.getElem?_eq_getElem hl17)
            rw [e, int_dec]
            show acc ++ [V.bl (decide ((0 : Int) + (m : Int) = (k : Nat)))] = acc ++ [V.bl (decide (k = m))]
            rw [show decide ((0 : Int) + (m : Int) = ((k : Nat) : Int)) = decide (k = m) from decide_eq_decide.mpr ⟨fun z => by omega, fun z => by omega⟩]
          rintro H16 ⟨acc, hacc, ea, s16⟩
          rw [List.take_of_length_le (by unfold kindsL; rw [List.length_map, List.length_range]; exact Nat.le_refl _)] at ea
          subst ea
          obtain ⟨ok1, ok2⟩ := kinds_ok k k17
          refine ⟨_, _, .lst (SqL.of (s16 _ _ hD)) (dp_kinds k), .lst (SqL.of hacc) (dp_kinds k), ok1, ok1, ?_⟩
          rw [ok2]
          have s17 : Same H10 H16 := fun b o e => s16 _ _ (s15 _ _ (s14 _ _ e))
          have e16 : H16 t2 = some (.tup [.ref b1, .ref b2]) := s16 _ _ (s15 _ _ e14)
          have S16 := xb.same s17
          refine ⟨_, rfl, iteF ?_⟩
          refine ⟨_, rfl, b, Cs k, .ty "ValueError", .type "ValueError", true, rfl, .ty _, S16, TA.cs.ex k k17, TA.cs.ve k k17, _, rfl, iteF ?_⟩
          refine ⟨_, rfl, b, Cs k, .ref S, .ref S, true, rfl, .own _, S16, TA.cs.ex k k17, TA.cs.se k k17, _, rfl, iteF ?_⟩
          have hT16 := hT10.same s17
          refine ⟨_, rfl, .ref tl, _, rfl, hT16.repr (s17 _ _ htl), ?_⟩
          refine ⟨_, rfl, _, rfl, by show 2 ≤ sizeLine; decide, fun l3 hl3 => ?_⟩
          have s18 : Same H16 (upd H16 l3 (.lst [x, x])) := same_new hl3
          refine ⟨.ref l3, _, rfl, (hT16.same s18).repr upd_same, ?_⟩
          refine ⟨rfl, _, rfl, ?_⟩
          generalize (PyData.list [dd, dd]).shown = rr
          rw [show (!decide (V.str rr = V.str rr)) = false by rw [decide_eq_true rfl]; rfl]
          refine iteF ?_
          exact ⟨_, rfl, fun b o e => s18 _ _ (s17 _ _ e), s18 _ _ e16⟩
        · rintro σ H14 ⟨w9, rfl, s14, e14⟩
          exact ⟨_, _, _, _, _, rfl, s14⟩
      · rintro σ H11 ⟨w3, w6, w7, w8, w9, rfl, s11⟩
        exact ⟨_, _, _, _, _, _, _, _, _, rfl, S10.same s11⟩
    · rintro σ H2 ⟨v2, v3, v4, v5, v6, v7, v8, v9, v10, rfl, S2⟩
      refine ⟨17, rfl, by decide, by decide, fun D hD => lc_range (lo := 0) (n := 17) (fun m H' => H' D = some (.lst [])) upd_same ?_ ?_⟩
      · intro m H3 hm hD3
        refine ⟨rfl, ?_⟩
        refine ⟨_, rfl, m, by rw [Int.zero_add]; rfl, hm, fun H4 s4 => ⟨_, rfl, iteF ?_⟩⟩
        exact s4 _ _ hD3
      intro H3 hD3
      refine ⟨by show 0 ≤ sizeLine; exact Nat.zero_le _, fun l hl3 => ?_⟩
      refine ⟨.list [], .list [], .lst (SqL.of (same_new hl3 _ _ hD3)) .nil, .lst (SqL.of upd_same) .nil, by decide, by decide, ?_⟩
      exact q _
end
end K10
set_option Elab.async false
set_option linter.all false
set_option maxRecDepth 100000
/-! LHook: the head's hook whose written part has the interpreter's own statics too (readsIn looks there). -/
namespace LK
open PySem PySem.Spec PyProof.Rows
def reachS (g : Addr → Option Obj) (n : Nat) : List Addr := cStatics :: He.asD g n
def fragS (g : Addr → Option Obj) (n : Nat) : PySem.W.Frag := He.frT g (reachS g n)
def obsS (n : Nat) (fa : List He.Fa) (fn : List He.DefD) (ts : List He.Tab) (ex : PySem.W.Frag → Bool) (g : Addr → Option Obj) : He.AlX := (He.obsT fa fn ts (fragS g n), ex (fragS g n))
theorem obsS_says {n : Nat} {fa : List He.Fa} {fn : List He.DefD} {ts : List He.Tab} {ex : PySem.W.Frag → Bool} {w : World} {h : Heap} (e : obsS n fa fn ts ex h.get? = He.valX fn ts w) :
    ∃ K : PySem.W.Frag, K.In h ∧ He.SaysX fa fn ts [] ex w h K :=
  ⟨_, He.frT_in, ⟨congrArg Prod.fst e, congrArg Prod.snd e, fun _ m => (nomatch m), fun _ m => (nomatch m), fun _ m => (nomatch m)⟩⟩
def hookS (n : Nat) (fa : List He.Fa) (fn : List He.DefD) (ts : List He.Tab) (ex : PySem.W.Frag → Bool) : PySem.W.Hook :=
  { α := He.AlX, obs := fun s => obsS n fa fn ts ex s.heap.get?, val := fun w => He.valX fn ts w, says := fun w h => ∃ K : PySem.W.Frag, K.In h ∧ He.SaysX fa fn ts [] ex w h K,
    of := fun _ _ e => obsS_says e, keeps := fun w h h' ⟨K, inH, sx⟩ kp => ⟨K, inH.keeps kp, ⟨sx.t, sx.more, sx.hd, sx.out, fun _ m => (nomatch m)⟩⟩ }
theorem obsS_hook {n : Nat} {fa : List He.Fa} {fn : List He.DefD} {ts : List He.Tab} {ex : PySem.W.Frag → Bool} {g : Addr → Option Obj} {s : Shared} (h : ∀ a, g a = s.heap.get? a) : obsS n fa fn ts ex g = (hookS n fa fn ts ex).obs s := by
  obtain rfl : g = s.heap.get? := funext h
  rfl
end LK
set_option Elab.async false
set_option linter.all false
set_option maxRecDepth 100000
set_option maxHeartbeats 0
namespace K10
open PySem PySem.Spec PyProof.Rows L2 Evl LK
def dOf (x : Str) (st : Stmt) : He.DefD := ⟨(x, none), x, x, defArgs st, defBody st, defScope st, [], []⟩
def dIn (C m q : Str) (st : Stmt) : He.DefD := ⟨(C, some m), m, q, defArgs st, defBody st, defScope st, [], []⟩
def fnA : List He.DefD := [dOf "_law_begun" s_law_begun, dOf "_law_take" s_law_take, dOf "_law_pick" s_law_pick, dOf "_law_all" s_law_all, dOf "_law_kinds" s_law_kinds, dOf "_law_taken" s_law_taken, dOf "law" s_law]
def fnB : List He.DefD := [dIn "NoBook" "__init__" "NoBook.__init__" sI_NoBook, dIn "NoText" "__init__" "NoText.__init__" sI_NoText, dIn "NoName" "__init__" "NoName.__init__" sI_NoName, dIn "NoTable" "__init__" "NoTable.__init__" sI_NoTable, dIn "NoMaker" "__init__" "NoMaker.__init__" sI_NoMaker, dIn "NoRow" "__init__" "NoRow.__init__" sI_NoRow, dIn "Pinned" "__init__" "Pinned.__init__" sI_Pinned, dIn "Shared" "__init__" "Shared.__init__" sI_Shared, dIn "NoHouse" "__init__" "NoHouse.__init__" sI_NoHouse, dIn "NoThaw" "__init__" "NoThaw.__init__" sI_NoThaw, dIn "NoLog" "__init__" "NoLog.__init__" sI_NoLog, dIn "TooLong" "__init__" "TooLong.__init__" sI_TooLong, dIn "NoPost" "__init__" "NoPost.__init__" sI_NoPost]
def fn : List He.DefD := fnA ++ fnB
def glsA : List Str := ["_law_begun", "_law_take", "_law_pick", "_law_all", "_law_kinds", "_law_taken", "law", "NoBook", "NoText", "NoName", "NoTable", "NoMaker"]
def glsB : List Str := ["NoRow", "Pinned", "Shared", "NoHouse", "NoThaw", "NoLog", "TooLong", "NoPost", "NoThings", "NoWorth", "NoWay", "NoFall", "StillError"]
def gls : List Str := glsA ++ glsB
def frs : List Str := ["isinstance", "range", "enumerate", "repr", "len", "ValueError"]
def fa : List He.Fa := gls.map He.Fa.glo ++ frs.map He.Fa.free ++ [.meth "NoBook" "__init__", .meth "NoText" "__init__", .meth "NoName" "__init__", .meth "NoTable" "__init__", .meth "NoMaker" "__init__", .meth "NoRow" "__init__", .meth "Pinned" "__init__", .meth "Shared" "__init__", .meth "NoHouse" "__init__", .meth "NoThaw" "__init__", .meth "NoLog" "__init__", .meth "TooLong" "__init__", .meth "NoPost" "__init__", .noat "NoBook" "at", .noat "NoText" "row", .noat "NoName" "name", .noat "NoTable" "name", .noat "NoMaker" "number", .noat "NoRow" "number", .noat "Pinned" "number", .noat "Shared" "number", .noat "NoHouse" "number", .noat "NoThaw" "at", .noat "NoLog" "at", .noat "TooLong" "most", .noat "NoPost" "house", .exc "NoThings", .exc "NoWorth", .exc "NoWay", .exc "NoFall"]
def nmL : List Str := ["NoBook", "NoText", "NoName", "NoTable", "NoMaker", "NoRow", "Pinned", "Shared", "NoHouse", "NoThaw", "NoLog", "TooLong", "NoPost", "NoThings", "NoWorth", "NoWay", "NoFall"]
def cs (K : PySem.W.Frag) (j : Nat) : Addr := He.ga K (nmL.getD j "")
def exB (K : PySem.W.Frag) (C : Addr) : Bool := (((PySem.W.clsIn K C).isSome && decide (PySem.W.findIn K (.ref C) "__getattribute__" = some (some (.builtin "BaseException.__getattribute__")))) && (decide (PySem.W.findIn K (.ref C) "__getattr__" = some none) && decide (PySem.W.subIn K (.ref C) (.type "BaseException") = some true))) &&
  (((decide (PySem.W.findIn K (.ref C) "__class__" = some (some (.builtin "object.__class__"))) && decide (PySem.W.specialIn K (.builtin "object.__class__") "__get__" = some (some (.builtin "getset_descriptor.__get__")))) && (decide (PySem.W.takesIn K (.builtin "object.__class__") = some true) && decide (PySem.W.mroIn K C (.type "object") = some true))) &&
  decide (PySem.W.typeIn K (.ref C) = some (.type "type")))
theorem exB_ok {K : PySem.W.Frag} {C : Addr} (h : exB K C = true) : ExK K C ∧ PySem.W.typeIn K (.ref C) = some (.type "type") := by
  obtain ⟨h1, h2⟩ := Bool.and_eq_true_iff.mp h
  obtain ⟨h3, h4⟩ := Bool.and_eq_true_iff.mp h1
  obtain ⟨a1, a2⟩ := Bool.and_eq_true_iff.mp h3
  obtain ⟨a3, a4⟩ := Bool.and_eq_true_iff.mp h4
  obtain ⟨h5, h6⟩ := Bool.and_eq_true_iff.mp h2
  obtain ⟨h7, h8⟩ := Bool.and_eq_true_iff.mp h5
  obtain ⟨a5, a6⟩ := Bool.and_eq_true_iff.mp h7
  obtain ⟨a7, a8⟩ := Bool.and_eq_true_iff.mp h8
  exact ⟨⟨a1, of_decide_eq_true a2, of_decide_eq_true a3, of_decide_eq_true a4, of_decide_eq_true a5, of_decide_eq_true a6, of_decide_eq_true a7, of_decide_eq_true a8⟩, of_decide_eq_true h6⟩
def oexO (K : PySem.W.Frag) (C : Addr) : Bool := match K.lookup C with
  | some ⟨.type "type", _, .cls cd, sl⟩ => (match cd.mro, sl.toList with
    | .ref D :: bm, [_, _, _, _, some (.builtin n), _] => decide (D = C) && (decide (n = "ValueError.__new__") && ((!cd.hasDel && cd.hasDict) && PySem.HandSPX.refsVE bm))
    | _, _ => false)
  | _ => false
def oexB (K : PySem.W.Frag) (C : Addr) : Bool := (oexO K C && decide (PySem.W.findIn K (.ref C) "__setattr__" = some (some (.builtin "object.__setattr__")))) && (decide (PySem.W.subIn K (.ref C) (.type "BaseException") = some true) && (decide (PySem.W.typeIn K (.ref C) = some (.type "type")) && PySem.W.keepIn K (.ref C)))
theorem oexB_ok {K : PySem.W.Frag} {C : Addr} (h : oexB K C = true) : OexC K C := by
  obtain ⟨h1, h2⟩ := Bool.and_eq_true_iff.mp h
  obtain ⟨h3, h4⟩ := Bool.and_eq_true_iff.mp h1
  obtain ⟨h5, h6⟩ := Bool.and_eq_true_iff.mp h2
  obtain ⟨h7, h8⟩ := Bool.and_eq_true_iff.mp h6
  refine ⟨?_, of_decide_eq_true h4, of_decide_eq_true h5, of_decide_eq_true h7, h8⟩
  unfold oexO at h3
  split at h3
  · rename_i dd cd sl ho
    split at h3
    · rename_i D bm k0 k1 k2 k3 n k5 hm hs
      obtain ⟨z1, z2⟩ := Bool.and_eq_true_iff.mp h3
      obtain ⟨z3, z4⟩ := Bool.and_eq_true_iff.mp z2
      obtain ⟨z5, z6⟩ := Bool.and_eq_true_iff.mp z4
      obtain ⟨z7, z8⟩ := Bool.and_eq_true_iff.mp z5
      have e1 := of_decide_eq_true z1
      have e2 := of_decide_eq_true z3
      subst e1 e2
      obtain ⟨nm, bs, mro, ns, qn, hd, sn, sub, ab, col, del⟩ := cd
      dsimp only at hm z7 z8
      have e3 : del = false := by cases del <;> first | rfl | cases z7
      subst hm e3 z8
      have hsl : sl = #[k0, k1, k2, k3, some (.builtin "ValueError.__new__"), k5] := by
        obtain ⟨l⟩ := sl
        simp only at hs
        rw [hs]
      subst hsl
      exact ⟨nm, qn, ns, bs, bm, sn, sub, ab, col, dd, k0, k1, k2, k3, k5, ho, z6⟩
    · cases h3
  · cases h3
def rowK (K : PySem.W.Frag) (S C : Addr) (i : Nat) : Bool := (exB K C && decide (PySem.W.kitOne K (.ref C) (.type "ValueError") = some true)) && ((decide (PySem.W.kitOne K (.ref C) (.ref S) = some true) && decide (PySem.W.exmOne K (.ref C) (.ref S) = some true)) &&
  (List.range 17).all fun j => decide (PySem.W.kitOne K (.ref C) (.ref (cs K j)) = some (decide (i = j))))
def tabK (K : PySem.W.Frag) : Bool := (List.range 17).all fun i => rowK K (He.ga K "StillError") (cs K i) i
def tabO (K : PySem.W.Frag) : Bool := (List.range 13).all fun i => oexB K (cs K i) && xfB K (cs K i)
def seB (K : PySem.W.Frag) (S : Addr) : Bool := (PySem.W.readsIn K S (.type "type") && decide (PySem.W.specialIn K (.ref S) "__getattribute__" = some (some (.builtin "type.__getattribute__")))) && (match PySem.W.findCls K (.ref S) (.type "type") "__init__" with
  | some (.val (.builtin n)) => decide (n = "ValueError.__init__")
  | _ => false)
theorem seB_ok {K : PySem.W.Frag} {mg : Str → Option Value} {S : Addr} (h : seB K S = true) (gS : mg "StillError" = some (.ref S)) : TSe K mg S := by
  obtain ⟨h1, h2⟩ := Bool.and_eq_true_iff.mp h
  obtain ⟨h3, h4⟩ := Bool.and_eq_true_iff.mp h1
  refine ⟨gS, ⟨h3, of_decide_eq_true h4⟩, ?_⟩
  split at h2
  · rename_i n e
    rw [e, of_decide_eq_true h2]
  · cases h2
def ex (K : PySem.W.Frag) : Bool := tabK K && (tabO K && seB K (He.ga K "StillError"))
def ts : List He.Tab := []
abbrev R : PySem.W.OpenRow := PySem.W.OpenLaw.row rw_
abbrev hk : PySem.W.Hook := LK.hookS 5 fa fn ts ex
def ob (s : PySem.W.SharedT) : He.AlX := LK.obsS 5 fa fn ts ex (HandSHeadRun.getT s)
theorem ob_eq (s : PySem.W.SharedT) : ob s = hk.obs s.abs := LK.obsS_hook (HandSHeadRun.getT_eq s)
def looseA : List Str := ["StillError", "NoBook", "NoText", "NoName", "NoThings", "NoWorth", "NoMaker", "TooLong", "NoTable", "NoRow", "NoWay", "Pinned"]
def looseB : List Str := ["Shared", "NoThaw", "NoLog", "NoHouse", "NoPost", "NoFall", "_law_begun", "_law_take", "_law_pick", "_law_all", "_law_kinds", "_law_taken"]
def loose : List Str := looseA ++ looseB
theorem runF (w : World) : HandSHeadRun.RunEq R (PySem.W.view R.prog [26]) hk ob 8000 loose (w.withFollow "special-get-raises" false) := by
  intro os
  kernel_rfl
theorem runT (w : World) : HandSHeadRun.RunEq R (PySem.W.view R.prog [26]) hk ob 8000 loose (w.withFollow "special-get-raises" true) := by
  intro os
  kernel_rfl
theorem run (w : World) : HandSHeadRun.RunEq R (PySem.W.view R.prog [26]) hk ob 8000 loose w := PySem.W.byRow2 "special-get-raises" runF runT w
end K10
set_option Elab.async false
set_option linter.all false
set_option maxRecDepth 100000
set_option maxHeartbeats 4000000
namespace K10
open PySem PySem.Spec PyProof.Rows L2 Evl LK

theorem kb_NoBook {K : PySem.W.Frag} {f : Addr} {fd : FuncData} (F : FunD K "__init__" "NoBook.__init__" (defArgs sI_NoBook) (defBody sI_NoBook) (defScope sI_NoBook) [] [] f fd) : KBn K fd ["self", "at"] 1 ["at"] (fun us ws => us ++ ws) (fun vs zs => vs ++ zs) := by
  obtain ⟨oc, od, dV, kV, doc, pm, an, cdv, ct, osl, rfl, lk, hcd, hD, hK⟩ := F.ex
  rcases hD with ⟨_, rfl⟩ | ⟨e, _⟩
  · exact ⟨fun s us ws _ h1 h2 => match us, ws, h1, h2 with | [_], [_], _, _ => .of_eq rfl, fun r1 r2 => Vals.append r1 r2⟩
  · exact absurd rfl e
theorem kb_NoText {K : PySem.W.Frag} {f : Addr} {fd : FuncData} (F : FunD K "__init__" "NoText.__init__" (defArgs sI_NoText) (defBody sI_NoText) (defScope sI_NoText) [] [] f fd) : KBn K fd ["self", "row"] 1 ["row"] (fun us ws => us ++ ws) (fun vs zs => vs ++ zs) := by
  obtain ⟨oc, od, dV, kV, doc, pm, an, cdv, ct, osl, rfl, lk, hcd, hD, hK⟩ := F.ex
  rcases hD with ⟨_, rfl⟩ | ⟨e, _⟩
  · exact ⟨fun s us ws _ h1 h2 => match us, ws, h1, h2 with | [_], [_], _, _ => .of_eq rfl, fun r1 r2 => Vals.append r1 r2⟩
  · exact absurd rfl e
theorem kb_NoName {K : PySem.W.Frag} {f : Addr} {fd : FuncData} (F : FunD K "__init__" "NoName.__init__" (defArgs sI_NoName) (defBody sI_NoName) (defScope sI_NoName) [] [] f fd) : KBn K fd ["self", "name"] 1 ["name"] (fun us ws => us ++ ws) (fun vs zs => vs ++ zs) := by
  obtain ⟨oc, od, dV, kV, doc, pm, an, cdv, ct, osl, rfl, lk, hcd, hD, hK⟩ := F.ex
  rcases hD with ⟨_, rfl⟩ | ⟨e, _⟩
  · exact ⟨fun s us ws _ h1 h2 => match us, ws, h1, h2 with | [_], [_], _, _ => .of_eq rfl, fun r1 r2 => Vals.append r1 r2⟩
  · exact absurd rfl e
theorem kb_NoTable {K : PySem.W.Frag} {f : Addr} {fd : FuncData} (F : FunD K "__init__" "NoTable.__init__" (defArgs sI_NoTable) (defBody sI_NoTable) (defScope sI_NoTable) [] [] f fd) : KBn K fd ["self", "name"] 1 ["name"] (fun us ws => us ++ ws) (fun vs zs => vs ++ zs) := by
  obtain ⟨oc, od, dV, kV, doc, pm, an, cdv, ct, osl, rfl, lk, hcd, hD, hK⟩ := F.ex
  rcases hD with ⟨_, rfl⟩ | ⟨e, _⟩
  · exact ⟨fun s us ws _ h1 h2 => match us, ws, h1, h2 with | [_], [_], _, _ => .of_eq rfl, fun r1 r2 => Vals.append r1 r2⟩
  · exact absurd rfl e
theorem kb_NoMaker {K : PySem.W.Frag} {f : Addr} {fd : FuncData} (F : FunD K "__init__" "NoMaker.__init__" (defArgs sI_NoMaker) (defBody sI_NoMaker) (defScope sI_NoMaker) [] [] f fd) : KBn K fd ["self", "number"] 1 ["number"] (fun us ws => us ++ ws) (fun vs zs => vs ++ zs) := by
  obtain ⟨oc, od, dV, kV, doc, pm, an, cdv, ct, osl, rfl, lk, hcd, hD, hK⟩ := F.ex
  rcases hD with ⟨_, rfl⟩ | ⟨e, _⟩
  · exact ⟨fun s us ws _ h1 h2 => match us, ws, h1, h2 with | [_], [_], _, _ => .of_eq rfl, fun r1 r2 => Vals.append r1 r2⟩
  · exact absurd rfl e
theorem kb_NoRow {K : PySem.W.Frag} {f : Addr} {fd : FuncData} (F : FunD K "__init__" "NoRow.__init__" (defArgs sI_NoRow) (defBody sI_NoRow) (defScope sI_NoRow) [] [] f fd) : KBn K fd ["self", "number"] 1 ["number"] (fun us ws => us ++ ws) (fun vs zs => vs ++ zs) := by
  obtain ⟨oc, od, dV, kV, doc, pm, an, cdv, ct, osl, rfl, lk, hcd, hD, hK⟩ := F.ex
  rcases hD with ⟨_, rfl⟩ | ⟨e, _⟩
  · exact ⟨fun s us ws _ h1 h2 => match us, ws, h1, h2 with | [_], [_], _, _ => .of_eq rfl, fun r1 r2 => Vals.append r1 r2⟩
  · exact absurd rfl e
theorem kb_Pinned {K : PySem.W.Frag} {f : Addr} {fd : FuncData} (F : FunD K "__init__" "Pinned.__init__" (defArgs sI_Pinned) (defBody sI_Pinned) (defScope sI_Pinned) [] [] f fd) : KBn K fd ["self", "number"] 1 ["number"] (fun us ws => us ++ ws) (fun vs zs => vs ++ zs) := by
  obtain ⟨oc, od, dV, kV, doc, pm, an, cdv, ct, osl, rfl, lk, hcd, hD, hK⟩ := F.ex
  rcases hD with ⟨_, rfl⟩ | ⟨e, _⟩
  · exact ⟨fun s us ws _ h1 h2 => match us, ws, h1, h2 with | [_], [_], _, _ => .of_eq rfl, fun r1 r2 => Vals.append r1 r2⟩
  · exact absurd rfl e
theorem kb_Shared {K : PySem.W.Frag} {f : Addr} {fd : FuncData} (F : FunD K "__init__" "Shared.__init__" (defArgs sI_Shared) (defBody sI_Shared) (defScope sI_Shared) [] [] f fd) : KBn K fd ["self", "number"] 1 ["number"] (fun us ws => us ++ ws) (fun vs zs => vs ++ zs) := by
  obtain ⟨oc, od, dV, kV, doc, pm, an, cdv, ct, osl, rfl, lk, hcd, hD, hK⟩ := F.ex
  rcases hD with ⟨_, rfl⟩ | ⟨e, _⟩
  · exact ⟨fun s us ws _ h1 h2 => match us, ws, h1, h2 with | [_], [_], _, _ => .of_eq rfl, fun r1 r2 => Vals.append r1 r2⟩
  · exact absurd rfl e
theorem kb_NoHouse {K : PySem.W.Frag} {f : Addr} {fd : FuncData} (F : FunD K "__init__" "NoHouse.__init__" (defArgs sI_NoHouse) (defBody sI_NoHouse) (defScope sI_NoHouse) [] [] f fd) : KBn K fd ["self", "number"] 1 ["number"] (fun us ws => us ++ ws) (fun vs zs => vs ++ zs) := by
  obtain ⟨oc, od, dV, kV, doc, pm, an, cdv, ct, osl, rfl, lk, hcd, hD, hK⟩ := F.ex
  rcases hD with ⟨_, rfl⟩ | ⟨e, _⟩
  · exact ⟨fun s us ws _ h1 h2 => match us, ws, h1, h2 with | [_], [_], _, _ => .of_eq rfl, fun r1 r2 => Vals.append r1 r2⟩
  · exact absurd rfl e
theorem kb_NoThaw {K : PySem.W.Frag} {f : Addr} {fd : FuncData} (F : FunD K "__init__" "NoThaw.__init__" (defArgs sI_NoThaw) (defBody sI_NoThaw) (defScope sI_NoThaw) [] [] f fd) : KBn K fd ["self", "at"] 1 ["at"] (fun us ws => us ++ ws) (fun vs zs => vs ++ zs) := by
  obtain ⟨oc, od, dV, kV, doc, pm, an, cdv, ct, osl, rfl, lk, hcd, hD, hK⟩ := F.ex
  rcases hD with ⟨_, rfl⟩ | ⟨e, _⟩
  · exact ⟨fun s us ws _ h1 h2 => match us, ws, h1, h2 with | [_], [_], _, _ => .of_eq rfl, fun r1 r2 => Vals.append r1 r2⟩
  · exact absurd rfl e
theorem kb_NoLog {K : PySem.W.Frag} {f : Addr} {fd : FuncData} (F : FunD K "__init__" "NoLog.__init__" (defArgs sI_NoLog) (defBody sI_NoLog) (defScope sI_NoLog) [] [] f fd) : KBn K fd ["self", "at"] 1 ["at"] (fun us ws => us ++ ws) (fun vs zs => vs ++ zs) := by
  obtain ⟨oc, od, dV, kV, doc, pm, an, cdv, ct, osl, rfl, lk, hcd, hD, hK⟩ := F.ex
  rcases hD with ⟨_, rfl⟩ | ⟨e, _⟩
  · exact ⟨fun s us ws _ h1 h2 => match us, ws, h1, h2 with | [_], [_], _, _ => .of_eq rfl, fun r1 r2 => Vals.append r1 r2⟩
  · exact absurd rfl e
theorem kb_TooLong {K : PySem.W.Frag} {f : Addr} {fd : FuncData} (F : FunD K "__init__" "TooLong.__init__" (defArgs sI_TooLong) (defBody sI_TooLong) (defScope sI_TooLong) [] [] f fd) : KBn K fd ["self", "most"] 1 ["most"] (fun us ws => us ++ ws) (fun vs zs => vs ++ zs) := by
  obtain ⟨oc, od, dV, kV, doc, pm, an, cdv, ct, osl, rfl, lk, hcd, hD, hK⟩ := F.ex
  rcases hD with ⟨_, rfl⟩ | ⟨e, _⟩
  · exact ⟨fun s us ws _ h1 h2 => match us, ws, h1, h2 with | [_], [_], _, _ => .of_eq rfl, fun r1 r2 => Vals.append r1 r2⟩
  · exact absurd rfl e
theorem kb_NoPost {K : PySem.W.Frag} {f : Addr} {fd : FuncData} (F : FunD K "__init__" "NoPost.__init__" (defArgs sI_NoPost) (defBody sI_NoPost) (defScope sI_NoPost) [] [] f fd) : KBn K fd ["self", "house"] 1 ["house"] (fun us ws => us ++ ws) (fun vs zs => vs ++ zs) := by
  obtain ⟨oc, od, dV, kV, doc, pm, an, cdv, ct, osl, rfl, lk, hcd, hD, hK⟩ := F.ex
  rcases hD with ⟨_, rfl⟩ | ⟨e, _⟩
  · exact ⟨fun s us ws _ h1 h2 => match us, ws, h1, h2 with | [_], [_], _, _ => .of_eq rfl, fun r1 r2 => Vals.append r1 r2⟩
  · exact absurd rfl e
theorem facts {P : Program} {w : World} {K : PySem.W.Frag} {h : Heap} {mg : Str → Option Value} {f : Addr} (X : K.In h) (G : h.Ns mainGlobals mg) (hfa : mg ("law" : Str) = some (.ref f)) (c : He.SaysX fa fn ts [] ex w h K) :
    ∃ fd : FuncData, (∀ (s : Shared) (v : Value), BindsTo s fd ⟨[v], []⟩ [("script", v)]) ∧ ∀ base : Heap, K.In base → base.Ns mainGlobals mg → FnG P w K mg base 4 f fd ["script"] (spLaw K) := by
  have cd := c.t.d
  obtain ⟨vBg, FBg⟩ := cd.def_ 0 (d := dOf "_law_begun" s_law_begun) rfl
  obtain ⟨vTa, FTa⟩ := cd.def_ 1 (d := dOf "_law_take" s_law_take) rfl
  obtain ⟨vPk, FPk⟩ := cd.def_ 2 (d := dOf "_law_pick" s_law_pick) rfl
  obtain ⟨vAl, FAl⟩ := cd.def_ 3 (d := dOf "_law_all" s_law_all) rfl
  obtain ⟨vKi, FKi⟩ := cd.def_ 4 (d := dOf "_law_kinds" s_law_kinds) rfl
  obtain ⟨vTn, FTn⟩ := cd.def_ 5 (d := dOf "_law_taken" s_law_taken) rfl
  obtain ⟨vLa, FLa⟩ := cd.def_ 6 (d := dOf "law" s_law) rfl
  obtain ⟨d0, F0⟩ := cd.def_ 7 (d := dIn "NoBook" "__init__" "NoBook.__init__" sI_NoBook) rfl
  obtain ⟨d1, F1⟩ := cd.def_ 8 (d := dIn "NoText" "__init__" "NoText.__init__" sI_NoText) rfl
  obtain ⟨d2, F2⟩ := cd.def_ 9 (d := dIn "NoName" "__init__" "NoName.__init__" sI_NoName) rfl
  obtain ⟨d3, F3⟩ := cd.def_ 10 (d := dIn "NoTable" "__init__" "NoTable.__init__" sI_NoTable) rfl
  obtain ⟨d4, F4⟩ := cd.def_ 11 (d := dIn "NoMaker" "__init__" "NoMaker.__init__" sI_NoMaker) rfl
  obtain ⟨d5, F5⟩ := cd.def_ 12 (d := dIn "NoRow" "__init__" "NoRow.__init__" sI_NoRow) rfl
  obtain ⟨d6, F6⟩ := cd.def_ 13 (d := dIn "Pinned" "__init__" "Pinned.__init__" sI_Pinned) rfl
  obtain ⟨d7, F7⟩ := cd.def_ 14 (d := dIn "Shared" "__init__" "Shared.__init__" sI_Shared) rfl
  obtain ⟨d8, F8⟩ := cd.def_ 15 (d := dIn "NoHouse" "__init__" "NoHouse.__init__" sI_NoHouse) rfl
  obtain ⟨d9, F9⟩ := cd.def_ 16 (d := dIn "NoThaw" "__init__" "NoThaw.__init__" sI_NoThaw) rfl
  obtain ⟨d10, F10⟩ := cd.def_ 17 (d := dIn "NoLog" "__init__" "NoLog.__init__" sI_NoLog) rfl
  obtain ⟨d11, F11⟩ := cd.def_ 18 (d := dIn "TooLong" "__init__" "TooLong.__init__" sI_TooLong) rfl
  obtain ⟨d12, F12⟩ := cd.def_ 19 (d := dIn "NoPost" "__init__" "NoPost.__init__" sI_NoPost) rfl
  have gl : ∀ (i : Nat) (x : Str), fa[i]? = some (.glo x) → mg x = some (.ref (He.ga K x)) := fun i x e => He.glo_ok X G (cd.fact i e)
  have fr : ∀ (i : Nat) (x : Str), fa[i]? = some (.free x) → mg x = none := fun i x e => He.free_ok X G (cd.fact i e)
  have gBg := gl 0 "_law_begun" rfl
  have gTa := gl 1 "_law_take" rfl
  have gPk := gl 2 "_law_pick" rfl
  have gAl := gl 3 "_law_all" rfl
  have gKi := gl 4 "_law_kinds" rfl
  have gTn := gl 5 "_law_taken" rfl
  have gLa := gl 6 "law" rfl
  have gNoBook := gl 7 "NoBook" rfl
  have gNoText := gl 8 "NoText" rfl
  have gNoName := gl 9 "NoName" rfl
  have gNoTable := gl 10 "NoTable" rfl
  have gNoMaker := gl 11 "NoMaker" rfl
  have gNoRow := gl 12 "NoRow" rfl
  have gPinned := gl 13 "Pinned" rfl
  have gShared := gl 14 "Shared" rfl
  have gNoHouse := gl 15 "NoHouse" rfl
  have gNoThaw := gl 16 "NoThaw" rfl
  have gNoLog := gl 17 "NoLog" rfl
  have gTooLong := gl 18 "TooLong" rfl
  have gNoPost := gl 19 "NoPost" rfl
  have gNoThings := gl 20 "NoThings" rfl
  have gNoWorth := gl 21 "NoWorth" rfl
  have gNoWay := gl 22 "NoWay" rfl
  have gNoFall := gl 23 "NoFall" rfl
  have gStillError := gl 24 "StillError" rfl
  have r_isinstance := fr 25 "isinstance" rfl
  have r_range := fr 26 "range" rfl
  have r_enumerate := fr 27 "enumerate" rfl
  have r_repr := fr 28 "repr" rfl
  have r_len := fr 29 "len" rfl
  have r_ValueError := fr 30 "ValueError" rfl
  have e := hfa.symm.trans gLa
  cases e
  have b := FunD.bindsA (ps := ["script"]) FLa fun _ _ _ _ _ _ us hl => match us, hl with | [_], _ => rfl
  obtain ⟨exT, exR⟩ := Bool.and_eq_true_iff.mp c.more
  obtain ⟨exO, exS⟩ := Bool.and_eq_true_iff.mp exR
  have row : ∀ i, i < 17 → rowK K (He.ga K "StillError") (cs K i) i = true := fun i hi => List.all_eq_true.mp exT i (List.mem_range.mpr hi)
  have rx : ∀ i, i < 17 → ExK K (cs K i) ∧ PySem.W.typeIn K (.ref (cs K i)) = some (.type "type") := fun i hi => exB_ok (Bool.and_eq_true_iff.mp (Bool.and_eq_true_iff.mp (row i hi)).1).1
  have rv : ∀ i, i < 17 → PySem.W.kitOne K (.ref (cs K i)) (.type "ValueError") = some true := fun i hi => of_decide_eq_true (Bool.and_eq_true_iff.mp (Bool.and_eq_true_iff.mp (row i hi)).1).2
  have rs : ∀ i, i < 17 → PySem.W.kitOne K (.ref (cs K i)) (.ref (He.ga K "StillError")) = some true := fun i hi => of_decide_eq_true (Bool.and_eq_true_iff.mp (Bool.and_eq_true_iff.mp (Bool.and_eq_true_iff.mp (row i hi)).2).1).1
  have rm : ∀ i, i < 17 → PySem.W.exmOne K (.ref (cs K i)) (.ref (He.ga K "StillError")) = some true := fun i hi => of_decide_eq_true (Bool.and_eq_true_iff.mp (Bool.and_eq_true_iff.mp (Bool.and_eq_true_iff.mp (row i hi)).2).1).2
  have rk : ∀ i j, i < 17 → j < 17 → PySem.W.kitOne K (.ref (cs K i)) (.ref (cs K j)) = some (decide (i = j)) := fun i j hi hj => of_decide_eq_true (List.all_eq_true.mp (Bool.and_eq_true_iff.mp (Bool.and_eq_true_iff.mp (row i hi)).2).2 j (List.mem_range.mpr hj))
  have ro : ∀ i, i < 13 → OexC K (cs K i) ∧ XfC K (cs K i) := fun i hi => ⟨oexB_ok (Bool.and_eq_true_iff.mp (List.all_eq_true.mp exO i (List.mem_range.mpr hi))).1, xfB_ok (Bool.and_eq_true_iff.mp (List.all_eq_true.mp exO i (List.mem_range.mpr hi))).2⟩
  have Ts : TSe K mg (He.ga K "StillError") := seB_ok exS gStillError
  have Tc : TCs K mg (He.ga K "StillError") (cs K) := ⟨gNoBook, gNoText, gNoName, gNoTable, gNoMaker, gNoRow, gPinned, gShared, gNoHouse, gNoThaw, gNoLog, gTooLong, gNoPost, gNoThings, gNoWorth, gNoWay, gNoFall, fun i hi => (rx i hi).1, rk, rv, rs⟩
  have Tt : TTk K (He.ga K "StillError") (cs K) := ⟨rm, fun j hj => (rx j hj).2⟩
  have M0 := He.meth_ok (cd.fact 31 (f := .meth "NoBook" "__init__") rfl)
  have bi0 : Binds K d0 ["self", "at"] [] := F0.bindsN fun _ _ _ _ _ _ us hl => match us, hl with | [_, _], _ => rfl
  have M1 := He.meth_ok (cd.fact 32 (f := .meth "NoText" "__init__") rfl)
  have bi1 : Binds K d1 ["self", "row"] [] := F1.bindsN fun _ _ _ _ _ _ us hl => match us, hl with | [_, _], _ => rfl
  have M2 := He.meth_ok (cd.fact 33 (f := .meth "NoName" "__init__") rfl)
  have bi2 : Binds K d2 ["self", "name"] [] := F2.bindsN fun _ _ _ _ _ _ us hl => match us, hl with | [_, _], _ => rfl
  have M3 := He.meth_ok (cd.fact 34 (f := .meth "NoTable" "__init__") rfl)
  have bi3 : Binds K d3 ["self", "name"] [] := F3.bindsN fun _ _ _ _ _ _ us hl => match us, hl with | [_, _], _ => rfl
  have M4 := He.meth_ok (cd.fact 35 (f := .meth "NoMaker" "__init__") rfl)
  have bi4 : Binds K d4 ["self", "number"] [] := F4.bindsN fun _ _ _ _ _ _ us hl => match us, hl with | [_, _], _ => rfl
  have M5 := He.meth_ok (cd.fact 36 (f := .meth "NoRow" "__init__") rfl)
  have bi5 : Binds K d5 ["self", "number"] [] := F5.bindsN fun _ _ _ _ _ _ us hl => match us, hl with | [_, _], _ => rfl
  have M6 := He.meth_ok (cd.fact 37 (f := .meth "Pinned" "__init__") rfl)
  have bi6 : Binds K d6 ["self", "number"] [] := F6.bindsN fun _ _ _ _ _ _ us hl => match us, hl with | [_, _], _ => rfl
  have M7 := He.meth_ok (cd.fact 38 (f := .meth "Shared" "__init__") rfl)
  have bi7 : Binds K d7 ["self", "number"] [] := F7.bindsN fun _ _ _ _ _ _ us hl => match us, hl with | [_, _], _ => rfl
  have M8 := He.meth_ok (cd.fact 39 (f := .meth "NoHouse" "__init__") rfl)
  have bi8 : Binds K d8 ["self", "number"] [] := F8.bindsN fun _ _ _ _ _ _ us hl => match us, hl with | [_, _], _ => rfl
  have M9 := He.meth_ok (cd.fact 40 (f := .meth "NoThaw" "__init__") rfl)
  have bi9 : Binds K d9 ["self", "at"] [] := F9.bindsN fun _ _ _ _ _ _ us hl => match us, hl with | [_, _], _ => rfl
  have M10 := He.meth_ok (cd.fact 41 (f := .meth "NoLog" "__init__") rfl)
  have bi10 : Binds K d10 ["self", "at"] [] := F10.bindsN fun _ _ _ _ _ _ us hl => match us, hl with | [_, _], _ => rfl
  have M11 := He.meth_ok (cd.fact 42 (f := .meth "TooLong" "__init__") rfl)
  have bi11 : Binds K d11 ["self", "most"] [] := F11.bindsN fun _ _ _ _ _ _ us hl => match us, hl with | [_, _], _ => rfl
  have M12 := He.meth_ok (cd.fact 43 (f := .meth "NoPost" "__init__") rfl)
  have bi12 : Binds K d12 ["self", "house"] [] := F12.bindsN fun _ _ _ _ _ _ us hl => match us, hl with | [_, _], _ => rfl
  have E13 := He.exc_ok (cd.fact 57 (f := .exc "NoThings") rfl)
  have E14 := He.exc_ok (cd.fact 58 (f := .exc "NoWorth") rfl)
  have E15 := He.exc_ok (cd.fact 59 (f := .exc "NoWay") rfl)
  have E16 := He.exc_ok (cd.fact 60 (f := .exc "NoFall") rfl)
  refine ⟨vLa, fun s v => b s [v] rfl, fun base _ _ => ?_⟩
  let fI : Nat → Addr := fun j => He.ma K (cs K j) "__init__"
  let fdI : Nat → FuncData := fun j => match j with | 0 => d0 | 1 => d1 | 2 => d2 | 3 => d3 | 4 => d4 | 5 => d5 | 6 => d6 | 7 => d7 | 8 => d8 | 9 => d9 | 10 => d10 | 11 => d11 | _ => d12
  have X0 : ExM P w K mg base (cs K 0) (fI 0) (fdI 0) "at" := ⟨(ro 0 (by decide)).1, M0.at_, beq_iff_eq.mp M0.fn, okI_NoBook F0 Ts, bi0, kb_NoBook F0, He.noat_ok (cd.fact 44 (f := .noat "NoBook" "at") rfl), (ro 0 (by decide)).2⟩
  have X1 : ExM P w K mg base (cs K 1) (fI 1) (fdI 1) "row" := ⟨(ro 1 (by decide)).1, M1.at_, beq_iff_eq.mp M1.fn, okI_NoText F1 Ts, bi1, kb_NoText F1, He.noat_ok (cd.fact 45 (f := .noat "NoText" "row") rfl), (ro 1 (by decide)).2⟩
  have X2 : ExM P w K mg base (cs K 2) (fI 2) (fdI 2) "name" := ⟨(ro 2 (by decide)).1, M2.at_, beq_iff_eq.mp M2.fn, okI_NoName F2 Ts, bi2, kb_NoName F2, He.noat_ok (cd.fact 46 (f := .noat "NoName" "name") rfl), (ro 2 (by decide)).2⟩
  have X3 : ExM P w K mg base (cs K 3) (fI 3) (fdI 3) "name" := ⟨(ro 3 (by decide)).1, M3.at_, beq_iff_eq.mp M3.fn, okI_NoTable F3 Ts, bi3, kb_NoTable F3, He.noat_ok (cd.fact 47 (f := .noat "NoTable" "name") rfl), (ro 3 (by decide)).2⟩
  have X4 : ExM P w K mg base (cs K 4) (fI 4) (fdI 4) "number" := ⟨(ro 4 (by decide)).1, M4.at_, beq_iff_eq.mp M4.fn, okI_NoMaker F4 Ts, bi4, kb_NoMaker F4, He.noat_ok (cd.fact 48 (f := .noat "NoMaker" "number") rfl), (ro 4 (by decide)).2⟩
  have X5 : ExM P w K mg base (cs K 5) (fI 5) (fdI 5) "number" := ⟨(ro 5 (by decide)).1, M5.at_, beq_iff_eq.mp M5.fn, okI_NoRow F5 Ts, bi5, kb_NoRow F5, He.noat_ok (cd.fact 49 (f := .noat "NoRow" "number") rfl), (ro 5 (by decide)).2⟩
  have X6 : ExM P w K mg base (cs K 6) (fI 6) (fdI 6) "number" := ⟨(ro 6 (by decide)).1, M6.at_, beq_iff_eq.mp M6.fn, okI_Pinned F6 Ts, bi6, kb_Pinned F6, He.noat_ok (cd.fact 50 (f := .noat "Pinned" "number") rfl), (ro 6 (by decide)).2⟩
  have X7 : ExM P w K mg base (cs K 7) (fI 7) (fdI 7) "number" := ⟨(ro 7 (by decide)).1, M7.at_, beq_iff_eq.mp M7.fn, okI_Shared F7 Ts, bi7, kb_Shared F7, He.noat_ok (cd.fact 51 (f := .noat "Shared" "number") rfl), (ro 7 (by decide)).2⟩
  have X8 : ExM P w K mg base (cs K 8) (fI 8) (fdI 8) "number" := ⟨(ro 8 (by decide)).1, M8.at_, beq_iff_eq.mp M8.fn, okI_NoHouse F8 Ts, bi8, kb_NoHouse F8, He.noat_ok (cd.fact 52 (f := .noat "NoHouse" "number") rfl), (ro 8 (by decide)).2⟩
  have X9 : ExM P w K mg base (cs K 9) (fI 9) (fdI 9) "at" := ⟨(ro 9 (by decide)).1, M9.at_, beq_iff_eq.mp M9.fn, okI_NoThaw F9 Ts, bi9, kb_NoThaw F9, He.noat_ok (cd.fact 53 (f := .noat "NoThaw" "at") rfl), (ro 9 (by decide)).2⟩
  have X10 : ExM P w K mg base (cs K 10) (fI 10) (fdI 10) "at" := ⟨(ro 10 (by decide)).1, M10.at_, beq_iff_eq.mp M10.fn, okI_NoLog F10 Ts, bi10, kb_NoLog F10, He.noat_ok (cd.fact 54 (f := .noat "NoLog" "at") rfl), (ro 10 (by decide)).2⟩
  have X11 : ExM P w K mg base (cs K 11) (fI 11) (fdI 11) "most" := ⟨(ro 11 (by decide)).1, M11.at_, beq_iff_eq.mp M11.fn, okI_TooLong F11 Ts, bi11, kb_TooLong F11, He.noat_ok (cd.fact 55 (f := .noat "TooLong" "most") rfl), (ro 11 (by decide)).2⟩
  have X12 : ExM P w K mg base (cs K 12) (fI 12) (fdI 12) "house" := ⟨(ro 12 (by decide)).1, M12.at_, beq_iff_eq.mp M12.fn, okI_NoPost F12 Ts, bi12, kb_NoPost F12, He.noat_ok (cd.fact 56 (f := .noat "NoPost" "house") rfl), (ro 12 (by decide)).2⟩
  have Ta : TAl P w K mg base (He.ga K "StillError") (cs K) fI fdI := ⟨Tc, X0, X1, X2, X3, X4, X5, X6, X7, X8, X9, X10, X11, X12, ⟨E13.1, E13.2.1⟩, ⟨E14.1, E14.2.1⟩, ⟨E15.1, E15.2.1⟩, ⟨E16.1, E16.2.1⟩⟩
  exact ok_law FLa FBg FTa FPk FAl FKi FTn ⟨gBg, gTa, gPk, gAl, gKi, gTn, r_range, r_enumerate, r_repr, r_isinstance, r_len, r_ValueError⟩ Ta Tt gStillError
end K10
open PySem PySem.W PySem.Calls PyProof.Rows
theorem PySem.Challenge.cw_frozenmakers_k10_refusals_apart_holds : PySem.Challenge.rw_frozenmakers_k10_refusals_apart.Holds := by
  w_on; o_law
  refine HandSHeadRun.head_any (r := OpenLaw.row PySem.Challenge.rw_frozenmakers_k10_refusals_apart) (q := view (OpenLaw.row PySem.Challenge.rw_frozenmakers_k10_refusals_apart).prog [26]) (H := K10.hk) (ob := K10.ob) (M := 8000) (loose := K10.loose) (d := HandSHeadRun.topDef (OpenLaw.row PySem.Challenge.rw_frozenmakers_k10_refusals_apart).prog 26) (kwd := []) K10.ob_eq
    (by kernel_rfl) (fun s => by kernel_rfl) K10.run (by kernel_rfl) (by kernel_rfl) (by kernel_rfl) (by rfl) (by first | assumption | decide +kernel) (by decide +kernel) ⟨rfl, rfl, rfl, rfl, rfl, by decide +kernel⟩ ?hw ?hc
  case hw => w_witness2
  case hc =>
    refine LK.walkG (l := PySem.Challenge.rw_frozenmakers_k10_refusals_apart) (n := 63) (k := 4) (x := "script") rfl (by decide) (by kernel_rfl) ⟨rfl, by decide, by decide⟩ ?F
    intro w mg fa h Y G hmg0
    obtain ⟨K, KX, c⟩ := Y
    have hmg : mg ("law" : PySem.Str) = some (.ref fa) := by
      have e : (HandSHeadRun.topDef (OpenLaw.row PySem.Challenge.rw_frozenmakers_k10_refusals_apart).prog 26).name = ("law" : PySem.Str) := by kernel_rfl
      rw [← e]
      exact hmg0
    obtain ⟨fd, hb, hF⟩ := K10.facts (P := (PySem.Challenge.rw_frozenmakers_k10_refusals_apart).prog) (w := w) KX G hmg c
    exact ⟨K, fd, K10.spLaw K, KX, hb, fun H a ns hl _ hS => ⟨a, ns, rfl, hS, hl, fun _ => rfl⟩, hF⟩
