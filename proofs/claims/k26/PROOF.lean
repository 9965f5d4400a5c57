import PyProof.Rows.All
import Wide.All
import OpenK.AllK
import Wide.FinOn
import KE.KStateDown
import HandS.Base
import HandS.Call
import HandS.List
import HandS.Comp
import HandS.Ends
import HandS.Words
import HandS.Dict
import HandS.Iter
import HandS.Text
import HandS.StrMore
import HandS.Defaults
import HandS.Head0
import HandS.Head1
import HandS.Head2
import HandS.HeadHook1
import HandS.HeadHook2
import HandS.Evl
import HandS.ForMost
import HandS.Walk
import HandS.IsInst
import HandS.HeadEnd
import HandS.HeadHook3
import HandS.HeadHook4
import HandS.DictComp
import KE.KEqDict
import HandS.DictTup
import HandS.SortInts
import HandS.ListItems
import HandS.Star
import HandS.More
import KE.KDictItemsList
import HandS.Zip
import HandS.Strs
import PyProof.TypeEq
import HandS.OwnEq
import HandS.FStrTup
import KE.KxText
import KE.KxStill
import KE.KIntText
import HandS.MakeKwOnly
import HandS.Conv
import HandS.Finally
import HandS.TupAny
import HandS.Style
import PySem.Challenge.RW_frozenmakers_k26_tables_told
set_option Elab.async false
set_option linter.all false
set_option maxRecDepth 100000
set_option maxHeartbeats 2000000
/-! LK: what the laws of this program want besides: a def that is entered where no repr is under way, repr of data, a call by keywords alone, type(x). -/
namespace LK
open PySem PySem.Spec PyProof.Rows L2

/-- a promise that is kept where no repr is under way -/
structure FnG (P : Program) (w : World) (K : PySem.W.Frag) (mg : Str → Option Value) (base : Heap) (k : Nat) (f : Addr) (fd : FuncData) (ps : List Str) (sp : Sp) : Prop where
  len : ∀ vs H Q E, sp vs H Q E → vs.length = ps.length
  go : ∀ A outer s H args us vs Q E, A.guards = some [] → Room k A → Env0 P w K mg base A outer s H → BindsTo s fd args (ps.zip us) → Vals vs us →
    sp vs H Q E → codeAny (model P w) A (.call (.ref f) args) (CR CX0 outer P w H s Q E) s

theorem FnG.of {P : Program} {w : World} {K : PySem.W.Frag} {mg : Str → Option Value} {base : Heap} {k : Nat} {f : Addr} {fd : FuncData}
    {x qual : Str} {params : Arguments} {body : List Stmt} {scope : Scope} {dvs : List V} {kws : List (Str × V)} {N ps : List Str} {sp : Sp}
    (F : FunD K x qual params body scope dvs kws f fd) (S : FnScope N ps scope) (len : ∀ vs H Q E, sp vs H Q E → vs.length = ps.length)
    (hb : ∀ cdv A outer s H vs Q E, A.guards = some [] → Room k (A.deeper (envOfC qual scope s.heap.objs.size f cdv)) → sp vs H Q E →
      ∃ t, PSs (cxOf CX0 P w K mg base N qual scope f cdv A outer s H E).nox body t ∧
        t { nx := fun _ H' => Q .non H', rt := Q } (start N vs) H) :
    FnG P w K mg base (k + 1) f fd ps sp := by
  obtain ⟨oc, od, dV, kV, doc, pm, an, cdv, ct, osl, rfl, lk, hcd, _, _⟩ := F.ex
  constructor
  · exact len
  intro A outer s H args us vs Q E hG hR e0 hB hV hP
  have up : ∀ b o, base.get? b = some o → s.heap.get? b = some o := fun b o q => (e0.bs b o q).1
  have kin := e0.mod.kin.keeps up
  have lim := e0.mod.nolimit.keeps up
  refine codeAny_call_function hR.depth (kin _ _ lk) rfl S.co S.gen rfl (PySem.W.codeRec_of kin hcd) (hB _ _ _ _ ?_)
  refine wpAny_newFunctionEnv_cells S.kind ?kinds ?rest
  case kinds =>
    rintro ⟨n, u⟩ hm
    rcases S.par n (List.of_mem_zip hm).1 with q | q
    · left; exact q
    · right; exact ⟨q, PySem.W.cellsFrom_some _ _ _ (.inl q)⟩
  case rest =>
    rintro env rfl s1 hs
    refine ⟨lim.keeps hs.toInCall.keep, codeAny_func ?_⟩
    obtain ⟨t, pt, ht⟩ := hb cdv A outer s H vs Q E hG (hR.deeper _) hP
    have I := inv_start (CX := CX0) (E := E) S hR.hd e0 (len _ _ _ _ hP) hV hs
    have run := pt.nox.run [] s1 (start N vs) H _ I ht
    refine wpAny_mono run ?_ (fun _ _ z => z)
    intro fl s' h
    cases fl with
    | ret u =>
      obtain ⟨v, σ', H', J, rv, q⟩ := h
      exact ⟨v, H', J.os, J.bare, J.base, J.hok, rv, q⟩
    | next =>
      obtain ⟨σ', H', J, q⟩ := h
      exact ⟨.non, H', J.os, J.bare, J.base, J.hok, rfl, q⟩
    | brk => exact h.choose_spec.choose_spec.2.elim
    | cont => exact h.choose_spec.choose_spec.2.elim

/-- every def that keeps its promise anywhere keeps it there -/
theorem FnG.any {P : Program} {w : World} {K : PySem.W.Frag} {mg : Str → Option Value} {base : Heap} {k : Nat} {f : Addr} {fd : FuncData} {ps : List Str} {sp : Sp}
    (F : FnOk P w K mg base CX0 k f fd ps sp) : FnG P w K mg base k f fd ps sp :=
  ⟨F.len, fun A outer s H args us vs Q E _ hr e0 hb hv h => F.run A outer s H args us vs Q E hr e0 hb hv h⟩

section
variable {X : Cx} {k : Nat} {f : Addr} {fd : FuncData} {ps : List Str} {sp : Sp} {x : Str} {p pos : Pos} {e : Expr} {es : List Expr} {t : TA}
/-- a call of such a def -/
theorem pe_callG (F : FnG X.prog X.w X.K X.mg X.base k f fd ps sp) (hG : X.A.guards = some []) (hr : Room k X.A) (hg : Gl X x)
    (hm : X.mg x = some (.ref f)) (hk : PySem.W.keepIn X.K (.ref f) = true) (hb : Binds X.K fd ps []) (ha : PA X (e :: es) t)
    (hdb : (x == ("__debug__" : Str)) = false := by decide)
    (he : starEach (e :: es) X.env = (false, eval e X.env) :: starEach es X.env := by rfl)
    (hpl : (backTo pos (starEach es X.env)).any (·.1) = false := by rfl) :
    PE X (.Call (.Name x p) (e :: es) [] pos) (tCall sp [] E0 t) := by
  constructor
  intro pins s σ H Q I h
  refine wpAny_Call_Name_kw (ld_glob I hg hm ?_ hdb)
  refine PySem.W.callWith_K (h₀ := X.base) I.ok.mod.kin hk (thn (ha.run pos pins s σ H _ I h) ?_) he hpl
  rintro us s1 ⟨vs, H1, I1, r, q⟩
  refine ⟨I1.kIn, wpAny_call ?_⟩
  rw [List.append_nil] at q
  have hl : us.length = ps.length := r.length.symm.trans (F.len _ _ _ _ q)
  have hb' := hb s1 us I1.kIn (by rw [List.append_nil]; exact hl)
  rw [List.append_nil] at hb'
  refine codeAny_mono (F.go X.A X.stack s1 H1 ⟨us, []⟩ us vs Q E0 hG hr I1.env0 hb' r q) ?_
  intro res s' hq
  cases res with
  | error e => exact False.elim hq
  | ok fl =>
    cases fl with
    | ret u => exact I1.after hq
    | next => exact False.elim hq
    | brk => exact False.elim hq
    | cont => exact False.elim hq
end

/-! ### a call by keywords alone -/
section
variable {X : Cx} {CX : CXT} {k : Nat} {f : Addr} {fd : FuncData} {ps ks : List Str} {sp : Sp} {E : XK} {x : Str} {p pos : Pos} {kws : List Keyword} {tk : TA}
  {g : List Value → List Value → List Value} {gV : List V → List V → List V}
theorem pe_callK0 (F : FnOk X.prog X.w X.K X.mg X.base CX k f fd ps sp) (hr : Room k X.A) (hg : Gl X x) (hm : X.mg x = some (.ref f))
    (hk : PySem.W.keepIn X.K (.ref f) = true) (hb : KBinds X.K fd ps ks g gV) (hx : Passes CX X E) (hkw : PK X kws tk)
    (hall : (backToKw pos (keywordEach kws X.env)).all (·.1.isSome) = true := by rfl)
    (hks : (backToKw pos (keywordEach kws X.env)).filterMap (·.1) = ks := by rfl)
    (hdb : (x == ("__debug__" : Str)) = false := by decide)
    (hpl : ((backTo pos (starEach [] X.env)).any (·.1) || (backToKw pos (keywordEach kws X.env)).any (·.1.isNone)) = false := by rfl) :
    PE X (.Call (.Name x p) [] kws pos) (tCallK sp gV E tNil tk) := by
  constructor
  intro pins s σ H Q I h
  refine wpAny_Call_Name_kw (ld_glob I hg hm ?_ hdb)
  refine PySem.W.callWith_KW0 (h₀ := X.base) I.ok.mod.kin hk hall ?_ hpl
  refine thn (hkw.run pos pins s σ H _ I h) ?_
  rintro ws s1 ⟨zs, H1, I1, rz, q⟩
  refine ⟨I1.kIn, ?_⟩
  rw [hks]
  exact run_fnk (us := []) (vs := []) F hr hb hx I1 .nil rz q
end
end LK
set_option Elab.async false
set_option linter.all false
set_option maxRecDepth 100000
set_option maxHeartbeats 2000000
namespace LK
open PySem PySem.Spec PyProof.Rows L2

/-! ### the law's own call -/
section
variable {P : Program} {w : World} {K : PySem.W.Frag} {mg mb : Str → Option Value} {k : Nat} {fa a : Addr} {fd : FuncData} {x : Str} {sp : Sp} {s : Shared} {vs : List Value} {ns : List Int}
/-- from a heap H of which only the script may be told -/
theorem law_at {H : Hp} (kin : K.In s.heap) (gl : s.heap.Ns mainGlobals mg) (bl : s.heap.Ns builtinsNs mb) (bb : ∀ x : Str, x ≠ "__name__" → mb x = bootBuiltins x)
    (nl : s.heap.NoLimit) (gs : s.gens = #[]) (sa : s.heap.get? a = some { cls := .type "list", data := .seq vs.toArray }) (room : Room k callerA)
    (F : ∀ base : Heap, K.In base → base.Ns mainGlobals mg → FnG P w K mg base k fa fd [x] sp) (hb : ∀ (s : Shared) (u : Value), BindsTo s fd ⟨[u], []⟩ [(x, u)])
    (only : Only H) (just : ∀ b, H b ≠ none → b = a) (out : H a ≠ none → K.lookup a = none) (ok : HOk P w H s.heap)
    (hsp : sp [.ref a] H (fun v _ => v = .bl true) E0) :
    codeAny (model P w) callerA (.call (.ref fa) ⟨[.ref a], []⟩) (fun r s' => r = .ok (.ret (.bool true)) ∧ PySem.OldK s.heap s'.heap ∧ s'.os = s.os ∧ AllBare s'.gens) s := by
  have seen : ∀ {b : Addr} {o : Obj}, s.heap.get? b = some o → H b = none → (hidT s.heap H).get? b = some o := fun e n => hidT_get e n
  have bare : ∀ {b : Addr}, b ≠ a → H b = none := by
    intro b hne
    cases q : H b with
    | none => rfl
    | some u => exact absurd (just b (by rw [q]; exact fun z => nomatch z)) hne
  have nsH : ∀ {b : Addr} {m : Str → Option Value}, s.heap.Ns b m → (hidT s.heap H).Ns b m := by
    rintro b m ⟨o, es, ep, e, d, r⟩
    refine ⟨o, es, ep, seen e (bare ?_), d, r⟩
    rintro rfl
    rw [sa] at e
    cases e
    cases d
  have kinH : K.In (hidT s.heap H) := by
    intro b o e
    refine seen (kin b o e) ?_
    cases q : H b with
    | none => rfl
    | some u =>
      have nn : H b ≠ none := by rw [q]; exact fun z => nomatch z
      obtain rfl := just b nn
      rw [out nn] at e
      cases e
  have M : Mod K mg (hidT s.heap H) := by
    refine ⟨kinH, nsH gl, ⟨mb, nsH bl, bb⟩, ?_⟩
    obtain ⟨mc, l1, l2⟩ := nl
    exact ⟨mc, nsH l1, l2⟩
  have env : Env0 P w K mg (hidT s.heap H) callerA [] s H :=
    { frames := rfl, mod := M, bs := fun b o e => of_hidT e, bsz := Nat.le_of_eq (hidT_size _ _), funs := trivial, frf := fun b hm => absurd hm (by show ¬ b ∈ ([] : List Addr); simp), hok := ok, bare := .of_eq gs }
  refine codeAny_mono ((F _ kinH (nsH gl)).go callerA [] s H ⟨[.ref a], []⟩ [.ref a] [.ref a] _ _ rfl room env (hb s (.ref a)) (.cons rfl .nil) hsp) ?_
  intro r s' h
  cases r with
  | error e => exact False.elim h
  | ok fl =>
    cases fl with
    | next => exact False.elim h
    | brk => exact False.elim h
    | cont => exact False.elim h
    | ret u =>
      obtain ⟨v, H', os, bg, un, ok', rv, q⟩ := h
      have ev : v = .bl true := q
      subst ev
      have eu : u = Value.bool true := rv
      subst eu
      refine ⟨rfl, PySem.OldK.of_keep ?_, os, bg⟩
      intro b o e
      cases hq : H b with
      | none => exact un.keep b o e hq (fun z => absurd z (by show ¬ b ∈ ([] : List Addr); simp)) (by simp)
      | some u =>
        rcases only b with z | ⟨ob, xs, z⟩
        · rw [z] at hq; cases hq
        · have e1 := (ok b _ z).1
          have e2 := (ok' b _ (un.frzs b ob _ z)).1
          rw [e] at e1
          cases e1
          exact e2
theorem lawG (kin : K.In s.heap) (gl : s.heap.Ns mainGlobals mg) (bl : s.heap.Ns builtinsNs mb) (bb : ∀ x : Str, x ≠ "__name__" → mb x = bootBuiltins x)
    (nl : s.heap.NoLimit) (gs : s.gens = #[]) (sa : s.heap.get? a = some { cls := .type "list", data := .seq vs.toArray }) (hi : IntsAre vs ns) (hl : ns.length ≤ sizeLine) (room : Room k callerA)
    (F : ∀ base : Heap, K.In base → base.Ns mainGlobals mg → FnG P w K mg base k fa fd [x] sp) (hb : ∀ (s : Shared) (u : Value), BindsTo s fd ⟨[u], []⟩ [(x, u)])
    (hsp : ∀ H : Hp, Only H → SqL K H a (ns.map V.int) → sp [.ref a] H (fun v _ => v = .bl true) E0) :
    codeAny (model P w) callerA (.call (.ref fa) ⟨[.ref a], []⟩) (fun r s' => r = .ok (.ret (.bool true)) ∧ PySem.OldK s.heap s'.heap ∧ s'.os = s.os ∧ AllBare s'.gens) s := by
  have rv := vals_ints hi
  have hlen := hi.length
  cases hk : K.lookup a with
  | some o =>
    have e := kin a o hk
    rw [sa] at e
    cases e
    have S : SqL K (fun _ => none) a (ns.map V.int) := .inr ⟨_, vs.toArray, _, hk, rfl, rfl, rfl, by rw [List.size_toArray, hlen]; exact hl, by simpa using rv⟩
    have on : Only (fun _ => none) := fun _ => .inl rfl
    exact law_at kin gl bl bb nl gs sa room F hb on (fun b z => absurd rfl z) (fun z => absurd rfl z) (fun b u z => nomatch (show (none : Option HO) = some u from z)) (hsp _ on S)
  | none =>
    let o : HO := .frz { cls := .type "list", data := .seq vs.toArray } (.lst (ns.map V.int))
    let H : Hp := upd (fun _ => none) a o
    have at_a : H a = some o := upd_same
    have at_b : ∀ b, b ≠ a → H b = none := fun b hne => upd_ne hne
    have on : Only H := by
      intro b
      by_cases h : b = a
      · right; rw [h]; exact ⟨_, _, at_a⟩
      · left; exact at_b b h
    have S : SqL K H a (ns.map V.int) := .inl (.inr ⟨_, at_a⟩)
    refine law_at kin gl bl bb nl gs sa room F hb on (fun b z => ?_) (fun _ => hk) (fun b u z => ?_) (hsp _ on S)
    · by_cases h : b = a
      · exact h
      · exact absurd (at_b b h) z
    · by_cases h : b = a
      · subst h
        rw [at_a] at z
        cases z
        exact ⟨sa, by rw [List.length_map]; exact hl, vs, _, rv, sa⟩
      · rw [at_b b h] at z
        cases z
end
/-- the end over a head by facts -/
theorem walkG {l : PySem.W.OpenLaw} {n k : Nat} {q : Program} {loose : List Str} {XP : (Str → Option Value) → Heap → Prop} {YP : World → Heap → Prop} {d : DefRec} {x : Str}
    (hn : l.most = some n) (hn2 : n ≤ sizeLine) (hdf : d.params.defaults = []) (room : Room k callerA)
    (F : ∀ (w : World) (mg : Str → Option Value) (fa : Addr) (h : Heap), YP w h → h.Ns mainGlobals mg → mg d.name = some (.ref fa) →
      ∃ (K : PySem.W.Frag) (fd : FuncData) (sp : Sp), K.In h ∧ (∀ (s : Shared) (u : Value), BindsTo s fd ⟨[u], []⟩ [(x, u)]) ∧
        (∀ (H : Hp) (a : Addr) (ns : List Int), ns.length ≤ n → Only H → SqL K H a (ns.map V.int) → sp [.ref a] H (fun v _ => v = .bl true) E0) ∧
        ∀ base : Heap, K.In base → base.Ns mainGlobals mg → FnG l.prog w K mg base k fa fd [x] sp) :
    PySem.W.WalkO q loose XP YP l.row.toRowW d [] (fun f vs => PySem.call f vs) := by
  refine Att.attach_call hn hdf ?_
  intro w s₀ s₁ mg mb fa o pm cd doc a vs ns G Y ho hd hcd hmg hobj hints hlen hg
  obtain ⟨K, fd, sp, kin, hb, hsp, hF⟩ := F w mg fa _ Y G.T.g hmg
  exact lawG kin G.T.g G.T.b G.T.builtins G.T.nolimit hg hobj hints (Nat.le_trans hlen hn2) room hF hb fun H on S => hsp H a ns hlen on S

/-! ### repr of data -/
section
variable {X : Cx} {pins : List (Addr × Obj)} {σ : L2.St} {H : Hp} {s : Shared}
/-- data as Dp tells it, or a dict of texts and numbers to such -/
def Dq (K : PySem.W.Frag) (H : Hp) (v : V) (d : PyData) : Prop :=
  Dp K H v d ∨ ∃ a kvs ds, v = .ref a ∧ H a = some (.dK kvs) ∧ DpAll K H (kvs.map (·.2)) ds ∧
    d = .dict ((kvs.map fun p => match p.1 with | .inl i => PyData.int i | .inr z => PyData.str z).zip ds)
def keyD : Key → PyData
  | .inl i => .int i
  | .inr z => .str z
def rRepr (K : PySem.W.Frag) : List V → Hp → VK → Prop := fun xs H Q => ∃ x d, xs = [x] ∧ Dp K H x d ∧ d.showable = true ∧ d.depth ≤ 60 ∧ d.shown.length ≤ sizeLine ∧ Q (.str d.shown) H
theorem dp_nodict {K : PySem.W.Frag} {H : Hp} : ∀ (d : PyData) (v : V), Dp K H v d → d.hasDict = false := by
  intro d v h
  exact Dp.rec (motive_1 := fun v d _ => d.hasDict = false) (motive_2 := fun vs ds _ => PyData.hasDictAll ds = false)
    rfl (fun _ => rfl) (fun _ => rfl) (fun _ => rfl)
    (fun _ _ ih => by show PyData.hasDictAll _ = false; exact ih)
    (fun _ _ ih => by show PyData.hasDictAll _ = false; exact ih)
    rfl (fun _ _ i1 i2 => by show (_ || _) = false; rw [i1, i2]; rfl) h
theorem call_repr (hG : X.A.guards = some []) (hu : X.A.units + 64 < cLine) : CallR X (.builtin "repr") (rRepr X.K) := by
  intro pins s σ H xs us Q I r h
  obtain ⟨x, d, rfl, hd, hs, hdep, hsz, q⟩ := h
  obtain ⟨u, rfl, rx⟩ := vals1 r
  have fin : ∀ h' tk t, (∀ b o, s.heap.get? b = some o → h'.get? b = some o) → EP X pins σ Q (.str d.shown t) { s with heap := h', toks := tk } :=
    fun h' tk t kp => ⟨.str d.shown, H, I.kept kp, ⟨t, rfl⟩, q⟩
  have same : ∀ tk t, EP X pins σ Q (.str d.shown t) { s with toks := tk } := fun tk t => fin s.heap tk t fun _ _ z => z
  cases hd with
  | non => cases rx; exact PySem.P.repr_of_none (same _ _)
  | bl b => cases rx; exact PySem.P.repr_of_bool (by
      have e : (PyData.bool b).shown = (if b then "True" else "False" : Str) := rfl
      cases b <;> exact same _ _)
  | int i =>
    obtain ⟨t, rfl⟩ := rx
    have hi : i.natAbs.log2 < 1920 := of_decide_eq_true hs
    exact PySem.P.repr_of_int hi (same _ _)
  | str z =>
    obtain ⟨t, rfl⟩ := rx
    exact PySem.P.repr_of_str (same _ _) hsz
  | lst hl ha =>
    cases rx
    obtain ⟨as, rd⟩ := Dp.reads I _ _ _ (.lst hl ha) rfl
    exact repr_of_reads' rd hs (PyData.noDict_hsm (dp_nodict _ _ (.lst hl ha))) hG (by omega) (fun _ _ z => z) (fun h' t tk kp => fin h' tk t kp) hsz
  | tup hl ha =>
    cases rx
    obtain ⟨as, rd⟩ := Dp.reads I _ _ _ (.tup hl ha) rfl
    exact repr_of_reads' rd hs (PyData.noDict_hsm (dp_nodict _ _ (.tup hl ha))) hG (by omega) (fun _ _ z => z) (fun h' t tk kp => fin h' tk t kp) hsz
end
end LK
set_option Elab.async false
set_option linter.all false
set_option maxRecDepth 100000
set_option maxHeartbeats 2000000
namespace LK
open PySem PySem.Spec PyProof.Rows L2 Evl

/-! ### the state from which a law draws: its dict at s, the list of great cells at g -/
def stK (g : Addr) (r t sd : Int) (c : Addr) : List (Key × V) :=
  [(.inr "great", .ref g), (.inr "rest", .int r), (.inr "turn", .int t), (.inr "seed", .int sd), (.inr "cells", .ref c)]
/-- where a law's state stands: its dict, the great cells' list, the cells' list -/
structure Dr where
  s : Addr
  g : Addr
  c : Addr
/-- the parts of the state as they stand -/
structure StR (H : Hp) (d : Dr) (r t sd : Int) (gs cs : List Int) : Prop where
  hs : H d.s = some (.dK (stK d.g r t sd d.c))
  hg : H d.g = some (.lst (gs.map V.int))
  hc : H d.c = some (.lst (cs.map V.int))
  ncg : d.c ≠ d.g
structure StN (n : Nat) (r t sd : Int) (gs cs : List Int) : Prop where
  r0 : 0 ≤ r
  t0 : 0 ≤ t
  t1 : t ≤ (n : Int)
  s0 : 0 ≤ sd
  s1 : sd < 2147483648
  gs0 : ∀ z ∈ gs, 0 ≤ z
  cs0 : cs ≠ []
  cs1 : ∀ z ∈ cs, 0 ≤ z ∧ z < 2147483648
  csl : cs.length ≤ 100
  gsl : gs.length ≤ 100
/-- at most n draws were mixed so far -/
def StAt (H : Hp) (d : Dr) (n : Nat) : Prop := ∃ r t sd gs cs, StR H d r t sd gs cs ∧ StN n r t sd gs cs
/-- all but the state's own two things stands as it stood -/
def Fr (d : Dr) (H H' : Hp) : Prop := ∀ b o, H b = some o → b ≠ d.s → b ≠ d.g → H' b = some o
section
variable {d : Dr} {H H' H1 H2 : Hp} {p l : Addr} {r t sd : Int} {gs cs : List Int} {n m : Nat} {o u : HO}
theorem Fr.refl (H : Hp) : Fr d H H := fun _ _ h _ _ => h
theorem Fr.trans (a : Fr d H H1) (b : Fr d H1 H2) : Fr d H H2 := fun c o h h1 h2 => b c o (a c o h h1 h2) h1 h2
theorem Fr.same (a : Same H H1) : Fr d H H1 := fun c o h _ _ => a c o h
theorem Fr.new (h : H p = none) : Fr d H (upd H p o) := fun c u e _ _ => by rw [upd_ne (ne_of_none e h)]; exact e
theorem Fr.s : Fr d H (upd H d.s o) := fun c u e h _ => by rw [upd_ne h]; exact e
theorem Fr.g : Fr d H (upd H d.g o) := fun c u e _ h => by rw [upd_ne h]; exact e
theorem same_new (h : H p = none) : Same H (upd H p o) := fun b u e => by rw [upd_ne (ne_of_none e h)]; exact e
theorem StR.nsg (S : StR H d r t sd gs cs) : d.s ≠ d.g := ne_of S.hs S.hg (by intro z; cases z)
theorem StR.nsc (S : StR H d r t sd gs cs) : d.s ≠ d.c := ne_of S.hs S.hc (by intro z; cases z)
theorem StR.same (S : StR H d r t sd gs cs) (e : Same H H') : StR H' d r t sd gs cs := ⟨e _ _ S.hs, e _ _ S.hg, e _ _ S.hc, S.ncg⟩
theorem StR.new (S : StR H d r t sd gs cs) (h : H p = none) : StR (upd H p o) d r t sd gs cs := S.same (same_new h)
theorem StR.put (S : StR H d r t sd gs cs) {r' t' sd' : Int} : StR (upd H d.s (.dK (stK d.g r' t' sd' d.c))) d r' t' sd' gs cs :=
  ⟨upd_same, by rw [upd_ne S.nsg.symm]; exact S.hg, by rw [upd_ne S.nsc.symm]; exact S.hc, S.ncg⟩
theorem StR.pop (S : StR H d r t sd gs cs) {gs' : List Int} : StR (upd H d.g (.lst (gs'.map V.int))) d r t sd gs' cs :=
  ⟨by rw [upd_ne S.nsg]; exact S.hs, upd_same, by rw [upd_ne S.ncg]; exact S.hc, S.ncg⟩
theorem StAt.mono (S : StAt H d n) (h : n ≤ m) : StAt H d m := by
  obtain ⟨r, t, sd, gs, cs, R, N⟩ := S
  exact ⟨r, t, sd, gs, cs, R, { N with t1 := by have := N.t1; omega }⟩
theorem StAt.same (S : StAt H d n) (e : Same H H') : StAt H' d n := by
  obtain ⟨r, t, sd, gs, cs, R, N⟩ := S
  exact ⟨r, t, sd, gs, cs, R.same e, N⟩
theorem StAt.new (S : StAt H d n) (h : H p = none) : StAt (upd H p o) d n := S.same (same_new h)
theorem StAt.ns (S : StAt H d n) (h : H l = none) : l ≠ d.s := by
  obtain ⟨r, t, sd, gs, cs, R, _⟩ := S
  rintro rfl
  rw [R.hs] at h; cases h
theorem StAt.ng (S : StAt H d n) (h : H l = none) : l ≠ d.g := by
  obtain ⟨r, t, sd, gs, cs, R, _⟩ := S
  rintro rfl
  rw [R.hg] at h; cases h
theorem StAt.nc (S : StAt H d n) (h : H l = none) : l ≠ d.c := by
  obtain ⟨r, t, sd, gs, cs, R, _⟩ := S
  rintro rfl
  rw [R.hc] at h; cases h
/-- another thing changes -/
theorem StAt.upd (S : StAt H d n) (h1 : l ≠ d.s) (h2 : l ≠ d.g) (h3 : l ≠ d.c) : StAt (upd H l o) d n := by
  obtain ⟨r, t, sd, gs, cs, R, N⟩ := S
  exact ⟨r, t, sd, gs, cs, ⟨by rw [upd_ne h1.symm]; exact R.hs, by rw [upd_ne h2.symm]; exact R.hg, by rw [upd_ne h3.symm]; exact R.hc, R.ncg⟩, N⟩
/-- a thing laid while the state stood: it stays -/
theorem Fr.stay (f : Fr d (L2.upd H l o) H') (S : StAt H d n) (h : H l = none) : H' l = some o := f l o upd_same (S.ns h) (S.ng h)
end

/-! ### keys of that dict -/
theorem kne {a b : Str} (h : ¬ a = b) : ¬ ((Sum.inr a : Key) = Sum.inr b) := fun z => h (Sum.inr.inj z)
theorem k_gr : ¬ (("great" : Str) = "rest") := by decide +kernel
theorem k_gt : ¬ (("great" : Str) = "turn") := by decide +kernel
theorem k_gs : ¬ (("great" : Str) = "seed") := by decide +kernel
theorem k_gc : ¬ (("great" : Str) = "cells") := by decide +kernel
theorem k_rg : ¬ (("rest" : Str) = "great") := by decide +kernel
theorem k_rt : ¬ (("rest" : Str) = "turn") := by decide +kernel
theorem k_rs : ¬ (("rest" : Str) = "seed") := by decide +kernel
theorem k_rc : ¬ (("rest" : Str) = "cells") := by decide +kernel
theorem k_tg : ¬ (("turn" : Str) = "great") := by decide +kernel
theorem k_tr : ¬ (("turn" : Str) = "rest") := by decide +kernel
theorem k_ts : ¬ (("turn" : Str) = "seed") := by decide +kernel
theorem k_tc : ¬ (("turn" : Str) = "cells") := by decide +kernel
theorem k_sg : ¬ (("seed" : Str) = "great") := by decide +kernel
theorem k_sr : ¬ (("seed" : Str) = "rest") := by decide +kernel
theorem k_st : ¬ (("seed" : Str) = "turn") := by decide +kernel
theorem k_sc : ¬ (("seed" : Str) = "cells") := by decide +kernel
section
variable {g c : Addr} {r t sd : Int}
theorem st_great : valV (stK g r t sd c) (.inr "great" : Key) = some (.ref g) := valV_pos rfl
theorem st_rest : valV (stK g r t sd c) (.inr "rest" : Key) = some (.int r) := (valV_neg (kne k_gr)).trans (valV_pos rfl)
theorem st_turn : valV (stK g r t sd c) (.inr "turn" : Key) = some (.int t) := (valV_neg (kne k_gt)).trans ((valV_neg (kne k_rt)).trans (valV_pos rfl))
theorem st_seed : valV (stK g r t sd c) (.inr "seed" : Key) = some (.int sd) := (valV_neg (kne k_gs)).trans ((valV_neg (kne k_rs)).trans ((valV_neg (kne k_ts)).trans (valV_pos rfl)))
theorem st_cells : valV (stK g r t sd c) (.inr "cells" : Key) = some (.ref c) :=
  (valV_neg (kne k_gc)).trans ((valV_neg (kne k_rc)).trans ((valV_neg (kne k_tc)).trans ((valV_neg (kne k_sc)).trans (valV_pos rfl))))
theorem put_rest {y : Int} : putK (stK g r t sd c) (.inr "rest" : Key) (.int y) = stK g y t sd c := by
  simp [putK, stK, k_gr, k_tr, k_sr, Ne.symm k_rc, k_rc, k_rg, k_rt, k_rs, kne]
theorem put_turn {y : Int} : putK (stK g r t sd c) (.inr "turn" : Key) (.int y) = stK g r y sd c := by
  simp [putK, stK, k_gt, k_rt, k_st, k_tc]
  decide +kernel
theorem put_seed {y : Int} : putK (stK g r t sd c) (.inr "seed" : Key) (.int y) = stK g r t y c := by
  simp [putK, stK, k_gs, k_rs, k_ts, k_sc]
  decide +kernel
theorem merge_st {gv rv tv sv cv : V} : mergeK [] [((.inr "great" : Key), gv), (.inr "rest", rv), (.inr "turn", tv), (.inr "seed", sv), (.inr "cells", cv)] =
    [((.inr "great" : Key), gv), (.inr "rest", rv), (.inr "turn", tv), (.inr "seed", sv), (.inr "cells", cv)] := by
  simp [mergeK, putK, k_gr, k_gt, k_gs, k_gc, k_rt, k_rs, k_rc, k_ts, k_tc, k_sc]
end
section
variable {H : Hp} {d : Dr} {r t sd : Int} {gs cs : List Int}
theorem st_len {g c : Addr} : (stK g r t sd c).length < sizeLine := by show 5 < sizeLine; decide
theorem g_great (S : StR H d r t sd gs cs) : DGet H d.s (.str "great") (some (.ref d.g)) := st_great (r := r) (t := t) (sd := sd) (c := d.c) ▸ DGet.k (k := (.inr "great" : Key)) S.hs
theorem g_rest (S : StR H d r t sd gs cs) : DGet H d.s (.str "rest") (some (.int r)) := st_rest (g := d.g) (t := t) (sd := sd) (c := d.c) ▸ DGet.k (k := (.inr "rest" : Key)) S.hs
theorem g_turn (S : StR H d r t sd gs cs) : DGet H d.s (.str "turn") (some (.int t)) := st_turn (g := d.g) (r := r) (sd := sd) (c := d.c) ▸ DGet.k (k := (.inr "turn" : Key)) S.hs
theorem g_seed (S : StR H d r t sd gs cs) : DGet H d.s (.str "seed") (some (.int sd)) := st_seed (g := d.g) (r := r) (t := t) (c := d.c) ▸ DGet.k (k := (.inr "seed" : Key)) S.hs
theorem g_cells (S : StR H d r t sd gs cs) : DGet H d.s (.str "cells") (some (.ref d.c)) := st_cells (g := d.g) (r := r) (t := t) (sd := sd) ▸ DGet.k (k := (.inr "cells" : Key)) S.hs
theorem p_rest (S : StR H d r t sd gs cs) {y : Int} : DPut H d.s (.str "rest") (.int y) (upd H d.s (.dK (stK d.g y t sd d.c))) := put_rest (r := r) (y := y) ▸ DPut.k (k := (.inr "rest" : Key)) (v := .int y) S.hs st_len
theorem p_turn (S : StR H d r t sd gs cs) {y : Int} : DPut H d.s (.str "turn") (.int y) (upd H d.s (.dK (stK d.g r y sd d.c))) := put_turn (t := t) (y := y) ▸ DPut.k (k := (.inr "turn" : Key)) (v := .int y) S.hs st_len
theorem p_seed (S : StR H d r t sd gs cs) {y : Int} : DPut H d.s (.str "seed") (.int y) (upd H d.s (.dK (stK d.g r t y d.c))) := put_seed (sd := sd) (y := y) ▸ DPut.k (k := (.inr "seed" : Key)) (v := .int y) S.hs st_len
end
theorem seq0 {n : Nat} : seqIndex? 0 (n + 1) = some 0 := by simp [seqIndex?]
theorem at_of {xs : List V} {z : Int} {j : Nat} {v : V} (e : z = (j : Int)) (h : xs[j]? = some v) : atI xs z = some v := e ▸ atI_nat h
/-! ### lists of numbers as data -/
theorem dp_ints {K : PySem.W.Frag} {H : Hp} : ∀ l : List Int, DpAll K H (l.map V.int) (l.map PyData.int)
  | [] => .nil
  | z :: l => .cons (.int z) (dp_ints l)
theorem lay_ints : ∀ l : List Int, PyData.canLayAll0 (l.map PyData.int) = true
  | [] => rfl
  | z :: l => by show (true && PyData.canLayAll0 (l.map PyData.int)) = true; rw [lay_ints l]; rfl
theorem deep_ints : ∀ l : List Int, PyData.depthAll (l.map PyData.int) = 0
  | [] => rfl
  | z :: l => by show max 0 (PyData.depthAll (l.map PyData.int)) = 0; rw [deep_ints l]; rfl
theorem shaped_ints (l : List Int) : SeqAt.shaped (.list (l.map PyData.int)) = true := by
  show (PyData.canLayAll0 (l.map PyData.int) && decide (PyData.depthAll (l.map PyData.int) + 1 ≤ 64)) = true
  rw [lay_ints, deep_ints]; rfl
/-! ### a thing to pick from -/
def chr1 (c : Nat) : V := .str ⟨#[c]⟩
def Pk (K : PySem.W.Frag) (H : Hp) (v : V) (xs : List V) : Prop :=
  (∃ p, v = .ref p ∧ (SqL K H p xs ∨ SqT K H p xs)) ∨ ∃ z : Str, v = .str z ∧ xs = z.cps.toList.map chr1
section
variable {K : PySem.W.Frag} {H H' : Hp} {d : Dr} {p : Addr} {n : Nat} {xs : List V} {v : V}
theorem Fr.seqL (f : Fr d H H') (S : StAt H d n) (h : SqL K H p xs) (hg : p ≠ d.g) : SqL K H' p xs := by
  obtain ⟨r, t, sd, gs, cs, R, _⟩ := S
  rcases h with (h | ⟨o, h⟩) | h
  · exact .inl (.inl (f _ _ h (ne_of h R.hs (by intro z; cases z)) hg))
  · exact .inl (.inr ⟨o, f _ _ h (ne_of h R.hs (by intro z; cases z)) hg⟩)
  · exact .inr h
theorem Fr.seqT (f : Fr d H H') (S : StAt H d n) (h : SqT K H p xs) : SqT K H' p xs := by
  obtain ⟨r, t, sd, gs, cs, R, _⟩ := S
  rcases h with (h | ⟨o, h⟩) | h
  · exact .inl (.inl (f _ _ h (ne_of h R.hs (by intro z; cases z)) (ne_of h R.hg (by intro z; cases z))))
  · exact .inl (.inr ⟨o, f _ _ h (ne_of h R.hs (by intro z; cases z)) (ne_of h R.hg (by intro z; cases z))⟩)
  · exact .inr h
theorem Pk.fr (h : Pk K H v xs) (f : Fr d H H') (S : StAt H d n) (hg : v ≠ .ref d.g) : Pk K H' v xs := by
  rcases h with ⟨p, rfl, h⟩ | ⟨z, rfl, rfl⟩
  · have hp : p ≠ d.g := fun e => hg (by rw [e])
    rcases h with h | h
    · exact .inl ⟨p, rfl, .inl (f.seqL S h hp)⟩
    · exact .inl ⟨p, rfl, .inr (f.seqT S h)⟩
  · exact .inr ⟨z, rfl, rfl⟩
/-- its length -/
theorem Pk.len (h : Pk K H v xs) (hl : xs.length ≤ 1000) : LenV K v H xs.length := by
  rcases h with ⟨p, rfl, h | h⟩ | ⟨z, rfl, rfl⟩
  · exact .inl ⟨xs, h, rfl⟩
  · exact .inr ⟨xs, h, rfl⟩
  · refine ⟨?_, ?_⟩
    · rw [List.length_map] at hl
      exact Nat.le_trans hl (by decide)
    · rw [List.length_map]; rfl
/-- its item at i -/
theorem Pk.ix (h : Pk K H v xs) (hl : xs.length ≤ 1000) {i : Int} (h0 : 0 ≤ i) (h1 : i < (xs.length : Int)) {Q : VK} (q : ∀ x, x ∈ xs → Q x H) : rIx K v (.int i) H Q := by
  obtain ⟨j, rfl⟩ : ∃ j : Nat, i = (j : Int) := ⟨i.toNat, by omega⟩
  have hi : j < xs.length := by omega
  rcases h with ⟨p, rfl, h | h⟩ | ⟨z, rfl, rfl⟩
  · exact .inl ⟨p, xs, j, _, rfl, rfl, h, atI_nat (List.getElem?_eq_getElem hi), q _ (List.getElem_mem hi)⟩
  · exact .inr (.inl ⟨p, xs, j, _, rfl, rfl, h, atI_nat (List.getElem?_eq_getElem hi), q _ (List.getElem_mem hi)⟩)
  · rw [List.length_map] at hi hl
    have hz : z.length = z.cps.toList.length := rfl
    exact .inr (.inr ⟨z, j, z.cps.toList[j], rfl, rfl, Nat.le_trans (hz ▸ hl) (by decide), atI_nat (List.getElem?_eq_getElem hi), q _ (List.mem_map.mpr ⟨_, List.getElem_mem hi, rfl⟩)⟩)
end
theorem et_yes {σ : L2.St} {H : Hp} : EvT tYes σ H true := fun H1 _ Q q => q H1 (Ex.refl H1)
theorem given_ints {n : Nat} {f : Nat → Bool} {v : Nat → Int} : given n f (fun i => V.int (v i)) = (((List.range n).filter f).map v).map V.int := by
  unfold given
  rw [List.map_map]
  rfl
theorem t_c {v : V} {σ : L2.St} {H : Hp} {Q : VK} (h : Q v H) : tC v σ H Q := h
end LK
set_option Elab.async false
set_option linter.all false
set_option maxRecDepth 100000
set_option maxHeartbeats 2000000
namespace LK
open PySem PySem.Spec PyProof.Rows L2 Evl

/-! ### type(x), isinstance by it -/
inductive Ty6 (K : PySem.W.Frag) (H : Hp) : V → String → Prop
  | non : Ty6 K H .non "NoneType"
  | bl (b : Bool) : Ty6 K H (.bl b) "bool"
  | int (i : Int) : Ty6 K H (.int i) "int"
  | str (x : Str) : Ty6 K H (.str x) "str"
  | lst {a : Addr} {xs : List V} (e : H a = some (.lst xs)) : Ty6 K H (.ref a) "list"
  | tup {a : Addr} {xs : List V} (e : SqT K H a xs) : Ty6 K H (.ref a) "tuple"
  | dic {a : Addr} {kvs : List (Key × V)} (e : H a = some (.dK kvs)) : Ty6 K H (.ref a) "dict"
section
variable {X : Cx}
def rTy6 (K : PySem.W.Frag) : List V → Hp → VK → Prop := fun xs H Q => ∃ x T, xs = [x] ∧ Ty6 K H x T ∧ Q (.ty T) H
theorem call_ty6 : CallR X (.type "type") (rTy6 X.K) := by
  intro pins s σ H xs us Q I r h
  obtain ⟨x, T, rfl, t, q⟩ := h
  obtain ⟨u, rfl, rx⟩ := vals1 r
  have fin : EP X pins σ Q (.type T) s := ⟨.ty T, H, I, rfl, q⟩
  cases t with
  | non => cases rx; exact call_type_of (typeIs_none s) (by decide +kernel) fin
  | bl b => cases rx; exact call_type_of (PySem.typeIs_bool s b) (by decide +kernel) fin
  | int i => obtain ⟨k, rfl⟩ := rx; exact call_type_of (typeIs_int s i k) (by decide +kernel) fin
  | str z => obtain ⟨k, rfl⟩ := rx; exact call_type_of (typeIs_str s z k) (by decide +kernel) fin
  | lst e =>
    cases rx
    obtain ⟨its, rv, p, _⟩ := I.list (.inl (.inl e))
    exact call_type_of p.isList.typeIs (by decide +kernel) fin
  | tup e =>
    cases rx
    obtain ⟨its, rv, p, _⟩ := I.tuple e
    exact call_type_of p.typeIs (by decide +kernel) fin
  | dic e =>
    cases rx
    obtain ⟨_, _, vs, _, o, es, ep, g, ex, _⟩ := I.hok _ _ e
    exact call_type_of (Tx := "dict") ⟨o, g, ex.1⟩ (by decide +kernel) fin
theorem Ty6.tyX {K : PySem.W.Frag} {H : Hp} {x : V} {T : String} (t : Ty6 K H x T) : TyX K H x (.type T) := by
  cases t with
  | non => exact .base .non
  | bl b => exact .base (.bl b)
  | int i => exact .base (.int i)
  | str z => exact .base (.str z)
  | lst e => exact .base (.lst e)
  | tup e =>
    rcases e with (e | ⟨o, e⟩) | ⟨o, its, n, e, c, _⟩
    · exact .base (.tup e)
    · exact .fTuple e
    · exact .kTuple e c
  | dic e => exact .base (.dK e)
end

/-! ### comprehensions over a text -/
section
variable {K : PySem.W.Frag} {σ : L2.St} {H : Hp} {te : TE} {t : TT}
theorem el_lcS {z : Str} {tl : TE} {j : Nat} {vs : List Nat} (f : Nat → Bool) (v : Nat → V) (h : Ev tl σ H (.str z)) (hz : z.cps.size ≤ 40000)
    (hw : ∀ x, wipe ((wipe σ vs).set j (some x)) vs = wipe σ vs)
    (ht : ∀ (i : Nat) (c : Nat) H1, Ex H H1 → z.cps[i]? = some c → EvT t ((wipe σ vs).set j (some (chr1 c))) H1 (f i))
    (he : ∀ (i : Nat) (c : Nat) H1, Ex H H1 → z.cps[i]? = some c → f i = true → Ev te ((wipe σ vs).set j (some (chr1 c))) H1 (v i)) :
    EvL (tLc (iStr tl) (gName j) t te vs) σ H (given z.cps.size f v) := by
  intro H0 e Q q
  refine h H0 e _ fun H1 e1 => ⟨z, rfl, fun Dl hD => ?_⟩
  refine lc_it walk_str (Cw H1 f v Dl) ⟨hD, Ex.new hD, upd_same⟩ (fun _ _ _ _ => trivial) ?_ (fun H' p => q Dl H' (fresh_back e1 p.1) (e1.trans p.2.1) p.2.2)
  rintro i x H2 H' hi p ⟨rfl, c, hc, rfl⟩
  exact ⟨hw _, cw_turn p (by omega) (ht i c H1 (e.trans e1) hc) (fun hf => he i c H1 (e.trans e1) hc hf)⟩
theorem given_nil {n : Nat} {f : Nat → Bool} {v : Nat → V} (h : ∀ i, i < n → f i = false) : given n f v = [] := by
  unfold given
  have e : (List.range n).filter f = [] := by
    rw [List.filter_eq_nil_iff]
    intro i hi
    rw [h i (List.mem_range.mp hi)]
    decide
  rw [e]
  rfl
theorem given_cons {n i : Nat} {f : Nat → Bool} {v : Nat → V} (hi : i < n) (h : f i = true) : given n f v ≠ [] := by
  unfold given
  intro e
  have m : v i ∈ ((List.range n).filter f).map v := List.mem_map.mpr ⟨i, List.mem_filter.mpr ⟨List.mem_range.mpr hi, h⟩, rfl⟩
  rw [e] at m
  cases m
end

/-! ### repr of a dict of texts to texts -/
section
variable {X : Cx}
/-- {z: y} -/
def oneD (z y : Str) : PyData := .dict [(.str z, .str y)]
theorem reads_one {pins : List (Addr × Obj)} {σ : L2.St} {H : Hp} {s : Shared} {a : Addr} {z y : Str} (I : Inv X pins σ H s)
    (e : H a = some (.dK [((.inr z : Key), .str y)])) : a ≠ sysModules ∧ Reads s.heap (.ref a) (oneD z y) [a] := by
  obtain ⟨_, nm, vs, kv, o, es, ep, g, ex, d, _, pr, _⟩ := I.hok _ _ e
  refine ⟨beq_eq_false_iff_ne.mp nm, ?_⟩
  cases kv with
  | @cons _ q l1 l2 h1 h2 =>
    cases h2
    obtain ⟨qk, qv⟩ := q
    obtain ⟨e1, t, e2⟩ := h1
    have e1' : qk = .inr z := e1.symm
    have e2' : qv = Value.str y t := e2
    subst e1' e2'
    generalize hes : es.toList = l at pr
    cases pr with
    | @cons en _ _ _ hk hv pr =>
      cases pr
      have hk' : keyIs (.inr z) en.key = true := hk
      rcases keyIs_shape hk' with ⟨i, t', ek, _⟩ | ⟨x, t', ek, ev⟩
      · cases ek
      · cases ek
        have hv' : en.val = Value.str y t := hv
        have r1 : ReadsAll s.heap (es.toList.map (·.key)) ([((PyData.str z), PyData.str y)].map (·.1)) [] := by
          rw [hes]
          show ReadsAll s.heap [en.key] [PyData.str z] []
          rw [ev]
          exact ReadsAll.cons (.str z t') .nil
        have r2 : ReadsAll s.heap (es.toList.map (·.val)) ([((PyData.str z), PyData.str y)].map (·.2)) [] := by
          rw [hes]
          show ReadsAll s.heap [en.val] [PyData.str y] []
          rw [hv']
          exact ReadsAll.cons (.str y t) .nil
        exact Reads.dict g ex.1 d r1 r2
/-- repr of data, or of {z: y} -/
def ReprOf (K : PySem.W.Frag) (H : Hp) (x : V) (r : Str) : Prop :=
  (∃ d, Dp K H x d ∧ d.showable = true ∧ d.depth ≤ 60 ∧ d.shown.length ≤ sizeLine ∧ r = d.shown) ∨
  ∃ a z y, x = .ref a ∧ H a = some (.dK [((.inr z : Key), .str y)]) ∧ (oneD z y).shown.length ≤ sizeLine ∧ r = (oneD z y).shown
def rReprQ (K : PySem.W.Frag) : List V → Hp → VK → Prop := fun xs H Q => ∃ x r, xs = [x] ∧ ReprOf K H x r ∧ Q (.str r) H
theorem call_reprQ (hG : X.A.guards = some []) (hu : X.A.units + 64 < cLine) : CallR X (.builtin "repr") (rReprQ X.K) := by
  intro pins s σ H xs us Q I r h
  obtain ⟨x, t, rfl, hx, q⟩ := h
  rcases hx with ⟨d, h1, h2, h3, h4, rfl⟩ | ⟨a, z, y, rfl, e, hz, rfl⟩
  · exact call_repr hG hu pins s σ H [x] us Q I r ⟨x, d, rfl, h1, h2, h3, h4, q⟩
  · obtain ⟨u, rfl, rx⟩ := vals1 r
    cases rx
    obtain ⟨na, rd⟩ := reads_one I e
    refine repr_of_reads' rd rfl (fun _ hm => na (List.mem_singleton.mp hm).symm) hG ?_ (fun _ _ z => z) (fun h' t tk kp => ?_) hz
    · have : (oneD z y).depth = 1 := rfl
      omega
    · exact ⟨.str _, H, I.kept kp, ⟨t, rfl⟩, q⟩
end

/-! ### texts -/
theorem str_ext {x y : Str} (h : x.cps.toList = y.cps.toList) : x = y := by
  cases x; cases y
  congr 1
  exact Array.toList_inj.mp h
/-- a short text of plain signs -/
def Tx (z : Str) : Prop := z.cps.toList.length ≤ 40 ∧ ∀ c ∈ z.cps.toList, c < 128
theorem Tx.len {z : Str} (h : Tx z) : z.length ≤ 40 := h.1
theorem tx_app {x y : Str} (hx : ∀ c ∈ x.cps.toList, c < 128) (hy : ∀ c ∈ y.cps.toList, c < 128) (hl : x.length + y.length ≤ 40) : Tx (x ++ y) := by
  have e : (x ++ y).cps.toList = x.cps.toList ++ y.cps.toList := by
    show (x.cps ++ y.cps).toList = _
    rw [Array.toList_append]
  constructor
  · rw [e, List.length_append]; exact hl
  · intro c hc
    rw [e] at hc
    rcases List.mem_append.mp hc with h | h
    · exact hx c h
    · exact hy c h
theorem app_len (x y : Str) : (x ++ y).length = x.length + y.length := by
  show (x.cps ++ y.cps).size = _
  rw [Array.size_append]; rfl
theorem app_mem {x y : Str} {c : Nat} (h : c ∈ (x ++ y).cps.toList) : c ∈ x.cps.toList ∨ c ∈ y.cps.toList := by
  have e : (x ++ y).cps.toList = x.cps.toList ++ y.cps.toList := by
    show (x.cps ++ y.cps).toList = _
    rw [Array.toList_append]
  rw [e] at h
  exact List.mem_append.mp h
theorem cut_mem {z : Str} {lo hi : Option Int} {c : Nat} (h : c ∈ (cutS z lo hi).cps.toList) : c ∈ z.cps.toList := by
  unfold cutS at h
  simp only at h
  exact List.mem_of_mem_drop (List.mem_of_mem_take h)
theorem cut_len (z : Str) (lo hi : Option Int) : (cutS z lo hi).length ≤ z.length := by
  show ((z.cps.toList.drop _).take _).toArray.size ≤ z.cps.size
  rw [List.size_toArray, List.length_take, List.length_drop]
  have : z.cps.toList.length = z.cps.size := rfl
  omega
/-- the signs of texts joined by nothing -/
theorem join_nil : ∀ zs : List Str, (Txt.join "" zs).cps.toList = (zs.map fun z => z.cps.toList).flatten := by
  intro zs
  rw [TL.join_eq]
  have h := TL.tl_join "" zs
  have h2 : ∀ l : List (List Nat), TL.joinL [] l = l.flatten := by
    intro l
    induction l with
    | nil => rfl
    | cons a l ih =>
      cases l with
      | nil => show a = _; simp
      | cons b r =>
        show a ++ ([] ++ TL.joinL [] (b :: r)) = _
        rw [ih]; rfl
  have e : TL.tl ("" : Str) = [] := by decide +kernel
  rw [e, h2] at h
  exact h
theorem sum_ones : ∀ zs : List Str, (∀ z ∈ zs, z.length = 1) → (zs.map (·.length)).sum = zs.length
  | [], _ => rfl
  | a :: l, h => by
    have h1 := h a List.mem_cons_self
    have h2 := sum_ones l fun z hz => h z (List.mem_cons_of_mem _ hz)
    rw [List.map_cons, List.sum_cons, h1, h2, List.length_cons]
    omega
theorem join_ones {zs : List Str} {al : List Nat} (h : ∀ z ∈ zs, ∃ c ∈ al, z = ⟨#[c]⟩) : (Txt.join "" zs).length = zs.length ∧ ∀ c ∈ (Txt.join "" zs).cps.toList, c ∈ al := by
  have e := join_nil zs
  constructor
  · show (Txt.join "" zs).cps.toList.length = _
    rw [e]
    clear e
    induction zs with
    | nil => rfl
    | cons a l ih =>
      obtain ⟨c, _, rfl⟩ := h a List.mem_cons_self
      have := ih fun z hz => h z (List.mem_cons_of_mem _ hz)
      rw [List.map_cons, List.flatten_cons, List.length_append, this, List.length_cons]
      show 1 + l.length = l.length + 1
      omega
  · intro c hc
    rw [e] at hc
    obtain ⟨l, hl, hcl⟩ := List.mem_flatten.mp hc
    obtain ⟨z, hz, rfl⟩ := List.mem_map.mp hl
    obtain ⟨d, hd, rfl⟩ := h z hz
    have : c = d := by simpa using hcl
    rw [this]; exact hd
section
theorem at_some {xs : List V} {i : Int} (h0 : 0 ≤ i) (h1 : i < (xs.length : Int)) : ∃ v, atI xs i = some v ∧ v ∈ xs := by
  obtain ⟨j, rfl⟩ : ∃ j : Nat, i = (j : Int) := ⟨i.toNat, by omega⟩
  have hj : j < xs.length := by omega
  exact ⟨_, atI_nat (List.getElem?_eq_getElem hj), List.getElem_mem hj⟩
end
/-! ### lists of texts as data -/
theorem strs_of {P : Str → Prop} : ∀ {l : List V}, (∀ v ∈ l, ∃ z, P z ∧ v = .str z) → ∃ zs : List Str, l = zs.map V.str ∧ ∀ z ∈ zs, P z
  | [], _ => ⟨[], rfl, fun _ h => (nomatch h)⟩
  | v :: l, h => by
    obtain ⟨z, hz, rfl⟩ := h v List.mem_cons_self
    obtain ⟨zs, rfl, hzs⟩ := strs_of (l := l) fun u hu => h u (List.mem_cons_of_mem _ hu)
    refine ⟨z :: zs, rfl, fun y hy => ?_⟩
    rcases List.mem_cons.mp hy with rfl | hy
    · exact hz
    · exact hzs y hy
theorem dp_strs {K : PySem.W.Frag} {H : Hp} : ∀ l : List Str, DpAll K H (l.map V.str) (l.map PyData.str)
  | [] => .nil
  | z :: l => .cons (.str z) (dp_strs l)
theorem shaped_strs {l : List Str} (h : ∀ z ∈ l, (PyData.str z).canLay0 = true) : SeqAt.shaped (.list (l.map PyData.str)) = true := by
  have lay : ∀ l : List Str, (∀ z ∈ l, (PyData.str z).canLay0 = true) → PyData.canLayAll0 (l.map PyData.str) = true := by
    intro l
    induction l with
    | nil => intro _; rfl
    | cons z l ih =>
      intro h
      show ((PyData.str z).canLay0 && PyData.canLayAll0 (l.map PyData.str)) = true
      rw [h z List.mem_cons_self, ih fun y hy => h y (List.mem_cons_of_mem _ hy)]; rfl
  have deep : ∀ l : List Str, PyData.depthAll (l.map PyData.str) = 0 := by
    intro l
    induction l with
    | nil => rfl
    | cons z l ih => show max 0 (PyData.depthAll (l.map PyData.str)) = 0; rw [ih]; rfl
  show (PyData.canLayAll0 (l.map PyData.str) && decide (PyData.depthAll (l.map PyData.str) + 1 ≤ 64)) = true
  rw [lay l h, deep]; rfl
theorem eqv_nil (l : List PyData) : PyData.eqv (.list l) (.list []) = l.isEmpty := by cases l <;> rfl
theorem Tx.lay {z : Str} (h : Tx z) : (PyData.str z).canLay0 = true := by
  show z.cps.all (· < 0x110000) = true
  rw [← Array.all_toList, List.all_eq_true]
  intro c hc
  have := h.2 c hc
  exact decide_eq_true (by omega)
/-! ### readings, step by step -/
section
variable {σ : L2.St} {H : Hp} {k : List V → Hp → Prop} {Q : VK} {E : XK} {ta tb te : TE} {t tk tr : TA} {r : R2} {sp : Sp} {dvs : List V} {gV : List V → List V → List V} {D : Ends} {rc : List V → Hp → VK → Prop} {v : V}
theorem t_nil (h : k [] H) : tNil σ H k := h
theorem t_cons (h : ta σ H fun x H1 => tr σ H1 fun xs H2 => k (x :: xs) H2) : tCons ta tr σ H k := h
theorem t_var {i : Nat} (e : σ[i]? = some (some v)) (h : Q v H) : tVar i σ H Q := ⟨v, e, h⟩
theorem t_call (h : t σ H fun vs H1 => sp (vs ++ dvs) H1 Q E) : tCall sp dvs E t σ H Q := h
theorem t_callK (h : t σ H fun vs H1 => tk σ H1 fun zs H2 => sp (gV vs zs) H2 Q E) : tCallK sp gV E t tk σ H Q := h
theorem t_ret (h : te σ H D.rt) : tRet te D σ H := h
theorem t_op (h : ta σ H fun x H1 => tb σ H1 fun y H2 => r x y H2 Q) : tOp r ta tb σ H Q := h
theorem t_cb (h : t σ H fun vs H1 => rc vs H1 Q) : tCB rc t σ H Q := h
end
end LK
set_option Elab.async false
set_option linter.all false
set_option maxRecDepth 100000
set_option maxHeartbeats 2000000
namespace LK
open PySem PySem.Spec PyProof.Rows L2 Evl

/-! ### the functions that the laws draw -/
def ownW : List Str := ["maker", "set", "say", "give", "if", "else", "while", "break", "again", "return", "throw", "try", "catch", "finally", "make", "ask", "toss", "close", "all", "end", "none"]
def lo (c : Nat) : Bool := decide (97 ≤ c ∧ c ≤ 122)
/-- a name -/
structure Nm (z : Str) : Prop where
  l1 : 1 ≤ z.length
  l8 : z.length ≤ 8
  lo : ∀ c ∈ z.cps.toList, lo c = true
  free : z ∉ ownW
theorem Nm.c128 {z : Str} (h : Nm z) : ∀ c ∈ z.cps.toList, c < 128 := fun c hc => by
  have := of_decide_eq_true (h.lo c hc)
  omega
theorem Nm.tx {z : Str} (h : Nm z) : Tx z := ⟨Nat.le_trans (show z.cps.toList.length ≤ 8 from h.l8) (by decide), h.c128⟩
/-! signs and words -/
theorem flat_lk : ∀ l : List Str, (l.map V.str).all flatV = true
  | [] => rfl
  | a :: l => by show (true && (l.map V.str).all flatV) = true; rw [flat_lk l]; rfl
def freeB (z : Str) : Bool := !inV (.str z) (ownW.map V.str)
def abcS : Str := "abcdefghijklmnopqrstuvwxyz"
def abcL : List Nat := [97, 98, 99, 100, 101, 102, 103, 104, 105, 106, 107, 108, 109, 110, 111, 112, 113, 114, 115, 116, 117, 118, 119, 120, 121, 122]
theorem abc_eq : abcS.cps = abcL.toArray := by decide +kernel
theorem abcL_lo : ∀ c ∈ abcL, lo c = true := by decide
def nearW : List Str := ["makers", "sets", "ask", "gives", "iff", "elses", "whiles", "asks", "tosses", "ends", "alls", "nones", "a"]
/-- as a name, but it may be a word of texts -/
structure NmW (z : Str) : Prop where
  l1 : 1 ≤ z.length
  l8 : z.length ≤ 8
  lo : ∀ c ∈ z.cps.toList, lo c = true
theorem near_ok : ∀ z ∈ nearW, NmW z := by
  have h : ∀ z ∈ nearW, (1 ≤ z.length ∧ z.length ≤ 8) ∧ ∀ c ∈ z.cps.toList, lo c = true := by decide +kernel
  exact fun z hz => ⟨(h z hz).1.1, (h z hz).1.2, (h z hz).2⟩
/-- the first six signs, q, a sign -/
def varS (z : Str) (c : Nat) : Str := cutS z none (some 6) ++ "q" ++ ⟨#[c]⟩
theorem item_str {l : List Str} {i : Nat} {x : V} (h : (l.map V.str)[i]? = some x) : x = .str (l.getD i "") := by
  rw [List.getElem?_map] at h
  cases e : l[i]? with
  | none => rw [e] at h; cases h
  | some z =>
    rw [e] at h
    rw [List.getD_eq_getElem?_getD, e]
    exact (Option.some.inj h).symm
theorem abc_at {i c : Nat} (h : abcS.cps[i]? = some c) : c = abcL.getD i 0 := by
  rw [abc_eq] at h
  have h' : abcL[i]? = some c := by simpa using h
  rw [List.getD_eq_getElem?_getD, h']; rfl
theorem given_mem {n : Nat} {f : Nat → Bool} {v : Nat → V} {x : V} (h : x ∈ given n f v) : ∃ i, (i < n ∧ f i = true) ∧ x = v i := by
  unfold given at h
  obtain ⟨i, hi, rfl⟩ := List.mem_map.mp h
  have h2 := List.mem_filter.mp hi
  exact ⟨i, ⟨List.mem_range.mp h2.1, h2.2⟩, rfl⟩
theorem in_strs (z : Str) : ∀ l : List Str, inV (.str z) (l.map V.str) = decide (z ∈ l)
  | [] => by rw [decide_eq_false (List.not_mem_nil)]; rfl
  | a :: l => by
    have ih := in_strs z l
    show (eqV (.str a) (.str z) || inV (.str z) (l.map V.str)) = _
    rw [ih]
    have e : eqV (.str a) (.str z) = decide (a = z) := by
      show (a == z) = _
      by_cases h : a = z
      · rw [decide_eq_true h, h]; exact beq_self_eq_true z
      · rw [decide_eq_false h]; exact beq_eq_false_iff_ne.mpr h
    rw [e]
    by_cases h : a = z
    · rw [h, decide_eq_true rfl, decide_eq_true List.mem_cons_self]; rfl
    · rw [decide_eq_false h]
      by_cases h2 : z ∈ l
      · rw [decide_eq_true h2, decide_eq_true (List.mem_cons_of_mem _ h2)]; rfl
      · rw [decide_eq_false h2, decide_eq_false fun m => (List.mem_cons.mp m).elim (fun e => h e.symm) h2]; rfl
theorem free_of {z : Str} (h : freeB z = true) : z ∉ ownW := by
  unfold freeB at h
  rw [in_strs] at h
  intro m
  rw [decide_eq_true m] at h
  cases h
theorem NmW.nm {z : Str} (h : NmW z) (f : freeB z = true) : Nm z := ⟨h.l1, h.l8, h.lo, free_of f⟩
theorem app_list (x y : Str) : (x ++ y).cps.toList = x.cps.toList ++ y.cps.toList := by
  show (x.cps ++ y.cps).toList = _
  rw [Array.toList_append]
theorem varS_list (z : Str) (c : Nat) : (varS z c).cps.toList = ((cutS z none (some 6)).cps.toList ++ [113]) ++ [c] := by
  unfold varS
  rw [app_list, app_list]; rfl
theorem cut6 {z : Str} (h : z.length ≤ 8) : (cutS z none (some 6)).cps.toList.length ≤ 6 := by
  show ((z.cps.toList.drop (HT.sIx z.length 0 none)).take (HT.sIx z.length z.length (some 6) - HT.sIx z.length 0 none)).toArray.toList.length ≤ 6
  have e : HT.sIx z.length z.length (some 6) ≤ 6 := by
    generalize z.length = l at h
    match l, h with
    | 0, _ => decide
    | 1, _ => decide
    | 2, _ => decide
    | 3, _ => decide
    | 4, _ => decide
    | 5, _ => decide
    | 6, _ => decide
    | 7, _ => decide
    | 8, _ => decide
  rw [List.toList_toArray, List.length_take]
  omega
def cands (z : Str) : List Str := z :: abcL.map (varS z)
theorem cand_nmw {z y : Str} (h : NmW z) (hy : y ∈ cands z) : NmW y := by
  rcases List.mem_cons.mp hy with rfl | hy
  · exact h
  obtain ⟨c, hc, rfl⟩ := List.mem_map.mp hy
  have hl : (varS z c).cps.toList.length = (cutS z none (some 6)).cps.toList.length + 2 := by
    rw [varS_list, List.length_append, List.length_append]; rfl
  have h6 := cut6 h.l8
  refine ⟨?_, ?_, fun u hu => ?_⟩
  · show 1 ≤ (varS z c).cps.toList.length; omega
  · show (varS z c).cps.toList.length ≤ 8; omega
  · rw [varS_list] at hu
    rcases List.mem_append.mp hu with hu | hu
    · rcases List.mem_append.mp hu with hu | hu
      · exact h.lo u (cut_mem hu)
      · rw [List.mem_singleton.mp hu]; rfl
    · rw [List.mem_singleton.mp hu]; exact abcL_lo c hc
theorem varS_inj {z : Str} {c e : Nat} (h : varS z c = varS z e) : c = e := by
  have h2 := congrArg (fun s : Str => s.cps.toList) h
  simp only [varS_list] at h2
  have h3 := List.append_cancel_left h2
  exact (List.cons.inj h3).1
theorem varS_free (z : Str) (c : Nat) : freeB (varS z c) = true := by
  unfold freeB
  rw [in_strs, decide_eq_false]
  · rfl
  intro m
  have h : ∀ y ∈ ownW, 113 ∉ y.cps.toList := by decide +kernel
  refine h _ m ?_
  rw [varS_list]
  exact List.mem_append_left _ (List.mem_append_right _ List.mem_cons_self)
theorem nodup_map_inj {f : Nat → Str} (h : ∀ a b, f a = f b → a = b) : ∀ {l : List Nat}, l.Nodup → (l.map f).Nodup
  | [], _ => List.nodup_nil
  | a :: l, n => by
    obtain ⟨n1, n2⟩ := List.nodup_cons.mp n
    refine List.nodup_cons.mpr ⟨fun m => ?_, nodup_map_inj h n2⟩
    obtain ⟨b, hb, e⟩ := List.mem_map.mp m
    rw [h b a e] at hb
    exact n1 hb
/-- one of them is still free -/
theorem cand_some {z : Str} {zs : List Str} (h : zs.length ≤ 25) : ∃ y ∈ cands z, y ∉ zs ∧ freeB y = true := by
  apply Classical.byContradiction
  intro no
  have all : ∀ y ∈ abcL.map (varS z), y ∈ zs := by
    intro y hy
    apply Classical.byContradiction
    intro ny
    refine no ⟨y, List.mem_cons_of_mem _ hy, ny, ?_⟩
    obtain ⟨c, _, rfl⟩ := List.mem_map.mp hy
    exact varS_free z c
  have l := List.Nodup.length_le_of_subset (nodup_map_inj (f := varS z) (fun a b => varS_inj) (l := abcL) (by decide)) (fun y hy => all y hy)
  rw [List.length_map] at l
  have : abcL.length = 26 := rfl
  omega
theorem cands_eq (z : Str) : [V.str z] ++ given abcS.cps.size (fun _ => true) (fun i => V.str (varS z (abcL.getD i 0))) = (cands z).map V.str := rfl
/-- how many draws an expression takes at most -/
def cS : Nat → Nat
  | 0 => 0
  | d + 1 => 2 * cS d + 10
inductive Ex where
  | num (n : Int) | non | box (b : Str) | op (w : Str) (a b : Ex)
def exD : Ex → PyData
  | .num n => .tuple [.str "number", .int n]
  | .non => .tuple [.str "none"]
  | .box b => .tuple [.str "box", .str b]
  | .op w a b => .tuple [.str w, exD a, exD b]
inductive Sm where
  | set3 (w b : Str) (e : Ex)
  | one (w : Str) (e : Ex)
  | jump (w : Str)
  | make (b n : Str) (es : List Ex)
  | ifs (e : Ex) (x y : List Sm)
  | whl (e : Ex) (x : List Sm)
  | pull (b w : Str) (e f : Ex) (x : List Sm)
  | tri (x : List Sm) (c : Option Str) (y z : List Sm)
def optD : Option Str → PyData
  | none => .none
  | some b => .str b
mutual
def smD : Sm → PyData
  | .set3 w b e => .tuple [.str w, .str b, exD e]
  | .one w e => .tuple [.str w, exD e]
  | .jump w => .tuple [.str w]
  | .make b n es => .tuple [.str "make", .str b, .str n, .tuple (es.map exD)]
  | .ifs e x y => .tuple [.str "if", exD e, .tuple (smsD x), .tuple (smsD y)]
  | .whl e x => .tuple [.str "while", exD e, .tuple (smsD x)]
  | .pull b w e f x => .tuple [.str "pull", .str b, .str w, exD e, exD f, .tuple (smsD x)]
  | .tri x c y z => .tuple [.str "try", .tuple (smsD x), optD c, .tuple (smsD y), .tuple (smsD z)]
def smsD : List Sm → List PyData
  | [] => []
  | s :: r => smD s :: smsD r
end
def bodyD (l : List Sm) : PyData := .tuple (smsD l)
theorem smsD_map (l : List Sm) : smsD l = l.map smD := by
  induction l with
  | nil => rfl
  | cons s r ih => show smD s :: smsD r = _; rw [ih]; rfl
def opW : List Str := ["plus", "less", "times", "under", "same"]
/-- an expression as it is drawn over boxes bs, at most d deep -/
inductive OkE (bs : List Str) : Nat → Ex → Prop
  | num {d : Nat} {n : Int} (h0 : 0 ≤ n) (h1 : n < 1000003) : OkE bs d (.num n)
  | non {d : Nat} : OkE bs d .non
  | box {d : Nat} {b : Str} (h : b ∈ bs) : OkE bs d (.box b)
  | op {d : Nat} {w : Str} {a b : Ex} (hw : w ∈ opW) (ha : OkE bs d a) (hb : OkE bs d b) : OkE bs (d + 1) (.op w a b)
/-- a statement as it is drawn, at most d deep; ms: the functions' names and how many things each takes; l: within a while -/
inductive OkS (bs : List Str) (ms : List (Str × Nat)) (q : Nat) : Nat → Bool → Sm → Prop
  | set3 {d : Nat} {l : Bool} {w b : Str} {e : Ex} (hw : w ∈ (["set", "give", "all"] : List Str)) (hb : b ∈ bs) (he : OkE bs q e) : OkS bs ms q d l (.set3 w b e)
  | one {d : Nat} {l : Bool} {w : Str} {e : Ex} (hw : w ∈ (["say", "return", "close", "throw"] : List Str)) (he : OkE bs q e) : OkS bs ms q d l (.one w e)
  | jump {d : Nat} {w : Str} (hw : w ∈ (["break", "again"] : List Str)) : OkS bs ms q d true (.jump w)
  | make {d : Nat} {l : Bool} {b n : Str} {es : List Ex} (hb : b ∈ bs) (hn : (n, es.length) ∈ ms) (he : ∀ e ∈ es, OkE bs q e) : OkS bs ms q d l (.make b n es)
  | ifs {d : Nat} {l : Bool} {e : Ex} {x y : List Sm} (he : OkE bs q e) (hx : ∀ s ∈ x, OkS bs ms q d l s) (hy : ∀ s ∈ y, OkS bs ms q d l s) : OkS bs ms q (d + 1) l (.ifs e x y)
  | whl {d : Nat} {l : Bool} {e : Ex} {x : List Sm} (he : OkE bs q e) (hx : ∀ s ∈ x, OkS bs ms q d true s) : OkS bs ms q (d + 1) l (.whl e x)
  | pull {d : Nat} {l : Bool} {b w : Str} {e f : Ex} {x : List Sm} (hb : b ∈ bs) (hw : w ∈ (["ask", "toss"] : List Str)) (he : OkE bs q e) (hf : OkE bs q f) (hx : ∀ s ∈ x, OkS bs ms q d l s) : OkS bs ms q (d + 1) l (.pull b w e f x)
  | fin {d : Nat} {l : Bool} {x z : List Sm} (hx : ∀ s ∈ x, OkS bs ms q d l s) (hz : ∀ s ∈ z, OkS bs ms q d l s) (hn : z ≠ []) : OkS bs ms q (d + 1) l (.tri x none [] z)
  | tri {d : Nat} {l : Bool} {x y z : List Sm} {c : Str} (hc : c ∈ bs) (hx : ∀ s ∈ x, OkS bs ms q d l s) (hy : ∀ s ∈ y, OkS bs ms q d l s) (hz : ∀ s ∈ z, OkS bs ms q d l s) : OkS bs ms q (d + 1) l (.tri x (some c) y z)
/-! how many statements -/
mutual
def cnt : Sm → Nat
  | .ifs _ x y => 1 + cnts x + cnts y
  | .whl _ x => 1 + cnts x
  | .pull _ _ _ _ x => 1 + cnts x
  | .tri x _ y z => 1 + cnts x + cnts y + cnts z
  | _ => 1
def cnts : List Sm → Nat
  | [] => 0
  | s :: r => cnt s + cnts r
end
theorem cnts_app (x y : List Sm) : cnts (x ++ y) = cnts x + cnts y := by
  induction x with
  | nil => show cnts y = 0 + cnts y; omega
  | cons s r ih => show cnt s + cnts (r ++ y) = cnt s + cnts r + cnts y; rw [ih]; omega
/-! ### data made of tuples stay -/
mutual
def onlyT : PyData → Bool
  | .list _ => false
  | .dict _ => false
  | .tuple l => onlyTs l
  | _ => true
def onlyTs : List PyData → Bool
  | [] => true
  | d :: r => onlyT d && onlyTs r
end
/-- tuples stay -/
def Tk (H H' : Hp) : Prop := ∀ a u, (∃ xs, u = HO.tup xs) ∨ (∃ o v, u = HO.frz o v) → H a = some u → H' a = some u
theorem Tk.refl (H : Hp) : Tk H H := fun _ _ _ h => h
theorem Tk.trans {H H1 H2 : Hp} (a : Tk H H1) (b : Tk H1 H2) : Tk H H2 := fun c u hu h => b c u hu (a c u hu h)
theorem Tk.same {H H1 : Hp} (a : Same H H1) : Tk H H1 := fun c u _ h => a c u h
theorem Tk.new {H : Hp} {p : Addr} {o : HO} (h : H p = none) : Tk H (upd H p o) := .same (same_new h)
theorem Tk.seqT {K : PySem.W.Frag} {H H' : Hp} {a : Addr} {xs : List V} (t : Tk H H') (h : SqT K H a xs) : SqT K H' a xs := by
  rcases h with (h | ⟨o, h⟩) | h
  · exact .inl (.inl (t _ _ (.inl ⟨_, rfl⟩) h))
  · exact .inl (.inr ⟨o, t _ _ (.inr ⟨_, _, rfl⟩) h⟩)
  · exact .inr h
mutual
theorem Dp.tk {K : PySem.W.Frag} {H H' : Hp} (t : Tk H H') : ∀ (d : PyData) {v : V}, Dp K H v d → onlyT d = true → Dp K H' v d
  | .none, _, h, _ => by cases h; exact .non
  | .bool b, _, h, _ => by cases h; exact .bl b
  | .int i, _, h, _ => by cases h; exact .int i
  | .str x, _, h, _ => by cases h; exact .str x
  | .list l, _, _, o => by cases o
  | .tuple l, _, h, o => by
    cases h with
    | tup hs ha => exact .tup (t.seqT hs) (DpAll.tk t l ha o)
  | .dict l, _, h, _ => by cases h
theorem DpAll.tk {K : PySem.W.Frag} {H H' : Hp} (t : Tk H H') : ∀ (ds : List PyData) {vs : List V}, DpAll K H vs ds → onlyTs ds = true → DpAll K H' vs ds
  | [], _, h, _ => by cases h; exact .nil
  | d :: ds, _, h, o => by
    cases h with
    | cons h1 h2 =>
      have o' : (onlyT d && onlyTs ds) = true := o
      obtain ⟨o1, o2⟩ := Bool.and_eq_true_iff.mp o'
      exact .cons (Dp.tk t d h1 o1) (DpAll.tk t ds h2 o2)
end
theorem only_ex : ∀ e : Ex, onlyT (exD e) = true
  | .num n => rfl
  | .non => rfl
  | .box b => rfl
  | .op w a b => by show (true && (onlyT (exD a) && (onlyT (exD b) && true))) = true; rw [only_ex a, only_ex b]; rfl
theorem only_exs : ∀ l : List Ex, onlyTs (l.map exD) = true
  | [] => rfl
  | e :: l => by show (onlyT (exD e) && onlyTs (l.map exD)) = true; rw [only_ex e, only_exs l]; rfl
theorem only_opt (c : Option Str) : onlyT (optD c) = true := by cases c <;> rfl
mutual
theorem only_sm : ∀ s : Sm, onlyT (smD s) = true
  | .set3 w b e => by show (true && (true && (onlyT (exD e) && true))) = true; rw [only_ex]; rfl
  | .one w e => by show (true && (onlyT (exD e) && true)) = true; rw [only_ex]; rfl
  | .jump w => rfl
  | .make b n es => by show (true && (true && (true && (onlyTs (es.map exD) && true)))) = true; rw [only_exs]; rfl
  | .ifs e x y => by show (true && (onlyT (exD e) && (onlyTs (smsD x) && (onlyTs (smsD y) && true)))) = true; rw [only_ex, only_sms x, only_sms y]; rfl
  | .whl e x => by show (true && (onlyT (exD e) && (onlyTs (smsD x) && true))) = true; rw [only_ex, only_sms x]; rfl
  | .pull b w e f x => by show (true && (true && (true && (onlyT (exD e) && (onlyT (exD f) && (onlyTs (smsD x) && true)))))) = true; rw [only_ex, only_ex, only_sms x]; rfl
  | .tri x c y z => by show (true && (onlyTs (smsD x) && (onlyT (optD c) && (onlyTs (smsD y) && (onlyTs (smsD z) && true))))) = true; rw [only_opt, only_sms x, only_sms y, only_sms z]; rfl
theorem only_sms : ∀ l : List Sm, onlyTs (smsD l) = true
  | [] => rfl
  | s :: r => by show (onlyT (smD s) && onlyTs (smsD r)) = true; rw [only_sm s, only_sms r]; rfl
end
/-- all stands but the state's two things and what M tells -/
def Fq (d : Dr) (M : Addr → Prop) (H H' : Hp) : Prop := ∀ b o, H b = some o → b ≠ d.s → b ≠ d.g → ¬ M b → H' b = some o
section
variable {d : Dr} {M : Addr → Prop} {H H1 H2 H' : Hp} {n : Nat} {p : Addr} {o : HO}
theorem Fq.refl (H : Hp) : Fq d M H H := fun _ _ h _ _ _ => h
theorem Fq.trans (a : Fq d M H H1) (b : Fq d M H1 H2) : Fq d M H H2 := fun c o h h1 h2 h3 => b c o (a c o h h1 h2 h3) h1 h2 h3
theorem Fq.of (a : Fr d H H1) : Fq d M H H1 := fun c o h h1 h2 _ => a c o h h1 h2
theorem Fq.new (h : H p = none) : Fq d M H (upd H p o) := .of (.new h)
theorem Fq.same (a : Same H H1) : Fq d M H H1 := fun c o h _ _ _ => a c o h
theorem Fr.tk (f : Fr d H H') (S : StAt H d n) : Tk H H' := by
  obtain ⟨r, t, sd, gs, cs, R, _⟩ := S
  intro a u hu h
  refine f a u h ?_ ?_
  · rintro rfl
    rw [R.hs] at h
    cases h
    rcases hu with ⟨_, e⟩ | ⟨_, _, e⟩ <;> cases e
  · rintro rfl
    rw [R.hg] at h
    cases h
    rcases hu with ⟨_, e⟩ | ⟨_, _, e⟩ <;> cases e
theorem Fq.tk (f : Fq d M H H') (S : StAt H d n) (hm : ∀ a u, M a → H a = some u → ∃ kvs, u = HO.dK kvs) : Tk H H' := by
  obtain ⟨r, t, sd, gs, cs, R, _⟩ := S
  intro a u hu h
  refine f a u h ?_ ?_ ?_
  · rintro rfl
    rw [R.hs] at h
    cases h
    rcases hu with ⟨_, e⟩ | ⟨_, _, e⟩ <;> cases e
  · rintro rfl
    rw [R.hg] at h
    cases h
    rcases hu with ⟨_, e⟩ | ⟨_, _, e⟩ <;> cases e
  · intro m
    obtain ⟨kvs, rfl⟩ := hm a u m h
    rcases hu with ⟨_, e⟩ | ⟨_, _, e⟩ <;> cases e
end
/-! ### the kit from which statements are drawn -/
theorem kk_bm : ¬ (("boxes" : Str) = "makes") := by decide +kernel
theorem kk_bl : ¬ (("boxes" : Str) = "left") := by decide +kernel
theorem kk_bs : ¬ (("boxes" : Str) = "sums") := by decide +kernel
theorem kk_ml : ¬ (("makes" : Str) = "left") := by decide +kernel
theorem kk_ms : ¬ (("makes" : Str) = "sums") := by decide +kernel
theorem kk_ls : ¬ (("left" : Str) = "sums") := by decide +kernel
theorem kk_sl : ¬ (("sums" : Str) = "left") := by decide +kernel
def kitK (b m : Addr) (l q : Int) : List (Key × V) := [(.inr "boxes", .ref b), (.inr "makes", .ref m), (.inr "left", .int l), (.inr "sums", .int q)]
section
variable {H : Hp} {k b m : Addr} {l q : Int}
theorem kt_boxes (h : H k = some (.dK (kitK b m l q))) : DGet H k (.str "boxes") (some (.ref b)) :=
  (show valV (kitK b m l q) (.inr "boxes" : Key) = some (.ref b) from valV_pos rfl) ▸ DGet.k (k := (.inr "boxes" : Key)) h
theorem kt_makes (h : H k = some (.dK (kitK b m l q))) : DGet H k (.str "makes") (some (.ref m)) :=
  (show valV (kitK b m l q) (.inr "makes" : Key) = some (.ref m) from (valV_neg (kne kk_bm)).trans (valV_pos rfl)) ▸ DGet.k (k := (.inr "makes" : Key)) h
theorem kt_left (h : H k = some (.dK (kitK b m l q))) : DGet H k (.str "left") (some (.int l)) :=
  (show valV (kitK b m l q) (.inr "left" : Key) = some (.int l) from (valV_neg (kne kk_bl)).trans ((valV_neg (kne kk_ml)).trans (valV_pos rfl))) ▸ DGet.k (k := (.inr "left" : Key)) h
theorem kt_sums (h : H k = some (.dK (kitK b m l q))) : DGet H k (.str "sums") (some (.int q)) :=
  (show valV (kitK b m l q) (.inr "sums" : Key) = some (.int q) from (valV_neg (kne kk_bs)).trans ((valV_neg (kne kk_ms)).trans ((valV_neg (kne kk_ls)).trans (valV_pos rfl)))) ▸ DGet.k (k := (.inr "sums" : Key)) h
theorem put_left {y : Int} : putK (kitK b m l q) (.inr "left" : Key) (.int y) = kitK b m y q := by
  simp [putK, kitK, kk_bl, kk_ml, kk_sl]
  try decide +kernel
theorem kt_put (h : H k = some (.dK (kitK b m l q))) {y : Int} : DPut H k (.str "left") (.int y) (upd H k (.dK (kitK b m y q))) :=
  put_left (l := l) (y := y) ▸ DPut.k (k := (.inr "left" : Key)) (v := .int y) h (show 4 < sizeLine by decide)
theorem merge_kit {bv mv lv sv : V} : mergeK [] [((.inr "boxes" : Key), bv), (.inr "makes", mv), (.inr "left", lv), (.inr "sums", sv)] =
    [((.inr "boxes" : Key), bv), (.inr "makes", mv), (.inr "left", lv), (.inr "sums", sv)] := by
  simp [mergeK, putK, kk_bm, kk_bl, kk_bs, kk_ml, kk_ms, kk_ls]
end
/-- what a kit is, beside how many statements are left -/
structure KitN (d : Dr) (k b m : Addr) (bs : List Str) (ms : List (Str × Nat)) (q : Nat) : Prop where
  ks : k ≠ d.s
  kc : k ≠ d.c
  bg : b ≠ d.g
  mg : m ≠ d.g
  b0 : bs ≠ []
  bl : bs.length ≤ 100
  bn : ∀ z ∈ bs, Nm z
  m0 : ms ≠ []
  ml : ms.length ≤ 100
  m3 : ∀ u ∈ ms, u.2 ≤ 3
  mn : ∀ u ∈ ms, Nm u.1
  q1 : 1 ≤ q
  q4 : q ≤ 4
structure Kit (H : Hp) (k b m : Addr) (bs : List Str) (ms : List (Str × Nat)) (q L : Nat) : Prop where
  hk : H k = some (.dK (kitK b m (L : Int) (q : Int)))
  hb : H b = some (.lst (bs.map V.str))
  hm : ∃ xs, H m = some (.lst xs) ∧ xs.length = ms.length ∧ ∀ x ∈ xs, ∃ p t s, x = .ref p ∧ H p = some (.tup [.str t, .int ((s : Nat) : Int)]) ∧ (t, s) ∈ ms
abbrev Is (k : Addr) : Addr → Prop := fun a => a = k
section
variable {d : Dr} {k b m : Addr} {bs : List Str} {ms : List (Str × Nat)} {q L L' n : Nat} {H H' H1 : Hp} {p : Addr} {o : HO}
theorem Kit.kg (kt : Kit H k b m bs ms q L) (S : StAt H d n) : k ≠ d.g := by
  obtain ⟨r, t, sd, gs, cs, R, _⟩ := S
  exact ne_of kt.hk R.hg (by intro z; cases z)
theorem Kit.fq (kt : Kit H k b m bs ms q L) (N : KitN d k b m bs ms q) (S : StAt H d n) (f : Fq d (Is k) H H') (hk : H' k = some (.dK (kitK b m (L' : Int) (q : Int)))) : Kit H' k b m bs ms q L' := by
  obtain ⟨r, t, sd, gs, cs, R, _⟩ := S
  obtain ⟨xs, hx, hl, hi⟩ := kt.hm
  refine ⟨hk, f _ _ kt.hb (ne_of kt.hb R.hs (by intro z; cases z)) N.bg (ne_of kt.hb kt.hk (by intro z; cases z)), xs, f _ _ hx (ne_of hx R.hs (by intro z; cases z)) N.mg (ne_of hx kt.hk (by intro z; cases z)), hl, fun x m => ?_⟩
  obtain ⟨p, t, s, e, hp, h⟩ := hi x m
  exact ⟨p, t, s, e, f _ _ hp (ne_of hp R.hs (by intro z; cases z)) (ne_of hp R.hg (by intro z; cases z)) (ne_of hp kt.hk (by intro z; cases z)), h⟩
theorem Kit.fr (kt : Kit H k b m bs ms q L) (N : KitN d k b m bs ms q) (S : StAt H d n) (f : Fr d H H') : Kit H' k b m bs ms q L :=
  kt.fq N S (.of f) (f _ _ kt.hk N.ks (kt.kg S))
theorem Kit.new (kt : Kit H k b m bs ms q L) (N : KitN d k b m bs ms q) (S : StAt H d n) (h : H p = none) : Kit (upd H p o) k b m bs ms q L := kt.fr N S (.new h)
/-- one statement less is left -/
theorem Kit.put (kt : Kit H k b m bs ms q L) : Kit (upd H k (.dK (kitK b m (L' : Int) (q : Int)))) k b m bs ms q L' := by
  obtain ⟨xs, hx, hl, hi⟩ := kt.hm
  refine ⟨upd_same, by rw [upd_ne (ne_of kt.hb kt.hk (by intro z; cases z))]; exact kt.hb, xs, by rw [upd_ne (ne_of hx kt.hk (by intro z; cases z))]; exact hx, hl, fun x m => ?_⟩
  obtain ⟨p, t, s, e, hp, h⟩ := hi x m
  exact ⟨p, t, s, e, by rw [upd_ne (ne_of hp kt.hk (by intro z; cases z))]; exact hp, h⟩
theorem Kit.fput (o : HO) : Fq d (Is k) H (upd H k o) := fun c u e _ _ h => by rw [upd_ne h]; exact e
theorem Kit.tk (kt : Kit H k b m bs ms q L) (S : StAt H d n) (f : Fq d (Is k) H H') : Tk H H' :=
  f.tk S fun a u e h => by
    have e' : a = k := e
    subst e'
    rw [kt.hk] at h
    cases h
    exact ⟨_, rfl⟩
theorem cS_le (h : q ≤ 4) : cS q ≤ 150 := by
  match q, h with
  | 0, _ => decide
  | 1, _ => decide
  | 2, _ => decide
  | 3, _ => decide
  | 4, _ => decide
end
/-- how many draws a body takes at most, a statement, one with bodies -/
def cB : Nat → Nat
  | 0 => 0
  | d + 1 => 3009 + 12 * cB d
def cX : Nat → Nat
  | 0 => 0
  | d + 1 => 752 + 3 * cB d
def cO : Nat → Nat
  | 0 => 0
  | d + 1 => 150 + 3 * cB d
theorem Dp.same {K : PySem.W.Frag} {H H' : Hp} (s : Same H H') : ∀ (d : PyData) {v : V}, Dp K H v d → onlyT d = true → Dp K H' v d := fun d _ h o => Dp.tk (.same s) d h o
/-! ### how deep the data is, what signs stand in it -/
def Ly (D : Nat) (d : PyData) : Prop := d.canLay0 = true ∧ d.depth ≤ D
def Lys (D : Nat) (l : List PyData) : Prop := PyData.canLayAll0 l = true ∧ PyData.depthAll l ≤ D
theorem Lys.nil {D : Nat} : Lys D [] := ⟨rfl, Nat.zero_le _⟩
theorem Lys.cons {D : Nat} {d : PyData} {l : List PyData} (h : Ly D d) (h2 : Lys D l) : Lys D (d :: l) := by
  refine ⟨?_, ?_⟩
  · show (d.canLay0 && PyData.canLayAll0 l) = true
    rw [h.1, h2.1]; rfl
  · show max d.depth (PyData.depthAll l) ≤ D
    exact Nat.max_le.mpr ⟨h.2, h2.2⟩
theorem Ly.tup {D : Nat} {l : List PyData} (h : Lys D l) : Ly (D + 1) (.tuple l) := ⟨h.1, by show PyData.depthAll l + 1 ≤ D + 1; have := h.2; omega⟩
theorem Ly.mono {D E : Nat} {d : PyData} (h : Ly D d) (e : D ≤ E) : Ly E d := ⟨h.1, Nat.le_trans h.2 e⟩
theorem Ly.str {D : Nat} {z : Str} (h : Nm z) : Ly D (.str z) := ⟨h.tx.lay, Nat.zero_le _⟩
theorem Ly.word {D : Nat} {z : Str} (h : (PyData.str z).canLay0 = true) : Ly D (.str z) := ⟨h, Nat.zero_le _⟩
theorem Ly.int {D : Nat} {i : Int} : Ly D (.int i) := ⟨rfl, Nat.zero_le _⟩
theorem Ly.non {D : Nat} : Ly D .none := ⟨rfl, Nat.zero_le _⟩
theorem ly_word {D : Nat} {l : List Str} {w : Str} (h : w ∈ l) (hl : ∀ z ∈ l, (PyData.str z).canLay0 = true) : Ly D (.str w) := .word (hl w h)
theorem ly_ex {bs : List Str} (bn : ∀ z ∈ bs, Nm z) {d : Nat} {e : Ex} (h : OkE bs d e) : Ly (d + 1) (exD e) := by
  induction h with
  | num _ _ => exact .tup (.cons (.word (by decide +kernel)) (.cons .int .nil))
  | non => exact .tup (.cons (.word (by decide +kernel)) .nil)
  | box hb => exact .tup (.cons (.word (by decide +kernel)) (.cons (.str (bn _ hb)) .nil))
  | op hw _ _ i1 i2 => exact .tup (.cons (ly_word hw (by decide +kernel)) (.cons i1 (.cons i2 .nil)))
theorem ly_exs {bs : List Str} (bn : ∀ z ∈ bs, Nm z) {d : Nat} : ∀ {es : List Ex}, (∀ e ∈ es, OkE bs d e) → Lys (d + 1) (es.map exD)
  | [], _ => .nil
  | e :: es, h => .cons (ly_ex bn (h e List.mem_cons_self)) (ly_exs bn fun x hx => h x (List.mem_cons_of_mem _ hx))
theorem ly_sms {D : Nat} : ∀ {x : List Sm}, (∀ s ∈ x, Ly D (smD s)) → Lys D (smsD x)
  | [], _ => .nil
  | s :: x, h => .cons (h s List.mem_cons_self) (ly_sms fun y hy => h y (List.mem_cons_of_mem _ hy))
theorem ly_body {D : Nat} {x : List Sm} (h : ∀ s ∈ x, Ly D (smD s)) : Ly (D + 1) (bodyD x) := .tup (ly_sms h)
theorem ly_sm {bs : List Str} {ms : List (Str × Nat)} {q : Nat} (bn : ∀ z ∈ bs, Nm z) (mn : ∀ u ∈ ms, Nm u.1) {d : Nat} {l : Bool} {s : Sm} (h : OkS bs ms q d l s) : Ly (q + 3 + 2 * d) (smD s) := by
  induction h with
  | set3 hw hb he => exact (Ly.tup (.cons (ly_word hw (by decide +kernel)) (.cons (.str (bn _ hb)) (.cons (ly_ex bn he) .nil)))).mono (by omega)
  | one hw he => exact (Ly.tup (.cons (ly_word hw (by decide +kernel)) (.cons (ly_ex bn he) .nil))).mono (by omega)
  | jump hw => exact (Ly.tup (D := 0) (.cons (ly_word hw (by decide +kernel)) .nil)).mono (by omega)
  | make hb hn he => exact (Ly.tup (.cons (.word (by decide +kernel)) (.cons (.str (bn _ hb)) (.cons (.str (mn _ hn)) (.cons (.tup (ly_exs bn he)) .nil))))).mono (by omega)
  | @ifs d l e x y he hx hy i1 i2 => exact (Ly.tup (D := q + 3 + 2 * d + 1) (.cons (.word (by decide +kernel)) (.cons ((ly_ex bn he).mono (by omega)) (.cons (ly_body i1) (.cons (ly_body i2) .nil))))).mono (by omega)
  | @whl d l e x he hx i1 => exact (Ly.tup (D := q + 3 + 2 * d + 1) (.cons (.word (by decide +kernel)) (.cons ((ly_ex bn he).mono (by omega)) (.cons (ly_body i1) .nil)))).mono (by omega)
  | @pull d l b w e f x hb hw he hf hx i1 => exact (Ly.tup (D := q + 3 + 2 * d + 1) (.cons (.word (by decide +kernel)) (.cons (.str (bn _ hb)) (.cons (ly_word hw (by decide +kernel)) (.cons ((ly_ex bn he).mono (by omega)) (.cons ((ly_ex bn hf).mono (by omega)) (.cons (ly_body i1) .nil))))))).mono (by omega)
  | @fin d l x z hx hz hn i1 i2 => exact (Ly.tup (D := q + 3 + 2 * d + 1) (.cons (.word (by decide +kernel)) (.cons (ly_body i1) (.cons .non (.cons (.mono (.tup (D := 0) .nil) (by omega)) (.cons (ly_body i2) .nil)))))).mono (by omega)
  | @tri d l x y z c hc hx hy hz i1 i2 i3 => exact (Ly.tup (D := q + 3 + 2 * d + 1) (.cons (.word (by decide +kernel)) (.cons (ly_body i1) (.cons (.str (bn _ hc)) (.cons (ly_body i2) (.cons (ly_body i3) .nil)))))).mono (by omega)
theorem Ly.shapedT {D : Nat} {l : List PyData} (h : Ly D (.tuple l)) (e : D ≤ 60) : SeqAt.shaped (.tuple l) = true := by
  show (PyData.canLayAll0 l && decide (PyData.depthAll l + 1 ≤ 64)) = true
  have h2 : PyData.depthAll l + 1 ≤ D := h.2
  rw [show PyData.canLayAll0 l = true from h.1, decide_eq_true (by omega)]; rfl
theorem eqv_nilT (l : List PyData) : PyData.eqv (.tuple l) (.tuple []) = l.isEmpty := by cases l <;> rfl
theorem dp_snoc {K : PySem.W.Frag} {H : Hp} {v : V} {d : PyData} (h2 : Dp K H v d) : ∀ {vs : List V} {ds : List PyData}, DpAll K H vs ds → DpAll K H (vs ++ [v]) (ds ++ [d])
  | [], _, h => by cases h; exact .cons h2 .nil
  | x :: vs, _, h => by
    cases h with
    | cons h1 hr => exact .cons h1 (dp_snoc h2 hr)
theorem Tk.lst {H : Hp} {D : Addr} {xs : List V} {o : HO} (h : H D = some (.lst xs)) : Tk H (upd H D o) := by
  intro a u hu e
  rw [upd_ne]
  · exact e
  · rintro rfl
    rw [h] at e
    cases e
    rcases hu with ⟨_, z⟩ | ⟨_, _, z⟩ <;> cases z
theorem sms_snoc (x : List Sm) (s : Sm) : smsD (x ++ [s]) = smsD x ++ [smD s] := by
  rw [smsD_map, smsD_map, List.map_append]; rfl
theorem Kit.lst {k b m D : Addr} {bs : List Str} {ms : List (Str × Nat)} {q L : Nat} {H : Hp} {xs ys : List V} (kt : Kit H k b m bs ms q L) (hD : H D = some (.lst xs)) (nb : D ≠ b) (nm : D ≠ m) : Kit (upd H D (.lst ys)) k b m bs ms q L := by
  obtain ⟨zs, hy, hyl, hyi⟩ := kt.hm
  refine ⟨by rw [upd_ne (ne_of kt.hk hD (by intro z; cases z))]; exact kt.hk, by rw [upd_ne (Ne.symm nb)]; exact kt.hb, zs, by rw [upd_ne (Ne.symm nm)]; exact hy, hyl, fun x hx => ?_⟩
  obtain ⟨p2, t3, s3, e3, hp2, h3⟩ := hyi x hx
  refine ⟨p2, t3, s3, e3, ?_, h3⟩
  rw [upd_ne (ne_of hp2 hD (by intro z; cases z))]
  exact hp2
/-! ### functions -/
structure Fu where
  n : Str
  ps : List Str
  b : List Sm
def fuD (f : Fu) : PyData := .tuple [.str f.n, .tuple (f.ps.map PyData.str), bodyD f.b]
def fuM (f : Fu) : Str × Nat := (f.n, f.ps.length)
/-- a function as it is drawn: its boxes begin with its params -/
structure OkF (ms : List (Str × Nat)) (q d L : Nat) (f : Fu) : Prop where
  n : Nm f.n
  p3 : f.ps.length ≤ 3
  bs : ∃ bs : List Str, bs.Nodup ∧ bs.length ≤ 20 ∧ (∀ z ∈ bs, Nm z) ∧ (∃ r, bs = f.ps ++ r) ∧ ∀ s ∈ f.b, OkS bs ms q d false s
  c : cnts f.b ≤ L
theorem OkF.pn {ms : List (Str × Nat)} {q d L : Nat} {f : Fu} (h : OkF ms q d L f) : ∀ z ∈ f.ps, Nm z := by
  obtain ⟨bs, _, _, hn, ⟨r, rfl⟩, _⟩ := h.bs
  exact fun z hz => hn z (List.mem_append_left _ hz)
theorem OkF.nd {ms : List (Str × Nat)} {q d L : Nat} {f : Fu} (h : OkF ms q d L f) : f.ps.Nodup := by
  obtain ⟨bs, h1, _, hn, ⟨r, rfl⟩, _⟩ := h.bs
  exact (List.nodup_append.mp h1).1
theorem only_strs : ∀ l : List Str, onlyTs (l.map PyData.str) = true
  | [] => rfl
  | z :: l => by show (true && onlyTs (l.map PyData.str)) = true; rw [only_strs l]; rfl
theorem only_fu (f : Fu) : onlyT (fuD f) = true := by
  show (true && (onlyTs (f.ps.map PyData.str) && (onlyTs (smsD f.b) && true))) = true
  rw [only_strs, only_sms]; rfl
theorem only_fus : ∀ l : List Fu, onlyTs (l.map fuD) = true
  | [] => rfl
  | f :: l => by show (onlyT (fuD f) && onlyTs (l.map fuD)) = true; rw [only_fu f, only_fus l]; rfl
/-- the functions of a book as they are drawn -/
structure OkB (most q d L : Nat) (fs : List Fu) : Prop where
  f0 : fs ≠ []
  fl : fs.length ≤ most
  nd : (fs.map (·.n)).Nodup
  ok : ∀ f ∈ fs, OkF (fs.map fuM) q d L f
/-- the pairs of a name and how many things it takes, as they lie in a list -/
inductive Szs (H : Hp) : List V → List (Str × Nat) → Prop
  | nil : Szs H [] []
  | cons {p : Addr} {t : Str} {s : Nat} {vs : List V} {us : List (Str × Nat)} (h : H p = some (.tup [.str t, .int (s : Int)])) (r : Szs H vs us) : Szs H (.ref p :: vs) ((t, s) :: us)
theorem Szs.len {H : Hp} {vs : List V} {us : List (Str × Nat)} (h : Szs H vs us) : vs.length = us.length := by
  induction h with
  | nil => rfl
  | cons _ _ ih => rw [List.length_cons, List.length_cons, ih]
theorem Szs.tk {H H' : Hp} {vs : List V} {us : List (Str × Nat)} (h : Szs H vs us) (t : Tk H H') : Szs H' vs us := by
  induction h with
  | nil => exact .nil
  | cons e _ ih => exact .cons (t _ _ (.inl ⟨_, rfl⟩) e) ih
theorem Szs.snoc {H : Hp} {p : Addr} {t : Str} {s : Nat} (e : H p = some (.tup [.str t, .int (s : Int)])) : ∀ {vs : List V} {us : List (Str × Nat)}, Szs H vs us → Szs H (vs ++ [.ref p]) (us ++ [(t, s)])
  | _, _, .nil => .cons e .nil
  | _, _, .cons h r => .cons h (Szs.snoc e r)
theorem Szs.at {H : Hp} {vs : List V} {us : List (Str × Nat)} (h : Szs H vs us) : ∀ {i : Nat} {x : V}, vs[i]? = some x → ∃ p t s, x = .ref p ∧ us[i]? = some (t, s) ∧ H p = some (.tup [.str t, .int ((s : Nat) : Int)]) := by
  induction h with
  | nil => intro i x h; simp at h
  | @cons p t s vs us e r ih =>
    intro i x h
    cases i with
    | zero => exact ⟨p, t, s, (Option.some.inj h).symm, rfl, e⟩
    | succ i =>
      rw [List.getElem?_cons_succ] at h
      obtain ⟨p2, t2, s2, h1, h2, h3⟩ := ih h
      exact ⟨p2, t2, s2, h1, by rw [List.getElem?_cons_succ]; exact h2, h3⟩
theorem Szs.mem {H : Hp} {vs : List V} {us : List (Str × Nat)} (h : Szs H vs us) {x : V} (m : x ∈ vs) : ∃ p t s, x = .ref p ∧ H p = some (.tup [.str t, .int ((s : Nat) : Int)]) ∧ (t, s) ∈ us := by
  obtain ⟨i, hi, e⟩ := List.mem_iff_getElem.mp m
  obtain ⟨p, t, s, hx, hu, hp⟩ := h.at (i := i) (x := x) (by rw [List.getElem?_eq_getElem hi, e])
  exact ⟨p, t, s, hx, hp, List.mem_of_getElem? hu⟩
theorem cutV_take (l : List V) (s : Nat) : cutV l none (some (s : Int)) = l.take s := by
  have e : HT.sIx l.length l.length (some (s : Int)) = min s l.length := by
    show (if (s : Int) < 0 then ((s : Int) + (l.length : Int)).toNat else min (s : Int).toNat l.length) = _
    rw [if_neg (by omega)]
    rfl
  show (l.drop 0).take (HT.sIx l.length l.length (some (s : Int)) - 0) = _
  rw [e, List.drop_zero, Nat.sub_zero]
  by_cases h : s ≤ l.length
  · rw [Nat.min_eq_left h]
  · rw [Nat.min_eq_right (by omega), List.take_of_length_le (Nat.le_refl _), List.take_of_length_le (by omega)]
end LK
set_option Elab.async false
set_option linter.all false
set_option maxRecDepth 100000
set_option maxHeartbeats 4000000
namespace K26
open PySem PySem.Spec PyProof.Rows L2 Evl LK
def top (i : Nat) : Stmt := PySem.Challenge.pw_frozenmakers_k26_tables_told.main.body.getD i (.Pass ⟨0, 0, 0, 0⟩)
abbrev rw_ := PySem.Challenge.rw_frozenmakers_k26_tables_told
abbrev FnP (K : PySem.W.Frag) (x : Str) (st : Stmt) (f : Addr) (fd : FuncData) : Prop := FunD K x x (defArgs st) (defBody st) (defScope st) [] [] f fd
abbrev s_rising : Stmt := top 1
abbrev s_law_begun : Stmt := top 4
abbrev s_law_take : Stmt := top 5
abbrev s_law_pick : Stmt := top 6
abbrev s_law_row : Stmt := top 7
abbrev s_law_other : Stmt := top 8
abbrev s_law_made : Stmt := top 9
abbrev s_law_fields_right : Stmt := top 10
abbrev s_law : Stmt := top 11
end K26

set_option Elab.async false
set_option linter.all false
set_option maxRecDepth 100000
set_option maxHeartbeats 4000000
namespace K26
open PySem PySem.Spec PyProof.Rows L2 Evl LK
/-! ### draws -/
def spTake : Sp := fun vs H Q _ => ∃ (d : Dr) (m : Int) (n : Nat), vs = [.ref d.s, .int m] ∧ StAt H d n ∧ n < 1000000000000000 ∧ 0 < m ∧ m < 1073741824 ∧
  ∀ (r : Int) (H' : Hp), 0 ≤ r → r < m → StAt H' d (n + 1) → LK.Fr d H H' → Q (.int r) H'
section
variable {P : Program} {w : World} {K : PySem.W.Frag} {mg : Str → Option Value} {base : Heap}
theorem scTake : FnScope ["state", "many", "found", "turn", "cell", "seed", "mixed"] ["state", "many"] (defScope s_law_take) := ⟨rfl, rfl, rfl, by decide +kernel, rfl, by decide +kernel, by decide +kernel⟩
theorem ok_take {f : Addr} {fd : FuncData} (F : FnP K "_law_take" s_law_take f fd) (mlen : mg "len" = none) : FnOk P w K mg base CX0 1 f fd ["state", "many"] spTake := by
  refine F.ok scTake (fun vs H Q E h => ?_) (fun cdv A outer s H vs Q E hr h => ?_)
  · obtain ⟨d, m, n, rfl, _⟩ := h
    rfl
  · obtain ⟨d, m, n, rfl, S, hn, hm0, hm1, q⟩ := h
    have hu := hu_of hr
    have hu64 := hr.units
    refine ⟨_, PSs.nox (pss_cut (ps_if (PW.pt (pw_and (pt_cmpR op_eq (pe_dget hu (pv 0) pe_str (fun _ _ => rfl)) pe_int (nomark _)) (pw_and1 (pt_cmpR (op_neD hu64) (pe_dget hu (pv 0) pe_str (fun _ _ => rfl)) (pe_lst pa_nil) (nomark _)))))
        (pss_one (ps_dput hu (pv 0) pe_str (pe_bm PySem.F.plainAttrs_list PySem.F.slot_list_pop PySem.F.type_list_pop mt_popAt (pe_dget hu (pv 0) pe_str (fun _ _ => rfl)) (pa_cons pe_int pa_nil)) rfl)) pss_nil)
      (pss_cons (ps_if (pt_cmpR op_gt (pe_dget hu (pv 0) pe_str (fun _ _ => rfl)) pe_int (nomark _))
        (pss_cons (ps_set (i := 2) scTake.nd rfl (Or.inl rfl) (pe_op op_mod (pe_dget hu (pv 0) pe_str (fun _ _ => rfl)) (pv 1)))
        (pss_cons (ps_dput hu (pv 0) pe_str (pe_op op_fdiv (pe_dget hu (pv 0) pe_str (fun _ _ => rfl)) (pv 1)) rfl)
        (pss_one (ps_ret (pv 2))))) pss_nil)
      (pss_cons (ps_set (i := 3) scTake.nd rfl (Or.inl rfl) (pe_dget hu (pv 0) pe_str (fun _ _ => rfl)))
      (pss_cons (ps_dput hu (pv 0) pe_str (pe_op op_add (pv 3) pe_int) rfl)
      (pss_cons (ps_set (i := 4) scTake.nd rfl (Or.inl rfl) (pe_ix ix_list (pe_dget hu (pv 0) pe_str (fun _ _ => rfl)) (pe_op op_mod (pv 3) (pe_callB call_len_seq (by rfl) mlen PySem.boot_len (pa_cons (pe_dget hu (pv 0) pe_str (fun _ _ => rfl)) pa_nil))) (fun _ _ => rfl)))
      (pss_cons (ps_set (i := 5) scTake.nd rfl (Or.inl rfl) (pe_op op_mod (pe_op op_add (pe_op op_add (pe_op op_mul (pe_dget hu (pv 0) pe_str (fun _ _ => rfl)) pe_int) (pe_op op_mul (pv 4) (pe_op op_add (pe_op op_mul pe_int (pv 3)) pe_int))) (pe_op op_pow (pv 3) pe_int)) pe_int))
      (pss_cons (ps_dput hu (pv 0) pe_str (pv 5) rfl)
      (pss_cons (ps_set (i := 6) scTake.nd rfl (Or.inl rfl) (pe_op op_add (pe_op op_mul (pe_op op_mod (pe_op op_pow (pv 5) pe_int) pe_int) pe_int) (pe_op op_mod (pe_op op_pow (pv 5) pe_int) pe_int)))
      (pss_one (ps_ret (pe_op op_mod (pe_op op_fdiv (pv 6) pe_int) (pv 1))))))))))) ), ?_⟩
    obtain ⟨r, t, sd, gs, cs, R, N⟩ := S
    have e0 := N.s0
    have e1 := N.s1
    -- if state['rest'] == 0 and state['great'] != []: state['rest'] = state['great'].pop(0)
    refine ⟨fun σ' H' => σ' = [some (.ref d.s), some (.int m), none, none, none, none, none] ∧ StAt H' d n ∧ LK.Fr d H H', ?_, ?_⟩
    · refine ⟨_, rfl, _, _, rfl, g_rest R, rfl, _, rfl, ?_⟩
      refine ite2 (fun z => ?_) (fun z => ?_)
      · refine ⟨_, rfl, _, _, rfl, g_great R, by show 0 ≤ sizeLine; exact Nat.zero_le _, fun p hp => ?_⟩
        have R1 := R.new (o := .lst []) hp
        refine ⟨.list (gs.map .int), .list [], .lst (SqL.of R1.hg) (dp_ints gs), .lst (SqL.of upd_same) .nil, shaped_ints gs, by decide, _, rfl, ?_⟩
        cases gs with
        | nil =>
          refine iteF ?_
          exact ⟨rfl, ⟨r, t, sd, [], cs, R1, N⟩, LK.Fr.new hp⟩
        | cons y gs =>
          refine iteT ?_
          refine ⟨_, rfl, _, _, rfl, g_great R1, Or.inl ⟨rfl, _, SqL.of R1.hg⟩, ?_⟩
          refine ⟨d.g, _, 0, 0, .int y, rfl, rfl, R1.hg, by decide, by decide, seq0, rfl, ?_⟩
          have R2 := R1.pop (gs' := gs)
          refine ⟨_, rfl, d.s, _, rfl, p_rest R2, ?_⟩
          refine ⟨rfl, ⟨y, t, sd, gs, cs, R2.put, { N with r0 := N.gs0 y List.mem_cons_self, gs0 := fun z hz => N.gs0 z (List.mem_cons_of_mem _ hz), gsl := by have := N.gsl; rw [List.length_cons] at this; omega }⟩, ?_⟩
          exact ((LK.Fr.new hp).trans LK.Fr.g).trans LK.Fr.s
      · refine iteF ?_
        exact ⟨rfl, ⟨r, t, sd, gs, cs, R, N⟩, LK.Fr.refl H⟩
    clear R N e0 e1 r t sd gs cs
    rintro σ' H1 ⟨rfl, ⟨r, t, sd, gs, cs, R, N⟩, fr⟩
    have e0 := N.s0
    have e1 := N.s1
    -- if state['rest'] > 0
    refine ⟨_, rfl, _, _, rfl, g_rest R, _, _, rfl, rfl, _, rfl, ?_⟩
    refine ite2 (fun z => ?_) (fun z => ?_)
    · refine ⟨_, rfl, _, _, rfl, g_rest R, _, rfl, _, _, rfl, rfl, hm0, ?_⟩
      refine ⟨_, rfl, _, _, rfl, g_rest R, _, rfl, _, _, rfl, rfl, ⟨hm0, hm1⟩, _, rfl, d.s, _, rfl, p_rest R, ?_⟩
      refine ⟨_, rfl, ?_⟩
      refine q _ _ (Int.emod_nonneg _ (by omega)) (Int.emod_lt_of_pos _ hm0) ⟨_, t, sd, gs, cs, R.put, { N with r0 := Int.ediv_nonneg N.r0 (by omega), t1 := by have := N.t1; omega }⟩ (fr.trans LK.Fr.s)
    -- turn = state['turn']; state['turn'] = turn + 1
    refine ⟨_, rfl, _, _, rfl, g_turn R, ?_⟩
    refine ⟨_, rfl, _, _, rfl, rfl, _, rfl, d.s, _, rfl, p_turn R, ?_⟩
    have R2 := R.put (r' := r) (t' := t + 1) (sd' := sd)
    have ht0 := N.t0
    have ht1 := N.t1
    -- cell = state['cells'][turn % len(state['cells'])]
    have cpos : 0 < cs.length := List.length_pos_iff.mpr N.cs0
    have cidx : ((t % (cs.length : Int)).toNat) < cs.length := by
      have a := Int.emod_nonneg t (show (cs.length : Int) ≠ 0 by omega)
      have b := Int.emod_lt_of_pos t (show (0 : Int) < cs.length by omega)
      omega
    have cat : atI (cs.map V.int) (t % (cs.length : Int)) = some (.int (cs[(t % (cs.length : Int)).toNat])) := by
      refine LK.at_of (j := (t % (cs.length : Int)).toNat) ?_ ?_
      · have a := Int.emod_nonneg t (show (cs.length : Int) ≠ 0 by omega)
        omega
      · rw [List.getElem?_map, List.getElem?_eq_getElem cidx]; rfl
    have cb := N.cs1 _ (List.getElem_mem cidx)
    generalize cs[(t % (cs.length : Int)).toNat] = cell at cat cb
    obtain ⟨cb0, cb1⟩ := cb
    refine ⟨_, rfl, _, _, rfl, g_cells R2, _, rfl, _, rfl, _, _, rfl, g_cells R2, d.c, _, rfl, .inl (SqL.of R2.hc), _, _, rfl, rfl, by rw [List.length_map]; omega, d.c, _, _, _, rfl, rfl, SqL.of R2.hc, by rw [List.length_map]; exact cat, ?_⟩
    -- seed = ..
    refine ⟨_, rfl, _, _, rfl, g_seed R2, _, _, rfl, rfl, .inl ⟨by omega, by omega⟩, ?_⟩
    refine ⟨_, rfl, _, rfl, _, _, rfl, rfl, .inl ⟨by omega, by omega⟩, _, _, rfl, rfl, _, _, rfl, rfl, .inl ⟨by omega, by omega⟩, _, _, rfl, rfl, ?_⟩
    refine ⟨_, rfl, _, _, rfl, rfl, ⟨by decide, by decide, by omega⟩, _, _, rfl, rfl, _, _, rfl, rfl, (by show (0 : Int) < 2147483647; decide), ?_⟩
    generalize hX : sd * 48271 + cell * (2 * t + 3) + t ^ (3 : Int).toNat = X
    have x0 := Int.emod_nonneg X (show (2147483647 : Int) ≠ 0 by decide)
    have x1 := Int.emod_lt_of_pos X (show (0 : Int) < 2147483647 by decide)
    refine ⟨_, rfl, _, rfl, d.s, _, rfl, p_seed R2, ?_⟩
    -- mixed = ..
    refine ⟨_, rfl, _, _, rfl, rfl, ⟨by decide, by decide, by omega⟩, _, _, rfl, rfl, (by show (0 : Int) < 2147483629; decide), ?_⟩
    have y0 := Int.emod_nonneg ((X % 2147483647) ^ (2 : Int).toNat) (show (2147483629 : Int) ≠ 0 by decide)
    have y1 := Int.emod_lt_of_pos ((X % 2147483647) ^ (2 : Int).toNat) (show (0 : Int) < 2147483629 by decide)
    refine ⟨_, _, rfl, rfl, .inl ⟨by omega, by omega⟩, ?_⟩
    refine ⟨_, rfl, _, _, rfl, rfl, ⟨by decide, by decide, by omega⟩, _, _, rfl, rfl, (by show (0 : Int) < 2147483579; decide), _, _, rfl, rfl, ?_⟩
    refine ⟨_, rfl, _, _, rfl, rfl, ⟨by decide, by decide⟩, _, rfl, _, _, rfl, rfl, hm0, ?_⟩
    refine q _ _ (Int.emod_nonneg _ (by omega)) (Int.emod_lt_of_pos _ hm0) ⟨_, _, _, gs, cs, R2.put, { N with t0 := by omega, t1 := by omega, s0 := x0, s1 := by omega }⟩ ((fr.trans LK.Fr.s).trans LK.Fr.s)
def spPick (K : PySem.W.Frag) : Sp := fun vs H Q _ => ∃ (d : Dr) (v : V) (xs : List V) (n : Nat), vs = [.ref d.s, v] ∧ StAt H d n ∧ n < 1000000000000000 ∧ Pk K H v xs ∧ v ≠ .ref d.g ∧ xs ≠ [] ∧ xs.length ≤ 1000 ∧
  ∀ (x : V) (H' : Hp), x ∈ xs → StAt H' d (n + 1) → LK.Fr d H H' → Q x H'
theorem scPick : FnScope ["state", "some"] ["state", "some"] (defScope s_law_pick) := ⟨rfl, rfl, rfl, by decide +kernel, rfl, by decide +kernel, by decide +kernel⟩
theorem ok_pick {f fT : Addr} {fd fdT : FuncData} (F : FnP K "_law_pick" s_law_pick f fd) (FT : FnP K "_law_take" s_law_take fT fdT) (mT : mg "_law_take" = some (.ref fT)) (mlen : mg "len" = none) : FnOk P w K mg base CX0 2 f fd ["state", "some"] (spPick K) := by
  have GT : FnOk P w K mg base CX0 1 fT fdT ["state", "many"] spTake := ok_take FT mlen
  have bT : Binds K fdT ["state", "many"] [] := FT.bindsN fun _ _ _ _ _ _ us hl => match us, hl with | [_, _], _ => rfl
  refine F.ok scPick (fun vs H Q E h => ?_) (fun cdv A outer s H vs Q E hr h => ?_)
  · obtain ⟨d, v, xs, n, rfl, _⟩ := h
    rfl
  · obtain ⟨d, v, xs, n, rfl, S, hn, hp, hg, h0, hl, q⟩ := h
    refine ⟨_, PSs.nox (pss_one (ps_ret (pe_ix ix_seq (pv 1) (pe_call GT hr rfl mT FT.kp bT .nil pass0 (pa_cons (pv 0) (pa_cons (pe_callB call_len (by rfl) mlen PySem.boot_len (pa_cons (pv 1) pa_nil)) pa_nil))) (fun _ _ => rfl)))), ?_⟩
    have hpos : 0 < xs.length := List.length_pos_iff.mpr h0
    refine ⟨_, rfl, _, rfl, _, rfl, _, _, rfl, hp.len hl, ?_⟩
    refine ⟨d, _, n, rfl, S, hn, by omega, by omega, fun r H' r0 r1 S' f => ?_⟩
    exact (hp.fr f S hg).ix hl r0 r1 fun x hx => q x H' hx S' f
def spBegun (K : PySem.W.Frag) : Sp := fun vs H Q _ => ∃ (a : Addr) (ns : List Int), vs = [.ref a] ∧ SqL K H a (ns.map V.int) ∧ ns.length ≤ 63 ∧
  ∀ (d : Dr) (H' : Hp), Same H H' → H d.s = none → H d.g = none → StAt H' d 0 → Q (.ref d.s) H'
theorem scBegun : FnScope ["script", "cell"] ["script"] (defScope s_law_begun) := ⟨rfl, rfl, rfl, by decide +kernel, rfl, by decide +kernel, by decide +kernel⟩
theorem ok_begun {f : Addr} {fd : FuncData} (F : FnP K "_law_begun" s_law_begun f fd) : FnOk P w K mg base CX0 1 f fd ["script"] (spBegun K) := by
  refine F.ok scBegun (fun vs H Q E h => ?_) (fun cdv A outer s H vs Q E hr h => ?_)
  · obtain ⟨a, ns, rfl, _⟩ := h
    rfl
  · obtain ⟨a, ns, rfl, hS, hl, q⟩ := h
    have nd := scBegun.nd
    refine ⟨_, PSs.nox (pss_one (ps_ret (pe_disp
      (pps_cons pe_str (pe_lc (own := [("cell", 1)]) (g := gName 1) rfl nd (pi_list (pv 0)) (blkOk_by (N := ["script", "cell"]) (sc := defScope s_law_begun) (by decide +kernel)) (fun _ _ _ _ _ => pg_name (i := 1) nd rfl (Or.inl rfl))
          (fun _ _ _ _ _ => pts_one (pt_cmpR op_ge (pv 1) (pe_op op_pow pe_int pe_int) (nomark _))) (fun _ _ _ _ _ => pv 1))
      (pps_cons pe_str pe_int (pps_cons pe_str pe_int (pps_cons pe_str pe_int
      (pps_cons pe_str (pe_op op_cat (pe_lc (own := [("cell", 1)]) (g := gName 1) rfl nd (pi_list (pv 0)) (blkOk_by (N := ["script", "cell"]) (sc := defScope s_law_begun) (by decide +kernel)) (fun _ _ _ _ _ => pg_name (i := 1) nd rfl (Or.inl rfl))
          (fun _ _ _ _ _ => pts_nil) (fun _ _ _ _ _ => pe_op op_mod (pv 1) pe_int)) (pe_lst (pa_cons pe_int pa_nil))) pps_nil)))))
      (by rfl) (by rfl) (fun z => by cases z) (by decide)))), ?_⟩
    have item : ∀ (i : Nat) (x : V), (ns.map V.int)[i]? = some x → x = .int (ns.getD i 0) := by
      intro i x hi
      rw [List.getElem?_map] at hi
      cases e : ns[i]? with
      | none => rw [e] at hi; cases hi
      | some z =>
        rw [e] at hi
        rw [List.getD_eq_getElem?_getD, e]
        exact (Option.some.inj hi).symm
    have hl2 : (ns.map V.int).length ≤ 40000 := by rw [List.length_map]; omega
    intro p hp
    have s1 : Same H (upd H p (.dK [])) := same_new hp
    simp only [tPairs]
    refine t_c ?_
    refine el_lcL (σ := [some (.ref a), none]) (j := 1) (vs := [1]) (fun i => decide ((1000000000000000000 : Int) ≤ ns.getD i 0)) (fun i => .int (ns.getD i 0)) (ev_var (i := 0) rfl) (s1.seq hS) hl2 (fun x => rfl)
      (fun i x H1 e1 hi => ?_) (fun i x H1 e1 hi _ => ?_) _ (Ex.refl _) _ (fun g H2 hg e2 hgl => ?_)
    · obtain rfl := item i x hi
      exact et_test (ev_op (ev_var rfl) (ev_op ev_c ev_c (rv_I ⟨by decide, by decide, by decide⟩)) rv_I0)
    · obtain rfl := item i x hi
      exact ev_var rfl
    have hg0 : H g = none := s1.free hg
    have gp : g ≠ p := fun z => by rw [z, upd_same] at hg; cases hg
    have s2 : Same H H2 := fun b o z => e2 _ _ (s1 _ _ z)
    have hp2 : H2 p = some (.dK []) := e2 _ _ upd_same
    refine t_c (t_c (t_c (t_c (t_c (t_c (t_c ?_))))))
    refine el_lcL (σ := [some (.ref a), none]) (j := 1) (vs := [1]) (fun _ => true) (fun i => .int (ns.getD i 0 % 2147483629)) (ev_var (i := 0) rfl) (s2.seq hS) hl2 (fun x => rfl)
      (fun i x H1 e1 hi => et_yes) (fun i x H1 e1 hi _ => ?_) _ (Ex.refl _) _ (fun c H3 hc e3 hcl => ?_)
    · obtain rfl := item i x hi
      exact ev_op (ev_var rfl) ev_c (rv_I (by show (0 : Int) < 2147483629; decide))
    refine ⟨by show 1 ≤ sizeLine; decide, fun d hd => ?_⟩
    have hgl2 : (upd H3 d (.lst [.int 77])) c = some (.lst (given (ns.map V.int).length (fun _ => true) fun i => .int (ns.getD i 0 % 2147483629))) := by
      rw [upd_ne (ne_of_none hcl hd)]; exact hcl
    have glen := given_len (ns.map V.int).length (fun _ => true) fun i => V.int (ns.getD i 0 % 2147483629)
    refine ⟨c, d, _, _, rfl, rfl, hgl2, upd_same, Nat.le_trans (Nat.add_le_add glen (Nat.le_refl 1)) (by rw [List.length_map]; exact Nat.le_trans (by omega) (by decide : 64 ≤ sizeLine)), fun e he => ?_⟩
    have s3 : Same H2 (upd (upd H3 d (.lst [.int 77])) e (.lst (given (ns.map V.int).length (fun _ => true) (fun i => .int (ns.getD i 0 % 2147483629)) ++ [.int 77]))) := fun b o z =>
      same_new he _ _ (same_new hd _ _ (e3 _ _ z))
    have ep : e ≠ p := fun z => by
      have := same_new (o := .lst [.int 77]) hd _ _ (e3 _ _ hp2)
      rw [← z, he] at this; cases this
    refine ⟨s3 _ _ hp2, [((.inr "great" : Key), .ref g), (.inr "rest", .int 0), (.inr "turn", .int 0), (.inr "seed", .int 7), (.inr "cells", .ref e)], rfl, by show 5 ≤ 15; decide, ?_⟩
    rw [merge_st]
    rw [given_ints] at hgl
    rw [given_ints] at s3 ⊢
    refine q ⟨p, g, e⟩ _ (fun b o z => ?_) hp hg0 ⟨0, 0, 7, ((List.range (ns.map V.int).length).filter (fun i => decide ((1000000000000000000 : Int) ≤ ns.getD i 0))).map (fun i => ns.getD i 0), ((List.range (ns.map V.int).length).filter (fun _ => true)).map (fun i => ns.getD i 0 % 2147483629) ++ [77], ⟨upd_same, ?_, ?_, ?_⟩, ?_⟩
    · rw [upd_ne (ne_of_none z hp)]
      exact s3 _ _ (s2 _ _ z)
    · rw [upd_ne gp]
      exact s3 _ _ hgl
    · rw [upd_ne ep, upd_same, List.map_append]
      rfl
    · intro z
      have z' : e = g := z
      have h := same_new (o := .lst [.int 77]) hd _ _ (e3 _ _ hgl)
      rw [← z', he] at h
      cases h
    · have lens : ∀ (f : Nat → Bool), ((List.range (ns.map V.int).length).filter f).length ≤ 63 := by
        intro f
        have h := List.length_filter_le f (List.range (ns.map V.int).length)
        rw [List.length_range] at h
        have h2 : (ns.map V.int).length = ns.length := List.length_map _
        omega
      refine ⟨by decide, by decide, by decide, by decide, by decide, ?_, ?_, ?_, ?_, ?_⟩
      · intro z hz
        obtain ⟨i, hi, rfl⟩ := List.mem_map.mp hz
        have h := of_decide_eq_true (List.mem_filter.mp hi).2
        omega
      · intro z
        have h := congrArg List.length z
        rw [List.length_append] at h
        exact absurd h (by show ¬ _ + 1 = 0; omega)
      · intro z hz
        rcases List.mem_append.mp hz with h | h
        · obtain ⟨i, hi, rfl⟩ := List.mem_map.mp h
          have h0 := Int.emod_nonneg (ns.getD i 0) (show (2147483629 : Int) ≠ 0 by decide)
          have h1 := Int.emod_lt_of_pos (ns.getD i 0) (show (0 : Int) < 2147483629 by decide)
          omega
        · obtain rfl := List.mem_singleton.mp h
          decide
      · rw [List.length_append, List.length_map]
        have h := lens fun _ => true
        show _ + 1 ≤ 100
        omega
      · rw [List.length_map]
        have h := lens fun i => decide ((1000000000000000000 : Int) ≤ ns.getD i 0)
        omega
end
end K26
set_option Elab.async false
set_option linter.all false
set_option maxRecDepth 100000
set_option maxHeartbeats 2000000
/-! LDEq: dicts of data compared, equal or not. -/
namespace LK
open PySem PySem.Spec PyProof.Rows L2
/-- a dict's values are data -/
def KvD (K : PySem.W.Frag) (H : Hp) (ks : List (Key × V)) (ds : List (Key × PyData)) : Prop := Paired (fun (p : Key × V) (q : Key × PyData) => p.1 = q.1 ∧ Dp K H p.2 q.2 ∧ SeqAt.shaped q.2 = true) ks ds
def valD (ds : List (Key × PyData)) (k : Key) : Option PyData := (ds.find? fun q => decide (q.1 = k)).map (·.2)
def hitsD (ls : List (Key × PyData)) : List (Key × PyData) → Bool
  | [] => true
  | q :: r => match valD ls q.1 with
    | none => false
    | some e => PyData.eqv q.2 e && hitsD ls r
def eqvD (ks ls : List (Key × PyData)) : Bool := ks.length == ls.length && hitsD ls ks
section
variable {X : Cx} {pins : List (Addr × Obj)} {σ : L2.St} {H : Hp} {s : Shared}
theorem kvd_val (I : Inv X pins σ H s) {ls : List (Key × V)} {ds : List (Key × PyData)} {vb : List (Key × Value)} (kd : KvD X.K H ls ds) (rb : KV ls vb) (k : Key) :
    (valD ds k = none ∧ valueAt vb k = none) ∨ ∃ e y bs, valD ds k = some e ∧ valueAt vb k = some y ∧ Reads s.heap y e bs ∧ SeqAt.shaped e = true := by
  have rr : RelO (valV ls k) (valueAt vb k) := rb.val k
  have key : (valD ds k = none ∧ valV ls k = none) ∨ ∃ e x, valD ds k = some e ∧ valV ls k = some x ∧ Dp X.K H x e ∧ SeqAt.shaped e = true := by
    unfold KvD at kd
    clear rr rb
    induction kd with
    | nil => exact .inl ⟨rfl, rfl⟩
    | @cons p q ps qs h t ih =>
      obtain ⟨h1, h2, h3⟩ := h
      by_cases e : p.1 = k
      · refine .inr ⟨q.2, p.2, ?_, valV_pos e, h2, h3⟩
        have e2 : q.1 = k := h1.symm.trans e
        unfold valD
        rw [List.find?_cons_of_pos (by simp [e2])]; rfl
      · have e2 : ¬ q.1 = k := fun z => e (h1.trans z)
        have e3 : valD (q :: qs) k = valD qs k := by
          unfold valD
          rw [List.find?_cons_of_neg (by simp [e2])]
        rw [e3, valV_neg e]
        exact ih
  rcases key with ⟨e1, e2⟩ | ⟨e, x, e1, e2, hd, sh⟩
  · rw [e2] at rr
    refine .inl ⟨e1, ?_⟩
    cases h : valueAt vb k with
    | none => rfl
    | some y => rw [h] at rr; exact rr.elim
  · rw [e2] at rr
    obtain ⟨y, hy, ry⟩ := rr.some_of
    obtain ⟨bs, r⟩ := Dp.reads I e x y hd ry
    exact .inr ⟨e, y, bs, e1, hy, r, sh⟩
theorem kvd_hits (I : Inv X pins σ H s) {A : Around} (hu : A.in1.units + 64 < cLine) {ls : List (Key × V)} {ds : List (Key × PyData)} {vb : List (Key × Value)} (kd : KvD X.K H ls ds) (rb : KV ls vb) :
    ∀ {ks : List (Key × V)} {es : List (Key × PyData)} {va : List (Key × Value)}, KvD X.K H ks es → KV ks va → PySem.W.KeqHits A.in1 s vb va (hitsD ds es)
  | _, _, _, .nil, ra => by
    unfold KV at ra
    cases ra
    exact .nil
  | _, _, _, @Paired.cons _ _ _ p q ps qs h t, ra => by
    unfold KV at ra
    cases ra with
    | @cons _ z _ zs g rest =>
    obtain ⟨h1, h2, h3⟩ := h
    obtain ⟨g1, g2⟩ := g
    obtain ⟨zk, zv⟩ := z
    have ek : q.1 = zk := h1.symm.trans g1
    obtain ⟨as, r1⟩ := Dp.reads I q.2 p.2 zv h2 g2
    have ih := kvd_hits I hu kd rb t (show KV ps zs from rest)
    rcases kvd_val I kd rb q.1 with ⟨e1, e2⟩ | ⟨e, y, bs, e1, e2, r2, sh⟩
    · have eh : hitsD ds (q :: qs) = false := by
        show (match valD ds q.1 with | none => false | some e => PyData.eqv q.2 e && hitsD ds qs) = false
        rw [e1]
      rw [eh]
      rw [ek] at e2
      exact .miss e2
    · have eh : hitsD ds (q :: qs) = (PyData.eqv q.2 e && hitsD ds qs) := by
        show (match valD ds q.1 with | none => false | some e => PyData.eqv q.2 e && hitsD ds qs) = _
        rw [e1]
      rw [eh]
      rw [ek] at e2
      exact .hit e2 (PySem.W.keq_at r1 r2 h3 sh hu) ih
end
theorem kvd_len {K : PySem.W.Frag} {H : Hp} {ks : List (Key × V)} {ds : List (Key × PyData)} (h : KvD K H ks ds) : ks.length = ds.length := Paired.length h
section
variable {X : Cx}
def rEqKD (K : PySem.W.Frag) : R2 := fun x y H Q => ∃ a b ks ls ds es, x = .ref a ∧ y = .ref b ∧ Rd H a (.dK ks) ∧ Rd H b (.dK ls) ∧ KvD K H ks ds ∧ KvD K H ls es ∧ Q (.bl (eqvD ds es)) H
def rNeKD (K : PySem.W.Frag) : R2 := fun x y H Q => ∃ a b ks ls ds es, x = .ref a ∧ y = .ref b ∧ Rd H a (.dK ks) ∧ Rd H b (.dK ls) ∧ KvD K H ks ds ∧ KvD K H ls es ∧ Q (.bl (!eqvD ds es)) H
theorem dk_rd {pins : List (Addr × Obj)} {σ : L2.St} {H : Hp} {s : Shared} {a : Addr} {ks : List (Key × V)} (I : Inv X pins σ H s) (h : Rd H a (.dK ks)) : ObjOk X.prog X.w H s.heap a (.dK ks) := by
  rcases h with h | ⟨o, h⟩
  · exact I.hok a _ h
  · exact (show s.heap.get? a = some o ∧ ObjOk X.prog X.w H s.heap a (.dK ks) from I.hok a _ h).2
theorem op_eqKD (hu : X.A.units + 65 < cLine) : OpR X (compareOp .Eq) (rEqKD X.K) := by
  intro pins s σ H x y v u Q I rx ry h
  obtain ⟨a, b, ks, ls, ds, es, rfl, rfl, ea, eb, k1, k2, q⟩ := h
  obtain rfl : v = Value.ref a := rx
  obtain rfl : u = Value.ref b := ry
  obtain ⟨_, ya, va, ra, da⟩ := dk_rd I ea
  obtain ⟨_, yb, vb, rb, db⟩ := dk_rd I eb
  have la : va.length = ds.length := by rw [← ra.length]; exact kvd_len k1
  have lb : vb.length = es.length := by rw [← rb.length]; exact kvd_len k2
  refine PySem.W.keq_eq (knd := mixKind X.prog X.w) (r := hitsD es ds) ya yb da db (by omega) (fun _ => kvd_hits I (by show X.A.units + 1 + 64 < cLine; omega) k2 rb k1 ra) ⟨.bl (eqvD ds es), H, I, ?_, q⟩
  rw [la, lb]
  rfl
theorem op_neKD (hu : X.A.units + 65 < cLine) : OpR X (compareOp .NotEq) (rNeKD X.K) := by
  intro pins s σ H x y v u Q I rx ry h
  obtain ⟨a, b, ks, ls, ds, es, rfl, rfl, ea, eb, k1, k2, q⟩ := h
  obtain rfl : v = Value.ref a := rx
  obtain rfl : u = Value.ref b := ry
  obtain ⟨_, ya, va, ra, da⟩ := dk_rd I ea
  obtain ⟨_, yb, vb, rb, db⟩ := dk_rd I eb
  have la : va.length = ds.length := by rw [← ra.length]; exact kvd_len k1
  have lb : vb.length = es.length := by rw [← rb.length]; exact kvd_len k2
  refine PySem.W.keq_ne (knd := mixKind X.prog X.w) (r := hitsD es ds) ya yb da db (by omega) (fun _ => kvd_hits I (by show X.A.units + 1 + 64 < cLine; omega) k2 rb k1 ra) ⟨.bl (!eqvD ds es), H, I, ?_, q⟩
  rw [la, lb]
  rfl
end
end LK
set_option Elab.async false
set_option linter.all false
set_option maxRecDepth 100000
set_option maxHeartbeats 2000000
/-! LSortIt: d.items() and sorted(d.items()), d's keys ints, its values of any kind. -/
namespace LK.So
open PySem PyProof.Rows Srt SrtO
section
variable {prog : Program} {w : World} {A : Around} {E : Value → Shared → Prop} {s : Shared}
/-- a pair, its first an int -/
def IsPA (h : Heap) (v : Value) (x : Int) : Prop := ∃ a o t z n, v = .ref a ∧ h.get? a = some o ∧ o.cls = .type "tuple" ∧ o.data = .seq #[.int x t, z] n
theorem IsPA.up {h h' : Heap} {v : Value} {x : Int} (p : IsPA h v x) (k : ∀ b o, h.get? b = some o → o.cls = .type "tuple" → h'.get? b = some o) : IsPA h' v x :=
  let ⟨a, o, t, z, n, e, ho, hc, hd⟩ := p
  ⟨a, o, t, z, n, e, k a o ho hc, hc, hd⟩
theorem pa_cmp {vs : List Value} {k : Value → Int} (hp : ∀ v ∈ vs, IsPA s.heap v (k v)) (inj : ∀ v ∈ vs, ∀ u ∈ vs, k v = k u → v = u) : Cmp prog w A s (tuples' true) (fun p => p.1 ∈ vs) (lt2 fun v u => decide (k v < k u)) := by
  intro p q hm hm'
  have g1 := hp _ hm
  have g2 := hp _ hm'
  have hj := inj _ hm _ hm'
  show wpAny (model prog w) A (keyLt' (tuples' true) p.1 q.1) (fun r s' => s' = s ∧ r = decide (k p.1 < k q.1)) (fun _ _ => False) s
  generalize k p.1 = x at g1 hj ⊢
  generalize k q.1 = y at g2 hj ⊢
  obtain ⟨a, o, t, z, n, e, ho, hc, hd⟩ := g1
  obtain ⟨b, o', t', z', n', e', ho', hc', hd'⟩ := g2
  rw [e, e'] at hj
  rw [e, e']
  refine PySem.W.kat_lt ho hd ho' hd' ?_
  show PySem.W.KatLex prog w A true (decide (2 < 2)) _ [(.int x t, .int y t'), (z, z')] 0 s
  refine PySem.W.kat_cons (SeqAt.EqAt.int_int x t y t' prog w _ _ ?_)
  refine PySem.W.kat_go (fun e1 => ?_) (fun e1 => PySem.W.kat_no (oneLt_int ⟨rfl, rfl⟩))
  have ex : x = y := by simpa using e1
  have ea : a = b := Value.ref.inj (hj ex)
  subst ea
  have eo : o = o' := Option.some.inj (ho.symm.trans ho')
  subst eo
  rw [hd] at hd'
  have ez : z = z' := by
    injection hd' with q1 q2
    have q3 := congrArg Array.toList q1
    exact (List.cons.inj (List.cons.inj q3).2).1
  subst ez
  refine PySem.W.kat_yes (PySem.W.kat_cons (SeqAt.EqAt.same z prog w _ _ ?_))
  refine PySem.W.kat_go (fun _ => PySem.W.kat_yes (PySem.W.kat_nil ⟨rfl, ?_⟩)) (fun e2 => nomatch e2)
  rw [ex]
  exact (decide_eq_false (Int.lt_irrefl y)).symm
theorem pa_firsts {h : Heap} : ∀ {vs : List Value}, (∀ v ∈ vs, ∃ x, IsPA h v x) → ∃ fs : List Value, PySem.W.KatTups h vs fs ∧ fs.length = vs.length ∧ ∀ f ∈ fs, ∃ x t, f = Value.int x t
  | [], _ => ⟨[], PySem.W.KatTups.nil, rfl, fun _ hm => by simp at hm⟩
  | v :: vs, hp => by
    obtain ⟨fs, g1, g2, g3⟩ := pa_firsts (vs := vs) fun v' hm => hp v' (List.mem_cons_of_mem _ hm)
    obtain ⟨x, a, o, t, z, n, rfl, ho, hc, hd⟩ := hp v List.mem_cons_self
    refine ⟨.int x t :: fs, PySem.W.KatTups.cons ho hc hd rfl g1, by simp [g2], fun f hm => ?_⟩
    rcases List.mem_cons.mp hm with e | hm
    · exact ⟨x, t, e⟩
    · exact g3 f hm
theorem pa_sortable {a : Addr} {vs : List Value} {k : Value → Int} (h0 : 0 < vs.length) (hp : ∀ v ∈ vs, IsPA s.heap v (k v)) (inj : ∀ v ∈ vs, ∀ u ∈ vs, k v = k u → v = u) (ha : ∀ o, s.heap.get? a = some o → o.cls ≠ .type "tuple") :
    SortableO prog w A s a vs fun v u => decide (k v < k u) := by
  intro h' keep
  have hp' : ∀ v ∈ vs, IsPA h' v (k v) := fun v hm => (hp v hm).up fun b o e c => keep b o (fun z => ha o (by rw [← z]; exact e) c) e
  obtain ⟨fs, g1, g2, g3⟩ := pa_firsts fun v hm => ⟨_, hp' v hm⟩
  refine ⟨tuples' true, fun Q E hq => PySem.W.kat_kind (T := .type "int") g1 (by omega) (fun f hm => ?_) (by rfl) ?_, pa_cmp hp' inj⟩
  · obtain ⟨x, t, rfl⟩ := g3 f hm
    exact PySem.W.Looks.now
  · rw [show (Value.type "int" != Value.type "tuple") = true by decide +kernel]
    exact hq
theorem swo_key (k : Value → Int) : Swo fun v u => decide (k v < k u) := by
  refine ⟨fun x y h => ?_, fun x y z h1 h2 => ?_⟩
  · have := of_decide_eq_true h
    exact decide_eq_false (by omega)
  · have a := of_decide_eq_false h1
    have b := of_decide_eq_false h2
    exact decide_eq_false (by omega)
end
end LK.So
namespace LK
open PySem PySem.Spec PyProof.Rows L2
/-- a dict's entries, keys ints -/
abbrev kvI (ms : List (Int × V)) : List (Key × V) := ms.map fun m => (Sum.inl m.1, m.2)
/-- d.items() -/
def rItemsK : V → List V → Hp → VK → Prop := fun x xs H Q => ∃ (a : Addr) (kvs : List (Key × V)), x = .ref a ∧ xs = [] ∧ H a = some (.dK kvs) ∧ ∀ p, H p = none → Q (.ref p) (upd H p (DX.itemsO p a))
/-- sorted(d.items()) -/
def rSortItK : List V → Hp → VK → Prop := fun vs H Q => ∃ (p a : Addr) (ms : List (Int × V)), vs = [.ref p] ∧ H p = some (DX.itemsO p a) ∧ H a = some (.dK (kvI ms)) ∧ (ms.map (·.1)).Nodup ∧ ms.length ≤ 1000 ∧
  ∀ (H' : Hp) (l : Addr) (ps : List (Addr × Int × V)), Same H H' → (ps.map (·.2)).Perm ms → (ps.map (·.2)).Pairwise (fun e f => e.1 ≤ f.1) → H' l = some (.lst (ps.map fun z => V.ref z.1)) → (∀ z ∈ ps, H' z.1 = some (.tup [.int z.2.1, z.2.2])) → Q (.ref l) H'
section
variable {X : Cx}
theorem mt_itemsK : MtR X "dict.items" rItemsK := by
  intro pins s σ H x xs v us Q I rx rxs h
  obtain ⟨a, kvs, rfl, rfl, ha, q⟩ := h
  cases rx
  cases rxs
  obtain ⟨hz, hs0, vs, kv, o, es, ep, ho, hx, hdat, _⟩ := (show ObjOk X.prog X.w H s.heap a (.dK kvs) from I.hok a _ ha)
  refine DT.callItems (es := es) (ep := ep) hs0 ⟨o, ho, hx, hdat⟩ ?_
  have hf : H s.heap.objs.size = none := I.hok.fresh (Nat.le_refl _)
  exact ⟨.ref s.heap.objs.size, upd H s.heap.objs.size (DX.itemsO s.heap.objs.size a), I.laid (t' := s.toks) (fun b u e => Heap.get?_push_of_some _ e) (Nat.le_refl _) (DX.itemsO_ok (Heap.get?_push_size _ rfl)), rfl, q _ hf⟩
theorem pairs_get {prog : Program} {w : World} {es : List DictEntry} {kvs : List (Key × Value)} (h : Pairs (mixKind prog w) es kvs) : ∀ {j : Nat} {e : DictEntry}, es[j]? = some e → ∃ kv, kvs[j]? = some kv ∧ keyIs kv.1 e.key = true ∧ e.val = kv.2 := by
  induction h with
  | nil => intro j e h; simp at h
  | @cons e0 kv0 es kvs g1 g2 _ ih =>
    intro j e h
    cases j with
    | zero =>
      have := Option.some.inj (show some e0 = some e from h)
      subst this
      exact ⟨kv0, rfl, g1, g2⟩
    | succ j => exact ih h
def kAt (h : Heap) (v : Value) : Int := match v with
  | .ref b => (match h.get? b with
    | some ⟨_, _, .seq its _, _⟩ => (match its.toList with
      | Value.int x _ :: _ => x
      | _ => 0)
    | _ => 0)
  | _ => 0
theorem cr_sortedItK (hc : X.calm = true) : CallR X (.builtin "sorted") rSortItK := by
  intro pins s σ H xs us Q I r h
  obtain ⟨p, a, ms, rfl, hp, ha, nd, hlen, q⟩ := h
  obtain rfl := Vals.ref1 r
  have view : s.heap.IsItemsView p a := (show ObjOk X.prog X.w H s.heap p (DX.itemsO p a) from I.hok p _ hp).1
  obtain ⟨hz, hs0, vs, kv, o, es, ep, ho, hx, hdat, _, hpairs, _⟩ := (show ObjOk X.prog X.w H s.heap a (.dK (kvI ms)) from I.hok a _ ha)
  have l1 : ms.length = vs.length := by
    have := Paired.length kv
    rw [List.length_map] at this
    exact this
  have l2 : es.size = ms.length := by
    have := hpairs.length
    rw [Array.length_toList] at this
    omega
  have small : (1000 : Nat) ≤ sizeLine := by decide
  refine DT.sortedI (es := es) (ep := ep) (I.ok.hd hc) view ⟨o, ho, hx, hdat⟩ (by omega) fun h' tk as hk hlt hl hG => ?_
  have lak : as.length = ms.length := by omega
  have ndA : as.Nodup := List.Pairwise.imp (fun h => Nat.ne_of_lt h) hG.rise
  have pr : ∀ (j : Nat) (b : Addr), as[j]? = some b → ∃ (m : Int × V) (t : Tok) (u : Value), ms[j]? = some m ∧ RelV m.2 u ∧ h'.get? b = some { cls := .type "tuple", data := .seq #[Value.int m.1 t, u] } := by
    intro j b hj
    obtain ⟨en, he, hg⟩ := hG.pairs j b hj
    obtain ⟨y, ey, ky, vy⟩ := pairs_get hpairs (show es.toList[j]? = some en by rw [Array.getElem?_toList]; exact he)
    have hjm : j < ms.length := by rw [← lak]; exact (List.getElem?_eq_some_iff.mp hj).1
    obtain ⟨y2, e2, r1, r2⟩ := LiI.paired_get kv (show (kvI ms)[j]? = some (Sum.inl ms[j].1, ms[j].2) by rw [List.getElem?_map, List.getElem?_eq_getElem hjm]; rfl)
    have e3 : y = y2 := Option.some.inj (ey.symm.trans e2)
    subst e3
    rw [← r1] at ky
    obtain ⟨t, ek⟩ := Value.isInt_shape (k := ms[j].1) (v := en.key) ky
    refine ⟨ms[j], t, y.2, List.getElem?_eq_getElem hjm, r2, ?_⟩
    rw [hg, ek, vy]
  have hob : (h'.push { cls := .type "list", data := .seq (as.map Value.ref).toArray }).get? h'.objs.size = some (seqObj "list" (as.map Value.ref).toArray 0) := Heap.get?_push_size _ rfl
  have ne0 : ∀ b o, h'.get? b = some o → b ≠ h'.objs.size := fun b o e => Nat.ne_of_lt (Heap.lt_size e)
  generalize hh2 : h'.push { cls := .type "list", data := .seq (as.map Value.ref).toArray } = h2 at hob ⊢
  have ka : ∀ b o, h'.get? b = some o → h2.get? b = some o := fun b o e => by rw [← hh2]; exact Heap.get?_push_of_some _ e
  have kb : ∀ b o, s.heap.get? b = some o → h2.get? b = some o := fun b o e => ka b o (hk b o e)
  have kz : ∀ {b : Addr} {m : Int × V} {t : Tok} {u : Value}, h'.get? b = some { cls := .type "tuple", data := .seq #[Value.int m.1 t, u] } → kAt h' (.ref b) = m.1 := fun {b m t u} e => by
    show (match h'.get? b with
      | some ⟨_, _, .seq its _, _⟩ => (match its.toList with
        | Value.int x _ :: _ => x
        | _ => 0)
      | _ => 0) = m.1
    rw [e]
  have at_ : ∀ v ∈ as.map Value.ref, ∃ (j : Nat) (b : Addr), v = .ref b ∧ as[j]? = some b := by
    intro v hv
    obtain ⟨b, hb, rfl⟩ := List.mem_map.mp hv
    obtain ⟨j, hj⟩ := List.mem_iff_getElem?.mp hb
    exact ⟨j, b, rfl, hj⟩
  have pa : ∀ v ∈ as.map Value.ref, So.IsPA h2 v (kAt h' v) := by
    intro v hv
    obtain ⟨j, b, rfl, hj⟩ := at_ v hv
    obtain ⟨m, t, u, _, _, hg⟩ := pr j b hj
    rw [kz hg]
    exact ⟨b, _, t, u, 0, rfl, ka _ _ hg, rfl, rfl⟩
  have inj : ∀ v ∈ as.map Value.ref, ∀ u ∈ as.map Value.ref, kAt h' v = kAt h' u → v = u := by
    intro v hv u hu e
    obtain ⟨j, b, rfl, hj⟩ := at_ v hv
    obtain ⟨i, c, rfl, hi⟩ := at_ u hu
    obtain ⟨m, t, u', hm, _, hg⟩ := pr j b hj
    obtain ⟨m2, t2, u2, hm2, _, hg2⟩ := pr i c hi
    rw [kz hg, kz hg2] at e
    have e1 : (ms.map (·.1))[j]? = some m.1 := by rw [List.getElem?_map, hm]; rfl
    have e2 : (ms.map (·.1))[i]? = some m.1 := by rw [List.getElem?_map, hm2, e]; rfl
    have eij : j = i := (List.getElem?_inj (List.getElem?_eq_some_iff.mp e1).1 nd).mp (e1.trans e2.symm)
    subst eij
    rw [Option.some.inj (hj.symm.trans hi)]
  have lz : (as.map Value.ref).length ≤ sizeLine := by rw [List.length_map]; omega
  refine wpAny_call_entry PyProof.Rows.slot_list_sort ⟨_, hob, rfl⟩ PyProof.Rows.entry_list_sort
    (SrtO.list_sort_ord (So.swo_key (kAt h')) hob lz (fun h2' => So.pa_sortable (s := { s with heap := h2, toks := tk }) (by omega) pa inj fun o e => ?_) fun out o1 o2 => ⟨.none, rfl, ?_⟩) (PyProof.Rows.args_list_sort _)
  · have e' := Option.some.inj (hob.symm.trans e)
    rw [← e']
    show Value.type "list" ≠ Value.type "tuple"
    exact fun c => absurd (Value.type.inj c) (by decide)
  · show EP X pins σ Q (.ref h'.objs.size) { s with heap := sortedHeap h2 h'.objs.size (as.map Value.ref) out.toArray, toks := tk }
    obtain ⟨zs, pz, ez⟩ := perm_lift (fun z : Addr × Int × V => Value.ref z.1) o2.perm (as.zip ms) (by
      have e := List.map_fst_zip (l₁ := as) (l₂ := ms) (by omega)
      have e2 : (as.zip ms).map (fun z => Value.ref z.1) = ((as.zip ms).map Prod.fst).map Value.ref := by rw [List.map_map]; rfl
      rw [e2, e])
    have idx : ∀ z ∈ zs, ∃ j : Nat, as[j]? = some z.1 ∧ ms[j]? = some z.2 := by
      intro z hz'
      obtain ⟨j, hj⟩ := List.mem_iff_getElem?.mp (pz.mem_iff.mp hz')
      exact ⟨j, List.getElem?_zip_eq_some.mp hj⟩
    have hperm : (zs.map (·.2)).Perm ms := by
      have e := pz.map (·.2)
      rw [List.map_snd_zip (by omega)] at e
      exact e
    have hsort : (zs.map (·.2)).Pairwise (fun e f => e.1 ≤ f.1) := by
      rw [← ez] at o1
      rw [List.pairwise_map]
      have o1' := List.pairwise_map.mp o1
      refine List.Pairwise.imp_of_mem (fun {x y} hx hy h => ?_) o1'
      obtain ⟨j, j1, j2⟩ := idx x hx
      obtain ⟨i, i1, i2⟩ := idx y hy
      obtain ⟨m, _, _, hm, _, hg⟩ := pr j _ j1
      obtain ⟨m2, _, _, hm2, _, hg2⟩ := pr i _ i1
      have h3 := of_decide_eq_false (show decide (kAt h' (.ref y.1) < kAt h' (.ref x.1)) = false from h)
      rw [kz hg, kz hg2, Option.some.inj (hm.symm.trans j2), Option.some.inj (hm2.symm.trans i2)] at h3
      omega
    have kF : ∀ b o, b ≠ h'.objs.size → h2.get? b = some o → (sortedHeap h2 h'.objs.size (as.map Value.ref) out.toArray).get? b = some o := fun b o hb e => (PyProof.Rows.sortedHeap_old hb (Heap.lt_size e)).trans e
    have kS : ∀ b o, s.heap.get? b = some o → (sortedHeap h2 h'.objs.size (as.map Value.ref) out.toArray).get? b = some o := fun b o e => kF b o (ne0 _ _ (hk b o e)) (kb b o e)
    obtain ⟨eF, heF⟩ := PyProof.Rows.sortedHeap_at (vs := as.map Value.ref) (out := out.toArray) hob
    have I1 : Inv X pins σ H { s with heap := sortedHeap h2 h'.objs.size (as.map Value.ref) out.toArray, toks := tk } := I.kept (t' := tk) kS
    have hn0 : H h'.objs.size = none := I.hok.fresh (Nat.le_of_lt hlt)
    have hlz : (zs.map fun z => V.ref z.1).length ≤ sizeLine := by
      have e := hperm.length_eq
      rw [List.length_map] at e
      rw [List.length_map]
      omega
    have rv : Vals (zs.map fun z => V.ref z.1) out := by
      rw [← ez]
      exact vals_maps (fun z : Addr × Int × V => V.ref z.1) (fun z => Value.ref z.1) zs fun _ _ => rfl
    have I2 : Inv X pins σ (upd H h'.objs.size (.lst (zs.map fun z => V.ref z.1))) { s with heap := sortedHeap h2 h'.objs.size (as.map Value.ref) out.toArray, toks := tk } :=
      I1.take (h' := sortedHeap h2 h'.objs.size (as.map Value.ref) out.toArray) (t' := tk) (fun b ob _ e => e) (I.fpOk (Nat.le_of_lt hlt) hn0) ⟨hlz, out, eF, rv, heF⟩
    obtain ⟨H2, I3, g, qt⟩ := DX.takeT (P := fun b ws => ∃ (j : Nat) (m : Int × V), as[j]? = some b ∧ ms[j]? = some m ∧ ws = [.int m.1, m.2]) I as _ I2 ndA fun b hb => by
      obtain ⟨j, hj⟩ := List.mem_iff_getElem?.mp hb
      obtain ⟨m, t, u, hm, ru, hg⟩ := pr j b hj
      have hbl : s.heap.objs.size ≤ b := Nat.le_of_lt (hG.above b hb)
      refine ⟨hbl, ?_, [.int m.1, m.2], ⟨j, m, hj, hm, rfl⟩, fun H3 => ⟨(by show 2 ≤ sizeLine; omega), [Value.int m.1 t, u], .cons ⟨t, rfl⟩ (.cons ru .nil), ⟨_, kF _ _ (ne0 _ _ hg) (ka _ _ hg), rfl, 0, rfl⟩⟩⟩
      rw [upd_ne (ne0 _ _ hg)]
      exact I.hok.fresh hbl
    have gr : ∀ b o, H b = some o → H2 b = some o := fun b o e => g b o (by rw [upd_ne (ne_of_none e hn0)]; exact e)
    refine ⟨.ref h'.objs.size, H2, I3, rfl, q H2 h'.objs.size zs gr hperm hsort (g _ _ upd_same) fun z hz' => ?_⟩
    obtain ⟨i, i1, i2⟩ := idx z hz'
    obtain ⟨ws, ⟨j, m, j1, j2, ev⟩, hH⟩ := qt z.1 (List.mem_of_getElem? i1)
    have eij : i = j := (List.getElem?_inj (List.getElem?_eq_some_iff.mp i1).1 ndA).mp (i1.trans j1.symm)
    subst eij
    have ee : m = z.2 := Option.some.inj (j2.symm.trans i2)
    rw [ev, ee] at hH
    exact hH
end
end LK
set_option Elab.async false
set_option linter.all false
set_option maxRecDepth 100000
set_option maxHeartbeats 4000000
namespace K26
open PySem PySem.Spec PyProof.Rows L2 Evl LK
/-! _rising -/
theorem kit_self {K : PySem.W.Frag} {v : Value} : PySem.W.kitOne K v v = some true := by
  unfold PySem.W.kitOne
  simp
/-- a dict comprehension over what a Walk tells of -/
theorem dc_it {J : It} {n : Nat} {G : Hp → Prop} {Y : Nat → Hp → V → Hp → Prop} (w : Walk J n G Y) {g : TG} {tt : TT} {tk tv : TE} {vs : List Nat} {σ : L2.St} {H1 : Hp} {D : Addr} {Qd : Hp → Prop} (Pv : Nat → Hp → Prop) (h0 : Pv 0 (upd H1 D (.dK []))) (hG : ∀ i H, i ≤ n → Pv i H → G H)
    (hs : ∀ i x H H', i < n → Pv i H → Y i H x H' → g x (wipe σ vs) H' fun σ2 H2 => wipe σ2 vs = wipe σ vs ∧ tt σ2 H2 fun b H3 =>
      if b = true then tk σ2 H3 fun y H4 => tv σ2 H4 fun z H5 => ∃ kvs k, y = kV k ∧ H5 D = some (.dK kvs) ∧ kvs.length < sizeLine ∧ Pv (i + 1) (upd H5 D (.dK (putK kvs k z))) else Pv (i + 1) H3) (hd : ∀ H, Pv n H → Qd H) :
    ∃ W : Nat → Nat → Hp → Prop, (∃ m, W 0 m (upd H1 D (.dK []))) ∧ ∀ i m H, W i m H →
      (J.stop i H ∧ Qd H) ∨ (J.go i H ∧ ∃ Nx : Hp → Prop, (∀ H', Nx H' → ∃ m', m' < m ∧ W (i + 1) m' H') ∧ ∀ x H', J.yld i H x H' → g x (wipe σ vs) H' fun σ2 H2 => wipe σ2 vs = wipe σ vs ∧ tt σ2 H2 fun b H3 =>
        if b = true then tk σ2 H3 fun y H4 => tv σ2 H4 fun z H5 => ∃ kvs k, y = kV k ∧ H5 D = some (.dK kvs) ∧ kvs.length < sizeLine ∧ Nx (upd H5 D (.dK (putK kvs k z))) else Nx H3) := by
  refine ⟨fun i m H => i ≤ n ∧ Pv i H ∧ m = n - i, ⟨n, Nat.zero_le _, h0, rfl⟩, ?_⟩
  rintro i m H ⟨hi, p, rfl⟩
  have ok := hG i H hi p
  rcases Nat.lt_or_ge i n with hlt | hge
  · exact .inr ⟨w.goes i H hlt ok, Pv (i + 1), fun H' p' => ⟨n - (i + 1), by omega, hlt, p', rfl⟩, fun x H' y => hs i x H H' hlt p (w.yields i H x H' hlt ok y)⟩
  · obtain rfl : i = n := Nat.le_antisymm hi hge
    exact .inl ⟨w.stops H ok, hd H p⟩
structure TRi (mg : Str → Option Value) : Prop where
  isinstance : mg "isinstance" = none
  dict : mg "dict" = none
  sorted : mg "sorted" = none
  type : mg "type" = none
  int : mg "int" = none
theorem val_kvI {ms : List (Int × V)} (nd : (ms.map (·.1)).Nodup) {m : Int × V} (h : m ∈ ms) : valV (kvI ms) (.inl m.1 : Key) = some m.2 := by
  induction ms with
  | nil => cases h
  | cons p ms ih =>
    rw [List.map_cons, List.nodup_cons] at nd
    show valV ((Sum.inl p.1, p.2) :: kvI ms) _ = _
    rcases List.mem_cons.mp h with e | h
    · rw [e]; exact valV_pos rfl
    · rw [valV_neg (fun e => nd.1 (List.mem_map.mpr ⟨m, h, (Sum.inl.inj e).symm⟩))]
      exact ih nd.2 h
theorem any_kvI {ms : List (Int × V)} {n : Int} (h : n ∉ ms.map (·.1)) : ((kvI ms).any fun kv => decide (kv.1 = (.inl n : Key))) = false := by
  rw [List.any_eq_false]
  intro kv hk hc
  obtain ⟨m, hm, rfl⟩ := List.mem_map.mp hk
  exact h (List.mem_map.mpr ⟨m, hm, Sum.inl.inj (of_decide_eq_true hc)⟩)
/-- ms in the order of ns -/
def pickM (ms : List (Int × V)) (ns : List Int) : List (Int × V) := ns.filterMap fun n => ms.find? fun m => m.1 == n
theorem find_in {ms : List (Int × V)} (nd : (ms.map (·.1)).Nodup) {m : Int × V} (h : m ∈ ms) : (ms.find? fun x => x.1 == m.1) = some m := by
  induction ms with
  | nil => cases h
  | cons p ms ih =>
    rw [List.map_cons, List.nodup_cons] at nd
    rcases List.mem_cons.mp h with e | h
    · subst e
      rw [List.find?_cons_of_pos (by simp)]
    · have ne : ¬ p.1 = m.1 := fun e => nd.1 (by rw [e]; exact List.mem_map.mpr ⟨m, h, rfl⟩)
      rw [List.find?_cons_of_neg (by simpa using ne)]
      exact ih nd.2 h
theorem perm_pick {ms : List (Int × V)} (nd : (ms.map (·.1)).Nodup) {ns : List Int} (h : ns.Perm (ms.map (·.1))) : ∃ ms' : List (Int × V), ms'.Perm ms ∧ ms'.map (·.1) = ns := by
  obtain ⟨l, p, e⟩ := perm_lift (fun m : Int × V => m.1) h ms rfl
  exact ⟨l, p, e⟩
def spRis : Sp := fun vs H Q _ => ∃ v, vs = [v] ∧ ((v = .non ∧ ∀ p H', H p = none → Same H H' → H' p = some (.dK []) → Q (.ref p) H') ∨
  ∃ (a : Addr) (ms : List (Int × V)), v = .ref a ∧ H a = some (.dK (kvI ms)) ∧ (ms.map (·.1)).Nodup ∧ ms.length ≤ 1000 ∧
    ∀ p H' ms', H p = none → Same H H' → H' p = some (.dK (kvI ms')) → ms'.Perm ms → (ms'.map (·.1)).Pairwise (· ≤ ·) → Q (.ref p) H')
section
variable {P : Program} {w : World} {K : PySem.W.Frag} {mg : Str → Option Value} {base : Heap}
theorem scRis : FnScope ["thing", "numbers", "others", "key"] ["thing"] (defScope s_rising) := ⟨rfl, rfl, rfl, by decide +kernel, rfl, by decide +kernel, by decide +kernel⟩
theorem same_lock {H H' : Hp} {a : Addr} {od : Obj} {u : HO} (h : H a = some u) (s : Same (upd H a (.frz od u)) H') : Same H (upd H' a u) := fun b o e => by
  by_cases hb : b = a
  · subst hb
    rw [upd_same, ← e, h]
  · rw [upd_ne hb]
    exact s b o (by rw [upd_ne hb]; exact e)
theorem ok_ris {f : Addr} {fd : FuncData} (F : FnP K "_rising" s_rising f fd) (T : TRi mg) : FnOk P w K mg base CX0 1 f fd ["thing"] spRis := by
  have nd := scRis.nd
  refine F.ok scRis (fun vs H Q E h => ?_) (fun cdv A outer s H vs Q E hr h => ?_)
  · obtain ⟨v, rfl, _⟩ := h; rfl
  · obtain ⟨v, rfl, h⟩ := h
    have hu := hu_of hr
    refine ⟨_, PSs.nox (pss_cons (ps_if (pt_cmpR op_isN (pv 0) pe_non (nomark _)) (pss_one (ps_ret pe_dnewK)) pss_nil)
      (pss_cons (ps_if (pt_not (pt_val (pe_callB call_isi (by rfl) T.isinstance (by decide +kernel) (pa_cons (pv 0) (pa_cons (pe_bltn (v := .ty "dict") (by rfl) T.dict (by decide +kernel) rfl) pa_nil))))) (pss_one (ps_ret (pv 0))) pss_nil)
      (pss_cons (ps_set (i := 1) nd rfl (Or.inl rfl) (pe_callB (id := "sorted") cr_sortedI (by rfl) T.sorted (by decide +kernel) (pa_cons (pe_lock (pe_lc (own := [("key", 3)]) (g := gName 3) (by rfl) nd (pi_keys (pv 0)) (blkOk_by (N := ["thing", "numbers", "others", "key"]) (sc := defScope s_rising) (by decide +kernel)) (fun _ _ _ _ _ => (pg_name (i := 3) nd rfl (Or.inl rfl))) (fun _ _ _ _ _ => (pts_one (pt_cmpR op_isTy (pe_callTy (T := "type") (r := rTy6 K) call_ty6 (by rfl) T.type (by decide +kernel) (pa_cons (pv 3) pa_nil)) (pe_bltn (v := .ty "int") (by rfl) T.int (by decide +kernel) rfl) (nomark _)))) (fun _ _ _ _ _ => (pv 3)))) pa_nil)))
      (pss_cons (ps_lock (ps_setLc (i := 2) (own := [("key", 3)]) (g := gName 3) (by rfl) nd rfl rfl (sw_true rfl rfl rfl (by decide +kernel)) (pi_keys (pv 0)) (blkOk_by (N := ["thing", "numbers", "others", "key"]) (sc := defScope s_rising) (by decide +kernel)) (fun _ _ _ _ _ => (pg_name (i := 3) nd rfl (Or.inl rfl))) (fun _ _ _ _ _ => (pts_one (pt_cmpR op_isNotTy (pe_callTy (T := "type") (r := rTy6 K) call_ty6 (by rfl) T.type (by decide +kernel) (pa_cons (pv 3) pa_nil)) (pe_bltn (v := .ty "int") (by rfl) T.int (by decide +kernel) rfl) (nomark _)))) (fun _ _ _ _ _ => (pv 3))))
      (pss_one (ps_ret (pe_dc (own := [("key", 3)]) (g := gName 3) (by rfl) nd (pi_list (pe_lst (StX.pa_star (pv 1) (StX.pa_star (pv 2) pa_nil)))) (blkOk_by (N := ["thing", "numbers", "others", "key"]) (sc := defScope s_rising) (by decide +kernel)) (fun _ _ _ _ _ => (pg_name (i := 3) nd rfl (Or.inl rfl))) (fun _ _ _ _ _ => pts_nil) (fun _ _ _ _ _ => (pv 3)) (fun _ _ _ _ _ => (pe_dget hu (pv 0) (pv 3) (fun _ _ => rfl)))))))))), ?_⟩
    rcases h with ⟨rfl, q⟩ | ⟨a, ms, rfl, ha, ndm, hl, q⟩
    · refine ⟨_, rfl, rfl, _, rfl, ?_⟩
      rw [decide_eq_true rfl]
      refine iteT ?_
      exact fun p hp => q p _ hp (same_new hp) upd_same
    · refine ⟨_, rfl, rfl, _, rfl, ?_⟩
      rw [decide_eq_false (fun z => nomatch z)]
      refine iteF ?_
      refine ⟨_, rfl, .ref a, .ty "dict", .type "dict", .type "dict", true, rfl, .ty "dict", .base (.dK ha), kit_self, _, rfl, iteF ?_⟩
      -- numbers
      refine ⟨a, .dK (kvI ms), ha, True.intro, fun od => ?_⟩
      have lk : (kvI ms).length = ms.length := by rw [List.length_map]
      have kat : ∀ {i : Nat} {k : Key} {v : V}, (kvI ms)[i]? = some (k, v) → ∃ m, ms[i]? = some m ∧ k = .inl m.1 := by
        intro i k v e
        rw [List.getElem?_map] at e
        cases h : ms[i]? with
        | none => rw [h] at e; cases e
        | some m => rw [h] at e; cases e; exact ⟨m, rfl, rfl⟩
      refine ⟨_, rfl, a, od, rfl, .inl ⟨kvI ms, upd_same, fun D hD => ?_⟩⟩
      generalize hL : upd H a (.frz od (.dK (kvI ms))) = HL at hD ⊢
      have eL : HL a = some (.frz od (.dK (kvI ms))) := by rw [← hL]; exact upd_same
      refine lc_it walk_keys (fun i H' => H' D = some (.lst ((ms.take i).map fun m => V.int m.1)) ∧ Same HL H') ⟨upd_same, same_new hD⟩ (fun i H' _ h => h.2 _ _ eL) ?_ ?_
      · rintro i x H1 H1' hi ⟨h1, s1⟩ ⟨rfl, k, v, ek, rfl⟩
        obtain ⟨m, em, rfl⟩ := kat ek
        refine ⟨rfl, _, rfl, _, _, rfl, .int _, _, _, rfl, rfl, _, rfl, iteT ?_⟩
        refine ⟨_, rfl, _, h1, Nat.lt_of_le_of_lt (show _ ≤ 1000 by rw [List.length_map]; exact Nat.le_trans (List.length_take_le _ _) (by rw [lk] at hi; omega)) (by decide), ?_, fun b o e => by rw [upd_ne (ne_of_none e hD)]; exact s1 _ _ e⟩
        rw [upd_same, List.take_add_one, em, List.map_append]
        rfl
      rintro H1 ⟨h1, s1⟩
      rw [lk, List.take_length] at h1
      refine ⟨s1 _ _ eL, ?_⟩
      subst hL
      have s2 := same_lock ha s1
      have ne1 : D ≠ a := fun e => by rw [e, upd_same] at hD; cases hD
      have h2 : upd H1 a (.dK (kvI ms)) D = some (.lst (ms.map fun m => V.int m.1)) := by rw [upd_ne ne1]; exact h1
      have ha2 : upd H1 a (.dK (kvI ms)) a = some (.dK (kvI ms)) := upd_same
      generalize upd H1 a (.dK (kvI ms)) = H2 at s2 h2 ha2
      refine ⟨D, ms.map (·.1), rfl, .inl (.inl (by rw [List.map_map]; exact h2)), fun ns' p perm srt hp => ?_⟩
      have s3 : Same H (upd H2 p (.lst (ns'.map V.int))) := fun b o e => same_new hp _ _ (s2 _ _ e)
      have h3 : upd H2 p (.lst (ns'.map V.int)) p = some (.lst (ns'.map V.int)) := upd_same
      have ha3 := same_new (o := .lst (ns'.map V.int)) hp _ _ ha2
      generalize upd H2 p (.lst (ns'.map V.int)) = H3 at s3 h3 ha3
      clear s2 h2 ha2 s1 h1 hp hD eL
      -- others
      refine ⟨a, .dK (kvI ms), ha3, True.intro, fun od2 => ?_⟩
      refine ⟨_, rfl, a, od2, rfl, .inl ⟨kvI ms, upd_same, fun D hD => ?_⟩⟩
      generalize hL : upd H3 a (.frz od2 (.dK (kvI ms))) = HL at hD ⊢
      have eL : HL a = some (.frz od2 (.dK (kvI ms))) := by rw [← hL]; exact upd_same
      refine lc_it walk_keys (fun i H' => H' D = some (.lst []) ∧ Same HL H') ⟨upd_same, same_new hD⟩ (fun i H' _ h => h.2 _ _ eL) ?_ ?_
      · rintro i x H1 H1' hi ⟨h1, s1⟩ ⟨rfl, k, v, ek, rfl⟩
        obtain ⟨m, em, rfl⟩ := kat ek
        exact ⟨rfl, _, rfl, _, _, rfl, .int _, _, _, rfl, rfl, _, rfl, iteF ⟨h1, s1⟩⟩
      rintro H1 ⟨h1, s1⟩
      refine ⟨s1 _ _ eL, ?_⟩
      subst hL
      have s4 := same_lock ha3 s1
      have ne1 : D ≠ a := fun e => by rw [e, upd_same] at hD; cases hD
      have h4 : upd H1 a (.dK (kvI ms)) D = some (.lst []) := by rw [upd_ne ne1]; exact h1
      have ha4 : upd H1 a (.dK (kvI ms)) a = some (.dK (kvI ms)) := upd_same
      generalize upd H1 a (.dK (kvI ms)) = H4 at s4 h4 ha4
      have s5 : Same H H4 := fun b o e => s4 _ _ (s3 _ _ e)
      have h5 := s4 _ _ h3
      clear s1 h1 eL hD s4 s3 h3
      -- the new dict
      refine ⟨_, rfl, p, ns'.map V.int, rfl, .inr (SqL.of h5), _, rfl, D, [], rfl, .inr (SqL.of h4), ?_⟩
      have ln : ns'.length = ms.length := by rw [perm.length_eq, List.length_map]
      have big : (1000 : Nat) ≤ sizeLine := by decide
      refine ⟨by show ((ns'.map V.int) ++ ([] ++ [])).length ≤ sizeLine; simp; omega, fun lp hlp => ⟨lp, rfl, ⟨_, SqL.of upd_same⟩, fun D2 hD2 => ?_⟩⟩
      obtain ⟨ms', pm, em⟩ := perm_pick ndm perm
      have e6 : upd H4 lp (.lst ((ns'.map V.int) ++ ([] ++ []))) lp = some (.lst (ms'.map fun m => V.int m.1)) := by
        rw [upd_same, ← em, List.map_map]
        simp
      have s6 : Same H4 (upd H4 lp (.lst ((ns'.map V.int) ++ ([] ++ [])))) := same_new hlp
      generalize upd H4 lp (.lst ((ns'.map V.int) ++ ([] ++ []))) = H6 at hD2 e6 s6 ⊢
      have nd' : (ms'.map (·.1)).Nodup := (pm.map (·.1)).nodup_iff.mpr ndm
      have ha6 := s6 _ _ ha4
      refine dc_it (walk_list (K := K) (a := lp) (xs := ms'.map fun m => V.int m.1)) (fun i H' => H' D2 = some (.dK (kvI (ms'.take i))) ∧ Same H6 H') ⟨upd_same, same_new hD2⟩ (fun i H' _ h => SqL.of (h.2 _ _ e6)) ?_ ?_
      · rintro i x H7 H7' hi ⟨h7, s7⟩ ⟨rfl, ex⟩
        rw [List.getElem?_map] at ex
        cases hm : ms'[i]? with
        | none => rw [hm] at ex; cases ex
        | some m =>
        rw [hm] at ex
        obtain rfl : V.int m.1 = x := Option.some.inj ex
        have hmm : m ∈ ms := pm.mem_iff.mp (List.mem_of_getElem? hm)
        refine ⟨rfl, _, rfl, _, rfl, _, rfl, a, m.2, rfl, .inl ⟨kvI ms, .inl m.1, .inl (s7 _ _ ha6), rfl, (val_kvI ndm hmm).symm⟩, kvI (ms'.take i), .inl m.1, rfl, h7, ?_, ?_, fun b o e => by rw [upd_ne (ne_of_none e hD2)]; exact s7 _ _ e⟩
        · rw [List.length_map]
          have : (ms'.take i).length ≤ ms'.length := by rw [List.length_take]; exact Nat.min_le_right _ _
          have l2 := pm.length_eq
          exact Nat.lt_of_le_of_lt (show _ ≤ 1000 by omega) (by decide)
        · rw [upd_same]
          have fresh : m.1 ∉ (ms'.take i).map (·.1) := by
            intro hin
            obtain ⟨j, hj⟩ := List.mem_iff_getElem?.mp hin
            have hjl : j < i := by
              have := (List.getElem?_eq_some_iff.mp hj).1
              rw [List.length_map] at this
              exact Nat.lt_of_lt_of_le this (by rw [List.length_take]; exact Nat.min_le_left _ _)
            rw [List.map_take, List.getElem?_take_of_lt hjl] at hj
            have e2 : (ms'.map (·.1))[i]? = some m.1 := by rw [List.getElem?_map, hm]; rfl
            have := (List.getElem?_inj (List.getElem?_eq_some_iff.mp hj).1 nd').mp (hj.trans e2.symm)
            omega
          have e3 : putK (kvI (ms'.take i)) (.inl m.1 : Key) m.2 = kvI (ms'.take i) ++ [(Sum.inl m.1, m.2)] := by
            unfold putK
            rw [if_neg (by rw [any_kvI fresh]; decide)]
          rw [e3, List.take_add_one, hm]
          show some (HO.dK (kvI (ms'.take i) ++ [(Sum.inl m.1, m.2)])) = some (HO.dK (kvI (ms'.take i ++ [m])))
          unfold kvI
          rw [List.map_append]
          rfl
      rintro H7 ⟨h7, s7⟩
      rw [List.length_map, List.take_length] at h7
      have s8 : Same H H7 := fun b o e => s7 _ _ (s6 _ _ (s5 _ _ e))
      have hDn : H D2 = none := (show Same H H6 from fun b o e => s6 _ _ (s5 _ _ e)).free hD2
      exact q D2 H7 ms' hDn s8 h7 pm (by rw [em]; exact srt)
end
end K26
set_option Elab.async false
set_option linter.all false
set_option maxRecDepth 100000
set_option maxHeartbeats 2000000
namespace LK
open PySem PySem.Spec PyProof.Rows L2 Evl
/-! ### d.get(k) of a written dict with text keys -/
/-- what the written dict at a gives for z -/
def KGet (K : PySem.W.Frag) (w : World) (a : Addr) (z : Str) (v : V) : Prop :=
  ∃ es n r, KDict K w a es n ∧ PySem.W.nsIn K a z = some r ∧ RelV v (r.getD Value.none)
def tKGet (K : PySem.W.Frag) (w : World) (td ty : TE) : TE := fun σ H Q => td σ H fun x H1 => ∃ a, x = .ref a ∧ (∃ es n, KDict K w a es n) ∧ ty σ H1 fun y H2 => ∃ z v, y = .str z ∧ KGet K w a z v ∧ Q v H2
section
variable {X : Cx} {o e : Expr} {apos cpos : Pos} {td ty : TE}
theorem k_get1 {pins : List (Addr × Obj)} {σ : L2.St} {H : Hp} {s : Shared} {a : Addr} {z : Str} {v : V} {u : Value} {A : Around} {E Q : Value → Shared → Prop} (I : L2.Inv X pins σ H s) (g : KGet X.K X.w a z v) (ry : RelV (.str z) u)
    (h : ∀ (w' : Value) (s' : Shared), L2.Inv X pins σ H s' → RelV v w' → Q w' s') :
    wpAny (model X.prog X.w) A (call (.builtin "dict.get") [.ref a, u]) Q E s := by
  obtain ⟨es, n, r, D, hr, rv⟩ := g
  obtain ⟨t, rfl⟩ := ry
  have mo := PySem.W.mapOf_K (prog := X.prog) (w := X.w) I.kIn D.at_ D.lit
  have ti : s.TypeIs (.ref a) "dict" := ⟨_, I.kIn _ _ D.at_, rfl⟩
  exact call_meetsIn F.slot_dict_get ti F.entry_dict_get (F.args_dict_get_2 (.ref a) (.str z t)) (meets_dict_get (PySem.strKind X.prog X.w) a (strKind_is X.prog X.w z t) D.low)
    ⟨_, mo, h _ _ (I.tok (s.toks + 1)) (by rw [PySem.W.find_K D.at_ hr]; exact rv)⟩
theorem pe_kget1 (ho : PE X o td) (he : PE X e ty) (m : M1 X o "get" apos e cpos) :
    PE X (.Call (.Attribute o "get" apos) [e] [] cpos) (tKGet X.K X.w td ty) := by
  constructor
  intro pins s σ H Q I h
  refine wpAny_Call_method m.base m.few m.line PySem.F.plainAttrs_dict PySem.F.slot_dict_get PySem.F.type_dict_get (thn (ho.run pins s σ H _ I h) ?_)
  rintro u s1 ⟨x, H1, I1, rx, a, rfl, ⟨es, n, D⟩, q1⟩
  have rx' : Value.ref a = u := rx.symm
  subst rx'
  have ob := I1.kIn _ _ D.at_
  refine ⟨⟨_, ob, rfl⟩, fun b eb => ?_, ?_⟩
  · cases eb; exact ⟨_, ob, rfl⟩
  rw [m.trees]
  refine Calls.callWith_builtin rfl (Calls.evalArgs_plain (Calls.spliced_cons (thn (he.run pins s1 σ H1 _ I1 q1) ?_)))
  rintro iv s2 ⟨y, H2, I2, ry, z, v, rfl, g, q2⟩
  refine Calls.spliced_nil (k_get1 I2 g ry fun w' s3 I3 rw' => ⟨v, H2, I3, rw', q2⟩)
end
/-! ### what a written dict of texts to tuples of texts tells -/
def keysB (K : PySem.W.Frag) (a : Addr) (ks : List Str) : Bool :=
  match K.lookup a with
  | some { cls := _, dict := _, data := .dict es _, slots := _ } => decide (es.toList.map (fun e => match e.key with | .str x _ => some x | _ => none) = ks.map some)
  | _ => false
theorem key_shape {ks : List Str} {es : List DictEntry} (h : es.map (fun e => match e.key with | .str x _ => some x | _ => none) = ks.map some) : ∀ e ∈ es, ∃ x t, e.key = .str x t ∧ x ∈ ks := by
  intro e he
  have m : (match e.key with | .str x _ => some x | _ => (none : Option Str)) ∈ ks.map some := by
    rw [← h]; exact List.mem_map.mpr ⟨e, he, rfl⟩
  obtain ⟨x, hx, ex⟩ := List.mem_map.mp m
  cases hk : e.key with
  | str y t =>
    rw [hk] at ex
    exact ⟨y, t, rfl, by cases ex; exact hx⟩
  | _ => rw [hk] at ex; cases ex
theorem nsIn_no {K : PySem.W.Frag} {a : Addr} {ks : List Str} (h : keysB K a ks = true) {z : Str} (hz : z ∉ ks) : PySem.W.nsIn K a z = some none := by
  unfold keysB at h
  split at h
  · rename_i c dd es ep sl el
    have sh := key_shape (of_decide_eq_true h)
    unfold PySem.W.nsIn
    rw [el]
    simp only
    have e1 : List.find? (fun x => x.key.isStr z) es.toList = none := by
      rw [List.find?_eq_none]
      intro e he
      obtain ⟨x, t, ek, hx⟩ := sh e he
      rw [ek]
      intro hs
      have hs' : (x == z) = true := hs
      rw [eq_of_beq hs'] at hx
      exact hz hx
    have e2 : (es.toList.any fun x => x.refKey) = false := by
      rw [List.any_eq_false]
      intro e he
      obtain ⟨x, t, ek, hx⟩ := sh e he
      intro hr
      have : e.refKey = false := by
        unfold DictEntry.refKey
        rw [ek]
      rw [this] at hr
      cases hr
    rw [e1, e2]
    rfl
  · cases h
/-- the tuple of texts that the dict has for z -/
def rowB (K : PySem.W.Frag) (a : Addr) (z : Str) (vs : List Str) : Bool :=
  match PySem.W.nsIn K a z with
  | some (some (.ref t)) => He.relAll (vs.map V.str) (match K.lookup t with | some { cls := _, dict := _, data := .seq its _, slots := _ } => its.toList | _ => []) &&
      (match K.lookup t with | some { cls := .type c, dict := _, data := .seq its _, slots := _ } => decide (c = "tuple") && decide (its.size ≤ sizeLine) | _ => false)
  | _ => false
theorem rowB_ok {K : PySem.W.Frag} {a : Addr} {z : Str} {vs : List Str} (h : rowB K a z vs = true) : ∃ t, PySem.W.nsIn K a z = some (some (.ref t)) ∧ ∀ H, SqT K H t (vs.map V.str) := by
  unfold rowB at h
  split at h
  · rename_i t e
    refine ⟨t, e, fun H => ?_⟩
    obtain ⟨h1, h2⟩ := Bool.and_eq_true_iff.mp h
    split at h2
    · rename_i c dd its ep sl el
      rw [el] at h1
      obtain ⟨h3, h4⟩ := Bool.and_eq_true_iff.mp h2
      have hc := of_decide_eq_true h3
      exact .inr ⟨_, its, ep, el, by rw [hc], rfl, of_decide_eq_true h4, He.relAll_ok h1⟩
    · cases h2
  · cases h
end LK
set_option Elab.async false
set_option linter.all false
set_option maxRecDepth 100000
set_option maxHeartbeats 2000000
namespace LK
open PySem PySem.Spec PyProof.Rows L2 Evl
/-! ### what a body of a function is, of any data -/
def exprK : List (Str × List Str) := [("number", ["number"]), ("none", []), ("box", ["box"]), ("plus", ["expression", "expression"]), ("less", ["expression", "expression"]), ("times", ["expression", "expression"]), ("under", ["expression", "expression"]), ("same", ["expression", "expression"])]
def stmK : List (Str × List Str) := [("set", ["box", "expression"]), ("say", ["expression"]), ("give", ["box", "expression"]), ("if", ["expression", "body", "body"]), ("while", ["expression", "body"]), ("break", []), ("again", []), ("return", ["expression"]), ("throw", ["expression"]),
  ("try", ["body", "caught", "body", "body"]), ("make", ["box", "function", "things"]), ("pull", ["box", "way", "expression", "expression", "body"]), ("close", ["expression"]), ("all", ["box", "expression"])]
def nameOk (z : Str) : Bool := (decide (1 ≤ (z.length : Int)) && decide ((z.length : Int) ≤ 8)) && (Txt.isascii z && (Txt.isalpha z && (Txt.islower z && !inV (.str z) (ownW.map V.str))))
def nameD : PyData → Bool
  | .str z => nameOk z
  | _ => false
def kindsD (k : Str) : PyData → Option (List Str)
  | .tuple (.str z :: _) => if k = "statement" then stmK.lookup z else exprK.lookup z
  | _ => none
def isTup : PyData → Bool
  | .tuple _ => true
  | _ => false
def noneD : PyData → Bool
  | .none => true
  | _ => false
def lenT : PyData → Nat
  | .tuple l => l.length
  | _ => 0
def numD : PyData → Bool
  | .int i => decide (0 ≤ i) && decide (i < 1000003)
  | _ => false
def wayD : PyData → Bool
  | .str z => decide (z ∈ (["ask", "toss"] : List Str))
  | _ => false
def isPartD (k : Str) (d : PyData) : Bool :=
  if k = "statement" ∨ k = "expression" then
    match kindsD k d with
    | some ks => decide (lenT d = ks.length + 1)
    | none => false
  else if k = "body" ∨ k = "things" then isTup d
  else if k = "number" then numD d
  else if k = "way" then wayD d
  else (decide (k = "caught") && noneD d) || nameD d
def emptyD : PyData → Bool
  | .tuple [] => true
  | _ => false
/-- a statement that is one by its parts: whether it fits where it stands -/
def mayD (cs : List (Str × Int)) (l : Bool) : PyData → Bool
  | .tuple (.str z :: r) =>
    if z = "break" ∨ z = "again" then l
    else if z = "try" then
      match r with
      | [_, c, s, f] => !noneD c || (emptyD s && !emptyD f)
      | _ => false
    else if z = "make" then
      match r with
      | [_, .str n, .tuple t] => nameOk n && decide (cs.lookup n = some (t.length : Int))
      | _ => false
    else true
  | _ => false
def isWh : List PyData → Bool
  | .str z :: _ => decide (z = "while")
  | _ => false
mutual
def okD (cs : List (Str × Int)) (k : Str) (l : Bool) : PyData → Bool
  | .tuple ds => isPartD k (.tuple ds) &&
    (if k = "body" then okA cs "statement" l ds
     else if k = "things" then okA cs "expression" l ds
     else if k = "statement" then mayD cs l (.tuple ds) && okR cs ((kindsD k (.tuple ds)).getD []) (l || isWh ds) ds
     else if k = "expression" then okR cs ((kindsD k (.tuple ds)).getD []) l ds
     else true)
  | .none => isPartD k .none
  | .bool b => isPartD k (.bool b)
  | .int i => isPartD k (.int i)
  | .str z => isPartD k (.str z)
  | .list m => isPartD k (.list m)
  | .dict m => isPartD k (.dict m)
def okA (cs : List (Str × Int)) (k : Str) (l : Bool) : List PyData → Bool
  | [] => true
  | d :: r => okD cs k l d && okA cs k l r
def okR (cs : List (Str × Int)) (ks : List Str) (l : Bool) : List PyData → Bool
  | [] => true
  | _ :: r => okZ cs ks l r
def okZ (cs : List (Str × Int)) (ks : List Str) (l : Bool) : List PyData → Bool
  | [] => true
  | d :: r => match ks with
    | [] => true
    | k :: ks' => okD cs k l d && okZ cs ks' l r
end
/-! ### what is drawn is such a body -/
theorem signs128 : ∀ c, c < 128 → Unicode.isLower c = lo c ∧ Unicode.isUpper c = decide (65 ≤ c ∧ c ≤ 90) ∧ Unicode.isTitle c = false ∧ Unicode.isAlpha c = (lo c || decide (65 ≤ c ∧ c ≤ 90)) := by decide +kernel
theorem abc128 : ∀ c, c < 128 → decide (c ∈ ("abcdefghijklmnopqrstuvwxyz" : Str).cps.toList) = lo c := by decide +kernel
theorem name_signs {z : Str} (h : ∀ c ∈ z.cps.toList, c < 128) (h1 : 1 ≤ z.length) : (Txt.isascii z && (Txt.isalpha z && Txt.islower z)) = z.cps.toList.all lo := by
  have e1 : Txt.isascii z = true := by
    show z.cps.all (· < 128) = true
    rw [← Array.all_toList, List.all_eq_true]
    intro c hc
    exact decide_eq_true (h c hc)
  have hp : decide (z.length > 0) = true := decide_eq_true h1
  have e2 : Txt.isalpha z = z.cps.toList.all Unicode.isAlpha := by
    show (decide (z.length > 0) && z.cps.all Unicode.isAlpha) = _
    rw [hp, Bool.true_and, ← Array.all_toList]
  have e3 : Txt.islower z = (z.cps.toList.any Unicode.isLower && !z.cps.toList.any fun c => Unicode.isUpper c || Unicode.isTitle c) := by
    show (z.cps.any Unicode.isLower && !z.cps.any fun c => Unicode.isUpper c || Unicode.isTitle c) = _
    rw [← Array.any_toList, ← Array.any_toList]
  rw [e1, e2, e3, Bool.true_and]
  have hne : z.cps.toList ≠ [] := by
    intro e
    have : z.length = 0 := by show z.cps.toList.length = 0; rw [e]; rfl
    omega
  generalize z.cps.toList = l at h hne
  cases ha : l.all lo with
  | true =>
    have ha' := List.all_eq_true.mp ha
    have a1 : l.all Unicode.isAlpha = true := List.all_eq_true.mpr fun c hc => by rw [(signs128 c (h c hc)).2.2.2, ha' c hc]; rfl
    have a2 : l.any Unicode.isLower = true := by
      cases l with
      | nil => exact absurd rfl hne
      | cons c r => exact List.any_eq_true.mpr ⟨c, List.mem_cons_self, by rw [(signs128 c (h c List.mem_cons_self)).1]; exact ha' c List.mem_cons_self⟩
    have a3 : (l.any fun c => Unicode.isUpper c || Unicode.isTitle c) = false := by
      rw [List.any_eq_false]
      intro c hc
      obtain ⟨_, s2, s3, _⟩ := signs128 c (h c hc)
      have q := of_decide_eq_true (ha' c hc)
      rw [s2, s3, Bool.or_false]
      simp only [decide_eq_true_eq]
      omega
    rw [a1, a2, a3]; rfl
  | false =>
    obtain ⟨c, hc, hn⟩ := List.all_eq_false.mp ha
    obtain ⟨s1, s2, s3, s4⟩ := signs128 c (h c hc)
    cases hu : decide (65 ≤ c ∧ c ≤ 90) with
    | true =>
      have a3 : (l.any fun c => Unicode.isUpper c || Unicode.isTitle c) = true := List.any_eq_true.mpr ⟨c, hc, by rw [s2, hu]; rfl⟩
      rw [a3]
      simp
    | false =>
      have a1 : l.all Unicode.isAlpha = false := List.all_eq_false.mpr ⟨c, hc, by rw [s4, hu]; simpa using hn⟩
      rw [a1]; rfl
theorem Nm.nameOk {z : Str} (h : Nm z) : nameOk z = true := by
  unfold LK.nameOk
  have e : (Txt.isascii z && (Txt.isalpha z && (Txt.islower z && !inV (.str z) (ownW.map V.str)))) = ((Txt.isascii z && (Txt.isalpha z && Txt.islower z)) && !inV (.str z) (ownW.map V.str)) := by
    cases Txt.isascii z <;> cases Txt.isalpha z <;> cases Txt.islower z <;> rfl
  have h1 := h.l1
  have h8 := h.l8
  rw [e, name_signs h.c128 h1, in_strs, decide_eq_false h.free, List.all_eq_true.mpr h.lo, decide_eq_true (by omega), decide_eq_true (by omega)]
  rfl
section
variable {cs : List (Str × Int)} {bs : List Str} {ms : List (Str × Nat)} {q d : Nat} {l : Bool}
theorem ne_bool {a b : Str} (h : ¬ a = b) : decide (a = b) = false := decide_eq_false h
theorem okD_expr {z : Str} {ks : List Str} {r : List PyData} (h : exprK.lookup z = some ks) (hl : r.length = ks.length) : okD cs "expression" l (.tuple (.str z :: r)) = okZ cs ks l r := by
  have hk : kindsD "expression" (.tuple (.str z :: r)) = some ks := by
    show (if ("expression" : Str) = "statement" then stmK.lookup z else exprK.lookup z) = some ks
    rw [if_neg (by decide +kernel)]; exact h
  have hp : isPartD "expression" (.tuple (.str z :: r)) = true := by
    unfold isPartD
    rw [if_pos (Or.inr rfl), hk]
    show decide ((PyData.str z :: r).length = ks.length + 1) = true
    rw [List.length_cons, hl]
    exact decide_eq_true rfl
  unfold okD
  rw [hp, if_neg (by decide +kernel), if_neg (by decide +kernel), if_neg (by decide +kernel), if_pos rfl, hk]
  show (true && okR cs ks l (PyData.str z :: r)) = _
  rw [Bool.true_and]
  unfold okR
  rfl
theorem okD_stm {z : Str} {ks : List Str} {r : List PyData} (h : stmK.lookup z = some ks) (hl : r.length = ks.length) : okD cs "statement" l (.tuple (.str z :: r)) = (mayD cs l (.tuple (.str z :: r)) && okZ cs ks (l || decide (z = "while")) r) := by
  have hk : kindsD "statement" (.tuple (.str z :: r)) = some ks := by
    show (if ("statement" : Str) = "statement" then stmK.lookup z else exprK.lookup z) = some ks
    rw [if_pos rfl]; exact h
  have hp : isPartD "statement" (.tuple (.str z :: r)) = true := by
    unfold isPartD
    rw [if_pos (Or.inl rfl), hk]
    show decide ((PyData.str z :: r).length = ks.length + 1) = true
    rw [List.length_cons, hl]
    exact decide_eq_true rfl
  unfold okD
  rw [hp, if_neg (by decide +kernel), if_neg (by decide +kernel), if_pos rfl, hk]
  show (true && (mayD cs l (.tuple (.str z :: r)) && okR cs ks (l || decide (z = "while")) (PyData.str z :: r))) = _
  rw [Bool.true_and]
  unfold okR
  rfl
theorem okD_body {ds : List PyData} : okD cs "body" l (.tuple ds) = okA cs "statement" l ds := by
  have hp : isPartD "body" (.tuple ds) = true := by
    unfold isPartD
    rw [if_neg (by decide +kernel), if_pos (Or.inl rfl)]; rfl
  unfold okD
  rw [hp, if_pos rfl, Bool.true_and]
theorem okD_things {ds : List PyData} : okD cs "things" l (.tuple ds) = okA cs "expression" l ds := by
  have hp : isPartD "things" (.tuple ds) = true := by
    unfold isPartD
    rw [if_neg (by decide +kernel), if_pos (Or.inr rfl)]; rfl
  unfold okD
  rw [hp, if_neg (by decide +kernel), if_pos rfl, Bool.true_and]
theorem okA_all {k : Str} : ∀ {ds : List PyData}, (∀ d ∈ ds, okD cs k l d = true) → okA cs k l ds = true
  | [], _ => by unfold okA; rfl
  | d :: r, h => by
    unfold okA
    rw [h d List.mem_cons_self, okA_all fun x hx => h x (List.mem_cons_of_mem _ hx)]; rfl
theorem okZ_cons {k : Str} {ks : List Str} {d : PyData} {r : List PyData} (h : okD cs k l d = true) (h2 : okZ cs ks l r = true) : okZ cs (k :: ks) l (d :: r) = true := by
  unfold okZ
  show (okD cs k l d && okZ cs ks l r) = true
  rw [h, h2]; rfl
theorem okZ_nil {ks : List Str} : okZ cs ks l [] = true := by unfold okZ; rfl
theorem ok_num {n : Int} (h0 : 0 ≤ n) (h1 : n < 1000003) : okD cs "number" l (.int n) = true := by
  unfold okD isPartD
  rw [if_neg (by decide +kernel), if_neg (by decide +kernel), if_pos rfl]
  show (decide (0 ≤ n) && decide (n < 1000003)) = true
  rw [decide_eq_true h0, decide_eq_true h1]; rfl
theorem ok_way {w : Str} (h : w ∈ (["ask", "toss"] : List Str)) : okD cs "way" l (.str w) = true := by
  unfold okD isPartD
  rw [if_neg (by decide +kernel), if_neg (by decide +kernel), if_neg (by decide +kernel), if_pos rfl]
  exact decide_eq_true h
theorem ok_caught0 : okD cs "caught" l .none = true := by
  unfold okD isPartD
  rw [if_neg (by decide +kernel), if_neg (by decide +kernel), if_neg (by decide +kernel), if_neg (by decide +kernel)]
  rfl
theorem ok_name' {k : Str} {z : Str} (h : Nm z) (hk : k = "box" ∨ k = "caught" ∨ k = "function") : okD cs k l (.str z) = true := by
  have hn := Nm.nameOk h
  have e : isPartD k (.str z) = ((decide (k = "caught") && false) || nameOk z) := by
    unfold isPartD
    rcases hk with rfl | rfl | rfl
    · rw [if_neg (by decide +kernel), if_neg (by decide +kernel), if_neg (by decide +kernel), if_neg (by decide +kernel)]; rfl
    · rw [if_neg (by decide +kernel), if_neg (by decide +kernel), if_neg (by decide +kernel), if_neg (by decide +kernel)]; rfl
    · rw [if_neg (by decide +kernel), if_neg (by decide +kernel), if_neg (by decide +kernel), if_neg (by decide +kernel)]; rfl
  unfold okD
  rw [e, hn]; simp
theorem ok_ex (bn : ∀ z ∈ bs, Nm z) {e : Ex} (h : OkE bs d e) : okD cs "expression" l (exD e) = true := by
  induction h with
  | num h0 h1 => exact (okD_expr (ks := (["number"] : List Str)) (by decide +kernel) rfl).trans (okZ_cons (ok_num h0 h1) okZ_nil)
  | non => exact (okD_expr (ks := ([] : List Str)) (by decide +kernel) rfl).trans okZ_nil
  | box hb => exact (okD_expr (ks := (["box"] : List Str)) (by decide +kernel) rfl).trans (okZ_cons (ok_name' (bn _ hb) (Or.inl rfl)) okZ_nil)
  | op hw _ _ i1 i2 =>
    have hk : ∀ w ∈ opW, exprK.lookup w = some (["expression", "expression"] : List Str) := by decide +kernel
    exact (okD_expr (hk _ hw) rfl).trans (okZ_cons i1 (okZ_cons i2 okZ_nil))
theorem ok_sms {ds : List Sm} (h : ∀ s ∈ ds, okD cs "statement" l (smD s) = true) : okD cs "body" l (bodyD ds) = true := by
  rw [show bodyD ds = .tuple (smsD ds) from rfl, okD_body, smsD_map]
  exact okA_all fun x hx => by
    obtain ⟨s, hs, rfl⟩ := List.mem_map.mp hx
    exact h s hs
theorem may_other {z : Str} {r : List PyData} (h : ¬ (z = "break" ∨ z = "again")) (h2 : ¬ z = "try") (h3 : ¬ z = "make") : mayD cs l (.tuple (.str z :: r)) = true := by
  unfold mayD
  simp only
  rw [if_neg h, if_neg h2, if_neg h3]
theorem ok_sm (bn : ∀ z ∈ bs, Nm z) (mn : ∀ u ∈ ms, Nm u.1) (mc : ∀ u ∈ ms, cs.lookup u.1 = some (u.2 : Int)) {s : Sm} (h : OkS bs ms q d l s) : okD cs "statement" l (smD s) = true := by
  induction h with
  | @set3 d l w b e hw hb he =>
    have hk : ∀ w ∈ (["set", "give", "all"] : List Str), stmK.lookup w = some (["box", "expression"] : List Str) ∧ ¬ (w = "break" ∨ w = "again") ∧ ¬ w = "try" ∧ ¬ w = "make" := by decide +kernel
    obtain ⟨k1, k2, k3, k4⟩ := hk w hw
    refine (okD_stm k1 rfl).trans ?_
    rw [may_other k2 k3 k4, Bool.true_and]
    exact okZ_cons (ok_name' (bn _ hb) (Or.inl rfl)) (okZ_cons (ok_ex bn he) okZ_nil)
  | @one d l w e hw he =>
    have hk : ∀ w ∈ (["say", "return", "close", "throw"] : List Str), stmK.lookup w = some (["expression"] : List Str) ∧ ¬ (w = "break" ∨ w = "again") ∧ ¬ w = "try" ∧ ¬ w = "make" := by decide +kernel
    obtain ⟨k1, k2, k3, k4⟩ := hk w hw
    refine (okD_stm k1 rfl).trans ?_
    rw [may_other k2 k3 k4, Bool.true_and]
    exact okZ_cons (ok_ex bn he) okZ_nil
  | @jump d w hw =>
    have hk : ∀ w ∈ (["break", "again"] : List Str), stmK.lookup w = some ([] : List Str) ∧ (w = "break" ∨ w = "again") := by decide +kernel
    obtain ⟨k1, k2⟩ := hk w hw
    refine (okD_stm k1 rfl).trans ?_
    have m : mayD cs true (.tuple [.str w]) = true := by
      unfold mayD
      simp only
      rw [if_pos k2]
    rw [m, Bool.true_and]
    exact okZ_nil
  | @make d l b n es hb hn he =>
    refine (okD_stm (ks := (["box", "function", "things"] : List Str)) (by decide +kernel) rfl).trans ?_
    have m : mayD cs l (.tuple [.str "make", .str b, .str n, .tuple (es.map exD)]) = true := by
      unfold mayD
      simp only
      rw [if_neg (by decide +kernel), if_neg (by decide +kernel), if_pos trivial, Nm.nameOk (mn _ hn), mc _ hn, List.length_map, decide_eq_true rfl]; rfl
    rw [m, Bool.true_and]
    refine okZ_cons (ok_name' (bn _ hb) (Or.inl rfl)) (okZ_cons (ok_name' (mn _ hn) (Or.inr (Or.inr rfl))) (okZ_cons ?_ okZ_nil))
    rw [okD_things]
    exact okA_all fun x hx => by
      obtain ⟨e, hx2, rfl⟩ := List.mem_map.mp hx
      exact ok_ex bn (he e hx2)
  | @ifs d l e x y he hx hy i1 i2 =>
    refine (okD_stm (ks := (["expression", "body", "body"] : List Str)) (by decide +kernel) rfl).trans ?_
    rw [may_other (by decide +kernel) (by decide +kernel) (by decide +kernel), Bool.true_and, decide_eq_false (by decide +kernel), Bool.or_false]
    exact okZ_cons (ok_ex bn he) (okZ_cons (ok_sms i1) (okZ_cons (ok_sms i2) okZ_nil))
  | @whl d l e x he hx i1 =>
    refine (okD_stm (ks := (["expression", "body"] : List Str)) (by decide +kernel) rfl).trans ?_
    rw [may_other (by decide +kernel) (by decide +kernel) (by decide +kernel), Bool.true_and, decide_eq_true rfl, Bool.or_true]
    exact okZ_cons (ok_ex bn he) (okZ_cons (ok_sms i1) okZ_nil)
  | @pull d l b w e f x hb hw he hf hx i1 =>
    refine (okD_stm (ks := (["box", "way", "expression", "expression", "body"] : List Str)) (by decide +kernel) rfl).trans ?_
    rw [may_other (by decide +kernel) (by decide +kernel) (by decide +kernel), Bool.true_and, decide_eq_false (by decide +kernel), Bool.or_false]
    exact okZ_cons (ok_name' (bn _ hb) (Or.inl rfl)) (okZ_cons (ok_way hw) (okZ_cons (ok_ex bn he) (okZ_cons (ok_ex bn hf) (okZ_cons (ok_sms i1) okZ_nil))))
  | @fin d l x z hx hz hn i1 i2 =>
    refine (okD_stm (ks := (["body", "caught", "body", "body"] : List Str)) (by decide +kernel) rfl).trans ?_
    have m : mayD cs l (.tuple [.str "try", bodyD x, .none, bodyD [], bodyD z]) = true := by
      unfold mayD
      simp only
      rw [if_neg (by decide +kernel), if_pos trivial]
      have : emptyD (bodyD z) = false := by
        cases z with
        | nil => exact absurd rfl hn
        | cons => rfl
      rw [this]; rfl
    refine (congrArg (· && _) m).trans ?_
    rw [Bool.true_and, decide_eq_false (by decide +kernel), Bool.or_false]
    exact okZ_cons (ok_sms i1) (okZ_cons ok_caught0 (okZ_cons (ok_sms fun _ h => nomatch h) (okZ_cons (ok_sms i2) okZ_nil)))
  | @tri d l x y z c hc hx hy hz i1 i2 i3 =>
    refine (okD_stm (ks := (["body", "caught", "body", "body"] : List Str)) (by decide +kernel) rfl).trans ?_
    have m : mayD cs l (.tuple [.str "try", bodyD x, .str c, bodyD y, bodyD z]) = true := by
      unfold mayD
      simp only
      rw [if_neg (by decide +kernel), if_pos trivial]
      rfl
    refine (congrArg (· && _) m).trans ?_
    rw [Bool.true_and, decide_eq_false (by decide +kernel), Bool.or_false]
    exact okZ_cons (ok_sms i1) (okZ_cons (ok_name' (bn _ hc) (Or.inr (Or.inl rfl))) (okZ_cons (ok_sms i2) (okZ_cons (ok_sms i3) okZ_nil)))
end
end LK
set_option Elab.async false
set_option linter.all false
set_option maxRecDepth 100000
set_option maxHeartbeats 2000000
namespace LK
open PySem PySem.Spec PyProof.Rows L2 Evl
/-! ### type(x) of data -/
def tyD : PyData → String
  | .none => "NoneType"
  | .bool _ => "bool"
  | .int _ => "int"
  | .str _ => "str"
  | .list _ => "list"
  | .tuple _ => "tuple"
  | .dict _ => "dict"
section
variable {X : Cx}
def rTyD (K : PySem.W.Frag) : List V → Hp → VK → Prop := fun xs H Q => ∃ x d, xs = [x] ∧ Dp K H x d ∧ Q (.ty (tyD d)) H
theorem call_tyD : CallR X (.type "type") (rTyD X.K) := by
  intro pins s σ H xs us Q I r h
  obtain ⟨x, d, rfl, t, q⟩ := h
  obtain ⟨u, rfl, rx⟩ := vals1 r
  have fin : EP X pins σ Q (.type (tyD d)) s := ⟨.ty (tyD d), H, I, rfl, q⟩
  cases t with
  | non => cases rx; exact call_type_of (typeIs_none s) (by decide +kernel) fin
  | bl b => cases rx; exact call_type_of (PySem.typeIs_bool s b) (by decide +kernel) fin
  | int i => obtain ⟨k, rfl⟩ := rx; exact call_type_of (typeIs_int s i k) (by decide +kernel) fin
  | str z => obtain ⟨k, rfl⟩ := rx; exact call_type_of (typeIs_str s z k) (by decide +kernel) fin
  | lst e =>
    cases rx
    obtain ⟨its, rv, p, _⟩ := I.list e
    exact call_type_of p.isList.typeIs (by decide +kernel) fin
  | tup e =>
    cases rx
    obtain ⟨its, rv, p, _⟩ := I.tuple e
    exact call_type_of p.typeIs (by decide +kernel) fin
end
theorem ty_not {d : PyData} {s : String} (h : tyD d ≠ s) : (!decide (tyD d = s)) = true := by rw [decide_eq_false h]; rfl
theorem ty_yes {d : PyData} {s : String} (h : tyD d = s) : (!decide (tyD d = s)) = false := by rw [decide_eq_true h]; rfl
theorem tup_ty {d : PyData} (h : tyD d = "tuple") : ∃ l, d = .tuple l := by cases d <;> first | exact ⟨_, rfl⟩ | (simp [tyD] at h)
theorem str_ty {d : PyData} (h : tyD d = "str") : ∃ z, d = .str z := by cases d <;> first | exact ⟨_, rfl⟩ | (simp [tyD] at h)
theorem int_ty {d : PyData} (h : tyD d = "int") : ∃ z, d = .int z := by cases d <;> first | exact ⟨_, rfl⟩ | (simp [tyD] at h)
theorem notNone {d : PyData} (h : d ≠ .none) : noneD d = false := by cases d <;> first | rfl | exact absurd rfl h
theorem dp_len {K : PySem.W.Frag} {H : Hp} : ∀ {vs : List V} {ds : List PyData}, DpAll K H vs ds → vs.length = ds.length
  | _, _, .nil => rfl
  | _, _, .cons _ r => by rw [List.length_cons, List.length_cons, dp_len r]
/-! no dict, no long text -/
mutual
def smallD : PyData → Bool
  | .str z => decide (z.length ≤ 1000)
  | .tuple l => smallL l
  | .list l => smallL l
  | .dict _ => false
  | _ => true
def smallL : List PyData → Bool
  | [] => true
  | d :: r => smallD d && smallL r
end
theorem smallL_mem : ∀ {l : List PyData} {d : PyData}, smallL l = true → d ∈ l → smallD d = true
  | a :: l, d, h, m => by
    have h' : (smallD a && smallL l) = true := h
    obtain ⟨h1, h2⟩ := Bool.and_eq_true_iff.mp h'
    rcases List.mem_cons.mp m with rfl | m
    · exact h1
    · exact smallL_mem h2 m
/-- a written table of texts to tuples of texts -/
structure Tabl (K : PySem.W.Frag) (w : World) (a : Addr) (tb : List (Str × List Str)) : Prop where
  d : ∃ es n, KDict K w a es n
  has : ∀ z ks, tb.lookup z = some ks → ∃ t, KGet K w a z (.ref t) ∧ ∀ H, SqT K H t (ks.map V.str)
  no : ∀ z, tb.lookup z = none → KGet K w a z .non
theorem len_pos {x : V} {xs : List V} : decide (V.int ((x :: xs).length : Int) = V.int 0) = false := decide_eq_false fun e => by
  have := V.int.inj e
  rw [List.length_cons] at this
  omega
theorem len_empty {vs : List V} {l : List PyData} (h : vs.length = l.length) : emptyD (.tuple l) = decide (V.int (vs.length : Int) = V.int 0) := by
  cases l with
  | nil => rw [h]; rfl
  | cons a r =>
    cases vs with
    | nil => rw [List.length_cons] at h; exact absurd h (by show ¬ 0 = _; omega)
    | cons x xs => rw [len_pos]; rfl
theorem in_two {k a b : Str} : inV (.str k) [V.str a, V.str b] = decide (k = a ∨ k = b) := by
  rw [show [V.str a, V.str b] = ([a, b] : List Str).map V.str from rfl, in_strs]
  by_cases h : k = a ∨ k = b
  · rw [decide_eq_true h, decide_eq_true]
    rcases h with rfl | rfl
    · exact List.mem_cons_self
    · exact List.mem_cons_of_mem _ List.mem_cons_self
  · rw [decide_eq_false h, decide_eq_false]
    intro m
    rcases List.mem_cons.mp m with e | m
    · exact h (.inl e)
    · exact h (.inr (List.mem_singleton.mp m))
theorem is_tup (d : PyData) : isTup d = decide (tyD d = "tuple") := by cases d <;> first | rfl | (simp [isTup, tyD])
theorem str_dec {a b : Str} : decide (V.str a = V.str b) = decide (a = b) := by
  by_cases h : a = b
  · rw [h, decide_eq_true rfl, decide_eq_true rfl]
  · rw [decide_eq_false h, decide_eq_false fun z => h (V.str.inj z)]
theorem int_dec {a b : Int} : decide (V.int a = V.int b) = decide (a = b) := by
  by_cases h : a = b
  · rw [h, decide_eq_true rfl, decide_eq_true rfl]
  · rw [decide_eq_false h, decide_eq_false fun z => h (V.int.inj z)]
mutual
/-- what stands stays: data without dicts is told as ahead -/
theorem Dp.small {K : PySem.W.Frag} {H H' : Hp} (t : Same H H') : ∀ (d : PyData) {v : V}, Dp K H v d → smallD d = true → Dp K H' v d
  | .none, _, h, _ => by cases h; exact .non
  | .bool b, _, h, _ => by cases h; exact .bl b
  | .int i, _, h, _ => by cases h; exact .int i
  | .str x, _, h, _ => by cases h; exact .str x
  | .list l, _, h, o => by
    cases h with
    | lst hs ha => exact .lst (t.seq hs) (DpAll.small t l ha o)
  | .tuple l, _, h, o => by
    cases h with
    | tup hs ha => exact .tup ((Tk.same t).seqT hs) (DpAll.small t l ha o)
  | .dict l, _, h, _ => by cases h
theorem DpAll.small {K : PySem.W.Frag} {H H' : Hp} (t : Same H H') : ∀ (ds : List PyData) {vs : List V}, DpAll K H vs ds → smallL ds = true → DpAll K H' vs ds
  | [], _, h, _ => by cases h; exact .nil
  | d :: ds, _, h, o => by
    cases h with
    | cons h1 h2 =>
      have o' : (smallD d && smallL ds) = true := o
      obtain ⟨o1, o2⟩ := Bool.and_eq_true_iff.mp o'
      exact .cons (Dp.small t d h1 o1) (DpAll.small t ds h2 o2)
end
/-- a dict of names to numbers -/
def kvC (cs : List (Str × Int)) : List (Key × V) := cs.map fun p => ((.inr p.1 : Key), .int p.2)
theorem val_kvC (n : Str) : ∀ cs : List (Str × Int), valV (kvC cs) (.inr n : Key) = (cs.lookup n).map V.int
  | [] => rfl
  | (m, i) :: cs => by
    by_cases h : n = m
    · subst h
      rw [show kvC ((n, i) :: cs) = ((.inr n : Key), .int i) :: kvC cs from rfl]
      rw [valV_pos rfl]
      simp [List.lookup]
    · rw [show kvC ((m, i) :: cs) = ((.inr m : Key), .int i) :: kvC cs from rfl]
      rw [valV_neg (kne fun e => h e.symm), val_kvC n cs]
      have : (n == m) = false := beq_eq_false_iff_ne.mpr h
      simp [List.lookup, this]
def strD : PyData → Str
  | .str z => z
  | _ => ""
theorem may_make {cs : List (Str × Int)} {l : Bool} {b d1 d2 : PyData} : mayD cs l (.tuple [.str "make", b, d1, d2]) = (nameD d1 && (isTup d2 && decide (cs.lookup (strD d1) = some (lenT d2 : Int)))) := by
  unfold mayD
  simp only
  rw [if_neg (by decide +kernel), if_neg (by decide +kernel), if_pos trivial]
  cases d1 with
  | str n =>
    cases d2 with
    | tuple t => show _ = (nameOk n && (true && _)); rw [Bool.true_and]; rfl
    | _ => show false = (nameOk n && (false && _)); rw [Bool.false_and, Bool.and_false]
  | _ => cases d2 <;> rfl
theorem may_try {cs : List (Str × Int)} {l : Bool} {a c s f : PyData} : mayD cs l (.tuple [.str "try", a, c, s, f]) = (!noneD c || (emptyD s && !emptyD f)) := by
  unfold mayD
  simp only
  rw [if_neg (by decide +kernel), if_pos trivial]
theorem part_stm {d : PyData} (h : isPartD "statement" d = true) : ∃ z r ks, d = .tuple (.str z :: r) ∧ stmK.lookup z = some ks ∧ r.length = ks.length := by
  unfold isPartD at h
  rw [if_pos (.inl rfl)] at h
  cases e : kindsD "statement" d with
  | none => rw [e] at h; cases h
  | some ks =>
    rw [e] at h
    have h' := of_decide_eq_true h
    unfold kindsD at e
    split at e
    · rename_i z r
      rw [if_pos rfl] at e
      refine ⟨z, r, ks, rfl, e, ?_⟩
      have h2 : (PyData.str z :: r).length = ks.length + 1 := h'
      rw [List.length_cons] at h2
      omega
    · cases e
theorem len4 {l : List PyData} (h : l.length = 4) : ∃ a b c d, l = [a, b, c, d] := by
  cases l with
  | nil => cases h
  | cons a l =>
    cases l with
    | nil => cases h
    | cons b l =>
      cases l with
      | nil => cases h
      | cons c l =>
        cases l with
        | nil => cases h
        | cons d l =>
          cases l with
          | nil => exact ⟨a, b, c, d, rfl⟩
          | cons e l => rw [List.length_cons, List.length_cons, List.length_cons, List.length_cons, List.length_cons] at h; omega
theorem len3 {l : List PyData} (h : l.length = 3) : ∃ a b c, l = [a, b, c] := by
  cases l with
  | nil => cases h
  | cons a l =>
    cases l with
    | nil => cases h
    | cons b l =>
      cases l with
      | nil => cases h
      | cons c l =>
        cases l with
        | nil => exact ⟨a, b, c, rfl⟩
        | cons e l => rw [List.length_cons, List.length_cons, List.length_cons, List.length_cons] at h; omega
theorem dp4 {K : PySem.W.Frag} {H : Hp} {vs : List V} {a b c d : PyData} (h : DpAll K H vs [a, b, c, d]) : ∃ x y z w, vs = [x, y, z, w] ∧ Dp K H x a ∧ Dp K H y b ∧ Dp K H z c ∧ Dp K H w d := by
  cases h with | cons h1 h => cases h with | cons h2 h => cases h with | cons h3 h => cases h with | cons h4 h => cases h; exact ⟨_, _, _, _, rfl, h1, h2, h3, h4⟩
theorem dp3 {K : PySem.W.Frag} {H : Hp} {vs : List V} {a b c : PyData} (h : DpAll K H vs [a, b, c]) : ∃ x y z, vs = [x, y, z] ∧ Dp K H x a ∧ Dp K H y b ∧ Dp K H z c := by
  cases h with | cons h1 h => cases h with | cons h2 h => cases h with | cons h3 h => cases h; exact ⟨_, _, _, rfl, h1, h2, h3⟩
end LK
set_option Elab.async false
set_option linter.all false
set_option maxRecDepth 100000
set_option maxHeartbeats 2000000
namespace LK
open PySem PySem.Spec PyProof.Rows L2 Evl
/-! ### what stands in a part, its size -/
mutual
def sizeD : PyData → Nat
  | .tuple l => 1 + sizeL l
  | .list l => 1 + sizeL l
  | _ => 1
def sizeL : List PyData → Nat
  | [] => 0
  | d :: r => sizeD d + sizeL r
end
def insideD (k : Str) : PyData → List (Str × PyData)
  | .tuple ds =>
    if k = "body" then ds.map fun d => (("statement" : Str), d)
    else if k = "things" then ds.map fun d => (("expression" : Str), d)
    else if k = "statement" ∨ k = "expression" then ((kindsD k (.tuple ds)).getD []).zip ds.tail
    else []
  | _ => []
def isWhD : PyData → Bool
  | .tuple ds => isWh ds
  | _ => false
def loopD (k : Str) (l : Bool) (d : PyData) : Bool := if k = "statement" then l || isWhD d else l
theorem okA_eq (cs : List (Str × Int)) (k : Str) (l : Bool) : ∀ ds : List PyData, okA cs k l ds = (ds.map fun d => (k, d)).all fun p => okD cs p.1 l p.2
  | [] => by unfold okA; rfl
  | d :: r => by
    unfold okA
    rw [okA_eq cs k l r]; rfl
theorem okZ_eq (cs : List (Str × Int)) (l : Bool) : ∀ (ks : List Str) (ds : List PyData), okZ cs ks l ds = (ks.zip ds).all fun p => okD cs p.1 l p.2
  | [], [] => by unfold okZ; rfl
  | [], _ :: _ => by unfold okZ; rfl
  | _ :: _, [] => by unfold okZ; rfl
  | k :: ks, d :: r => by
    unfold okZ
    show (okD cs k l d && okZ cs ks l r) = _
    rw [okZ_eq cs l ks r]; rfl
theorem okR_eq (cs : List (Str × Int)) (l : Bool) (ks : List Str) (ds : List PyData) : okR cs ks l ds = (ks.zip ds.tail).all fun p => okD cs p.1 l p.2 := by
  cases ds with
  | nil => unfold okR; cases ks <;> rfl
  | cons d r => unfold okR; rw [okZ_eq]; rfl
theorem in_t (k : Str) (ds : List PyData) : insideD k (.tuple ds) = (if k = "body" then ds.map fun d => (("statement" : Str), d) else if k = "things" then ds.map fun d => (("expression" : Str), d)
    else if k = "statement" ∨ k = "expression" then ((kindsD k (.tuple ds)).getD []).zip ds.tail else []) := rfl
theorem okD_t (cs : List (Str × Int)) (k : Str) (l : Bool) (ds : List PyData) : okD cs k l (.tuple ds) = (isPartD k (.tuple ds) &&
    (if k = "body" then okA cs "statement" l ds else if k = "things" then okA cs "expression" l ds
     else if k = "statement" then mayD cs l (.tuple ds) && okR cs ((kindsD k (.tuple ds)).getD []) (l || isWh ds) ds
     else if k = "expression" then okR cs ((kindsD k (.tuple ds)).getD []) l ds else true)) := by
  unfold okD
  rfl
theorem loop_s (l : Bool) (ds : List PyData) : loopD "statement" l (.tuple ds) = (l || isWh ds) := if_pos rfl
theorem loop_n {k : Str} (h : ¬ k = "statement") (l : Bool) (d : PyData) : loopD k l d = l := if_neg h
theorem okD_step (cs : List (Str × Int)) (k : Str) (l : Bool) (d : PyData) :
    okD cs k l d = (isPartD k d && ((!decide (k = "statement") || mayD cs l d) && (insideD k d).all fun p => okD cs p.1 (loopD k l d) p.2)) := by
  have leaf : ∀ d : PyData, (∀ ds, d ≠ .tuple ds) → okD cs k l d = isPartD k d → okD cs k l d = (isPartD k d && ((!decide (k = "statement") || mayD cs l d) && (insideD k d).all fun p => okD cs p.1 (loopD k l d) p.2)) := by
    intro d nd e
    rw [e]
    have ei : insideD k d = [] := by
      cases d <;> first | rfl | exact absurd rfl (nd _)
    rw [ei]
    by_cases hk : k = "statement"
    · have : isPartD k d = false := by
        unfold isPartD
        rw [if_pos (.inl hk)]
        have : kindsD k d = none := by cases d <;> first | rfl | exact absurd rfl (nd _)
        rw [this]
      rw [this]; rfl
    · rw [decide_eq_false hk]
      show isPartD k d = (isPartD k d && ((true || _) && true))
      rw [Bool.true_or, Bool.true_and, Bool.and_true]
  cases d with
  | tuple ds =>
    rw [okD_t, in_t]
    by_cases h1 : k = "body"
    · rw [if_pos h1, if_pos h1, okA_eq, loop_n (by rw [h1]; decide +kernel), decide_eq_false (by rw [h1]; decide +kernel)]
      rfl
    rw [if_neg h1, if_neg h1]
    by_cases h2 : k = "things"
    · rw [if_pos h2, if_pos h2, okA_eq, loop_n (by rw [h2]; decide +kernel), decide_eq_false (by rw [h2]; decide +kernel)]
      rfl
    rw [if_neg h2, if_neg h2]
    by_cases h3 : k = "statement"
    · subst h3
      rw [if_pos rfl, if_pos (.inl rfl), okR_eq, loop_s, decide_eq_true rfl]
      rfl
    rw [if_neg h3]
    by_cases h4 : k = "expression"
    · subst h4
      rw [if_pos rfl, if_pos (.inr rfl), okR_eq, loop_n h3, decide_eq_false h3]
      rfl
    rw [if_neg h4, if_neg (fun h => h.elim h3 h4), decide_eq_false h3]
    rfl
  | none => exact leaf _ (fun _ h => nomatch h) (by unfold okD; rfl)
  | bool b => exact leaf _ (fun _ h => nomatch h) (by unfold okD; rfl)
  | int i => exact leaf _ (fun _ h => nomatch h) (by unfold okD; rfl)
  | str z => exact leaf _ (fun _ h => nomatch h) (by unfold okD; rfl)
  | list m => exact leaf _ (fun _ h => nomatch h) (by unfold okD; rfl)
  | dict m => exact leaf _ (fun _ h => nomatch h) (by unfold okD; rfl)
theorem size_map (k : Str) : ∀ ds : List PyData, ((ds.map fun d => (k, d)).map fun p => sizeD p.2).sum = sizeL ds
  | [] => rfl
  | d :: r => by
    show sizeD d + ((r.map fun d => (k, d)).map fun p => sizeD p.2).sum = sizeD d + sizeL r
    rw [size_map k r]
theorem size_zip : ∀ (ks : List Str) (ds : List PyData), ((ks.zip ds).map fun p => sizeD p.2).sum ≤ sizeL ds
  | [], ds => by show 0 ≤ _; exact Nat.zero_le _
  | _ :: _, [] => by show 0 ≤ _; exact Nat.zero_le _
  | k :: ks, d :: r => by
    show sizeD d + ((ks.zip r).map fun p => sizeD p.2).sum ≤ sizeD d + sizeL r
    have := size_zip ks r
    omega
theorem size_tail (ds : List PyData) : sizeL ds.tail ≤ sizeL ds := by
  cases ds with
  | nil => exact Nat.le_refl _
  | cons d r => show sizeL r ≤ sizeD d + sizeL r; omega
theorem size_pos (d : PyData) : 1 ≤ sizeD d := by
  cases d <;> first | exact Nat.le_refl _ | (show 1 ≤ 1 + _; omega)
theorem in_cases (k : Str) (ds : List PyData) : (insideD k (.tuple ds) = ds.map fun d => (("statement" : Str), d)) ∨ (insideD k (.tuple ds) = ds.map fun d => (("expression" : Str), d)) ∨ (∃ ks : List Str, insideD k (.tuple ds) = ks.zip ds.tail) ∨ insideD k (.tuple ds) = [] := by
  rw [in_t]
  by_cases h1 : k = "body"
  · exact .inl (if_pos h1)
  rw [if_neg h1]
  by_cases h2 : k = "things"
  · exact .inr (.inl (if_pos h2))
  rw [if_neg h2]
  by_cases h3 : k = "statement" ∨ k = "expression"
  · exact .inr (.inr (.inl ⟨_, if_pos h3⟩))
  · exact .inr (.inr (.inr (if_neg h3)))
theorem size_inside (k : Str) (d : PyData) : ((insideD k d).map fun p => sizeD p.2).sum + 1 ≤ sizeD d := by
  cases d with
  | tuple ds =>
    show _ + 1 ≤ 1 + sizeL ds
    have h : ((insideD k (.tuple ds)).map fun p => sizeD p.2).sum ≤ sizeL ds := by
      rcases in_cases k ds with e | e | ⟨ks, e⟩ | e
      · rw [e, size_map]; exact Nat.le_refl _
      · rw [e, size_map]; exact Nat.le_refl _
      · rw [e]; exact Nat.le_trans (size_zip _ _) (size_tail _)
      · rw [e]; exact Nat.zero_le _
    omega
  | _ => exact size_pos _
theorem small_inside {k : Str} {d : PyData} (h : smallD d = true) : ∀ p ∈ insideD k d, smallD p.2 = true := by
  cases d with
  | tuple ds =>
    have h' : smallL ds = true := h
    intro p hp
    rcases in_cases k ds with e | e | ⟨ks, e⟩ | e
    · rw [e] at hp
      obtain ⟨e, he, rfl⟩ := List.mem_map.mp hp
      exact smallL_mem h' he
    · rw [e] at hp
      obtain ⟨e, he, rfl⟩ := List.mem_map.mp hp
      exact smallL_mem h' he
    · rw [e] at hp
      have m := List.of_mem_zip (a := p.1) (b := p.2) hp
      exact smallL_mem h' (List.mem_of_mem_tail m.2)
    · rw [e] at hp
      cases hp
  | _ => intro p hp; cases hp
/-- pairs of a kind and a part, as they lie; the parts stand since H0 -/
inductive Prs (K : PySem.W.Frag) (H0 H : Hp) : List V → List (Str × PyData) → Prop
  | nil : Prs K H0 H [] []
  | cons {t : Addr} {k : Str} {x : V} {d : PyData} {vs : List V} {ws : List (Str × PyData)} (h : SqT K H t [.str k, x]) (dx : Dp K H0 x d) (r : Prs K H0 H vs ws) : Prs K H0 H (.ref t :: vs) ((k, d) :: ws)
/-- what waits: a kind, a part, whether within a while -/
inductive Its (K : PySem.W.Frag) (H0 H : Hp) : List V → List (Str × Bool × PyData) → Prop
  | nil : Its K H0 H [] []
  | cons {t : Addr} {k : Str} {l : Bool} {x : V} {d : PyData} {vs : List V} {ws : List (Str × Bool × PyData)} (h : SqT K H t [.str k, x, .bl l]) (dx : Dp K H0 x d) (s : smallD d = true) (r : Its K H0 H vs ws) : Its K H0 H (.ref t :: vs) ((k, l, d) :: ws)
section
variable {K : PySem.W.Frag} {H0 H H' : Hp}
theorem Its.tk {vs : List V} {ws : List (Str × Bool × PyData)} (h : Its K H0 H vs ws) (s : Tk H H') : Its K H0 H' vs ws := by
  induction h with
  | nil => exact .nil
  | cons e dx sm _ ih => exact .cons (s.seqT e) dx sm ih
theorem Its.app {vs us : List V} {ws zs : List (Str × Bool × PyData)} (h : Its K H0 H vs ws) (h2 : Its K H0 H us zs) : Its K H0 H (vs ++ us) (ws ++ zs) := by
  induction h with
  | nil => exact h2
  | cons e dx sm _ ih => exact .cons e dx sm ih
theorem Its.len {vs : List V} {ws : List (Str × Bool × PyData)} (h : Its K H0 H vs ws) : vs.length = ws.length := by
  induction h with
  | nil => rfl
  | cons _ _ _ _ ih => rw [List.length_cons, List.length_cons, ih]
/-- the last of them -/
theorem Its.last {vs : List V} {v : V} {ws : List (Str × Bool × PyData)} (h : Its K H0 H (vs ++ [v]) ws) : ∃ t k l x d us, v = .ref t ∧ ws = us ++ [(k, l, d)] ∧ SqT K H t [.str k, x, .bl l] ∧ Dp K H0 x d ∧ smallD d = true ∧ Its K H0 H vs us := by
  induction vs generalizing ws with
  | nil =>
    cases h with
    | cons e dx sm r =>
      cases r
      exact ⟨_, _, _, _, _, [], rfl, rfl, e, dx, sm, .nil⟩
  | cons a vs ih =>
    cases h with
    | cons e dx sm r =>
      obtain ⟨t, k, l, x, d, us, e1, e2, e3, e4, e5, e6⟩ := ih r
      exact ⟨t, k, l, x, d, _ :: us, e1, by rw [e2]; rfl, e3, e4, e5, .cons e dx sm e6⟩
theorem Prs.len {vs : List V} {ws : List (Str × PyData)} (h : Prs K H0 H vs ws) : vs.length = ws.length := by
  induction h with
  | nil => rfl
  | cons _ _ _ ih => rw [List.length_cons, List.length_cons, ih]
theorem Prs.at {vs : List V} {ws : List (Str × PyData)} (h : Prs K H0 H vs ws) : ∀ {i : Nat} {v : V}, vs[i]? = some v → ∃ t k x d, v = .ref t ∧ ws[i]? = some (k, d) ∧ SqT K H t [.str k, x] ∧ Dp K H0 x d := by
  induction h with
  | nil => intro i x h; simp at h
  | @cons t k x d vs ws e dx r ih =>
    intro i v h
    cases i with
    | zero => exact ⟨t, k, x, d, (Option.some.inj h).symm, rfl, e, dx⟩
    | succ i =>
      rw [List.getElem?_cons_succ] at h
      obtain ⟨t2, k2, x2, d2, h1, h2, h3⟩ := ih h
      exact ⟨t2, k2, x2, d2, h1, by rw [List.getElem?_cons_succ]; exact h2, h3⟩
end
def sumI (ws : List (Str × Bool × PyData)) : Nat := (ws.map fun p => sizeD p.2.2).sum
def okI (cs : List (Str × Int)) (ws : List (Str × Bool × PyData)) : Bool := ws.all fun p => okD cs p.1 p.2.1 p.2.2
theorem sumI_app (a b : List (Str × Bool × PyData)) : sumI (a ++ b) = sumI a + sumI b := by unfold sumI; rw [List.map_append, List.sum_append]
theorem okI_app (cs : List (Str × Int)) (a b : List (Str × Bool × PyData)) : okI cs (a ++ b) = (okI cs a && okI cs b) := by unfold okI; rw [List.all_append]
theorem len_sumI : ∀ ws : List (Str × Bool × PyData), ws.length ≤ sumI ws
  | [] => Nat.le_refl _
  | (k, l, d) :: ws => by
    show ws.length + 1 ≤ sizeD d + sumI ws
    have h1 := len_sumI ws
    have h2 := size_pos d
    omega
def tag (l : Bool) (ws : List (Str × PyData)) : List (Str × Bool × PyData) := ws.map fun p => (p.1, l, p.2)
theorem sum_tag (l : Bool) (ws : List (Str × PyData)) : sumI (tag l ws) = (ws.map fun p => sizeD p.2).sum := by unfold sumI tag; rw [List.map_map]; rfl
theorem ok_tag (cs : List (Str × Int)) (l : Bool) (ws : List (Str × PyData)) : okI cs (tag l ws) = ws.all fun p => okD cs p.1 l p.2 := by
  unfold okI tag
  rw [List.all_map]; rfl
theorem okD_no {cs : List (Str × Int)} {k : Str} {l : Bool} {d : PyData} (h : isPartD k d = false) : okD cs k l d = false := by rw [okD_step, h]; rfl
theorem okD_may {cs : List (Str × Int)} {l : Bool} {d : PyData} (h : mayD cs l d = false) : okD cs "statement" l d = false := by
  rw [okD_step, h, decide_eq_true rfl]
  show (_ && (false && _)) = false
  rw [Bool.false_and, Bool.and_false]
theorem okD_go {cs : List (Str × Int)} {k : Str} {l : Bool} {d : PyData} (h : isPartD k d = true) (h2 : k = "statement" → mayD cs l d = true) : okD cs k l d = okI cs (tag (loopD k l d) (insideD k d)) := by
  rw [okD_step, h, ok_tag]
  by_cases hk : k = "statement"
  · rw [h2 hk]
    show (true && ((_ || true) && _)) = _
    rw [Bool.or_true, Bool.true_and, Bool.true_and]
  · rw [decide_eq_false hk]
    show (true && ((true || _) && _)) = _
    rw [Bool.true_or, Bool.true_and, Bool.true_and]
end LK
set_option Elab.async false
set_option linter.all false
set_option maxRecDepth 100000
set_option maxHeartbeats 2000000
namespace LK
open PySem PySem.Spec PyProof.Rows
/-! ### list(zip(t, u)) of two tuples -/
theorem zl_len : typeLookup (Value.type "zip") (Str.ofString "__len__") = pure none := by rfl
theorem zl_hint0 : typeLookup (Value.type "zip") (Str.ofString "__length_hint__") = pure none := by rfl
theorem zl_hint {prog : Program} {w : World} {A : Around} {E : Value → Shared → Prop} {s : Shared} {r : Addr}
    (hT : s.TypeIs (Value.ref r) "zip") {Q : Bool → Shared → Prop} (h : Q true s) : wpAny (model prog w) A (Builtin.List.listLengthHint (Value.ref r)) Q E s := by
  unfold Builtin.List.listLengthHint
  refine wpAny_bind (wpAny_specialOf hT zl_len ?_)
  refine wpAny_bind (wpAny_specialOf hT zl_hint0 ?_)
  exact wpAny_pure h
theorem zl_alive {M : Model} {A : Around} {E : Value → Shared → Prop} {s : Shared} {a : Addr} {o : Obj} {Q : Option Obj → Shared → Prop} (ho : s.heap.get? a = some o) (h : Q (some o) s) : wpAny M A (loadIfAlive a) Q E s := by
  intro Γ p hΓ
  unfold loadIfAlive
  rw [Sem.wp_loadIfAlive, ho]
  exact h
/-- a zip that has handed out the tuple at T -/
def ZipH (h : Heap) (z TI TO T : Addr) (b : Bool) : Prop :=
  h.get? z = some { cls := Value.type "zip", data := Data.fields #[rawInt T, Value.bool b, Value.bool false, Value.ref TI, Value.ref TO] }
theorem zl_free {prog : Program} {w : World} {A : Around} {E : Value → Shared → Prop} {s : Shared} {z TI TO T : Addr} {bb : Bool} {oT : Obj} (hz : ZipH s.heap z TI TO T bb) (hT : s.heap.get? T = some oT) :
    wpAny (model prog w) A (Builtin.SmallTypes.ownedTupleIsFree (Value.ref z)) (fun a s' => a = false ∧ ∃ h₁ : Heap, s' = { heap := h₁, gens := s.gens, drawn := s.drawn, toks := s.toks, os := s.os } ∧ ZipH h₁ z TI TO T true ∧ h₁.objs.size = s.heap.objs.size ∧
      ∀ (c : Addr) (o : Obj), c ≠ z → s.heap.get? c = some o → h₁.get? c = some o) E s := by
  unfold Builtin.SmallTypes.ownedTupleIsFree
  refine wpAny_bind (wpAny_field hz rfl rfl ?_)
  have e0 : #[rawInt (T : Int), Value.bool bb, Value.bool false, Value.ref TI, Value.ref TO][0] = Value.int (T : Int) 0 := rfl
  rw [e0]
  refine wpAny_bind (zl_alive (a := (T : Int).toNat) (o := oT) hT ?_)
  show wpAny _ _ (if (some oT).isNone = true then _ else _) _ _ _
  rw [if_neg (fun h => by cases h)]
  refine wpAny_bind (wpAny_field hz rfl rfl ?_)
  cases bb with
  | true =>
    show wpAny _ _ (if (Value.bool true != Value.bool true) = true then _ else _) _ _ _
    rw [if_neg (by decide)]
    exact wpAny_pure ⟨rfl, s.heap, rfl, hz, rfl, fun _ _ _ e => e⟩
  | false =>
    show wpAny _ _ (if (Value.bool false != Value.bool true) = true then _ else _) _ _ _
    rw [if_pos (by decide)]
    refine wpAny_bind (wpAny_setField hz rfl (by show 1 < 5; decide) ?_)
    refine wpAny_pure ⟨rfl, _, rfl, ?_, ?_, fun c o hc e => ?_⟩
    · exact Heap.get?_update_self _ hz rfl
    · exact Heap.size_update _ _ _
    · exact (Heap.get?_update_other _ _ (Ne.symm hc)).trans e
theorem zl_next {prog : Program} {w : World} {A : Around} {E : Value → Shared → Prop} {s : Shared} {z TI TO T i1 i2 l1 l2 : Addr} {bb : Bool} {k1 k2 : Nat} {xs ys : Array Value} {x y : Value} {oT : Obj} {Q : Value → Shared → Prop}
    (D : ZipApart z TI TO i1 i2 l1 l2) (hz : ZipH s.heap z TI TO T bb) (hTI : IsPair s.heap TI (Value.ref i1) (Value.ref i2)) (hT : s.heap.get? T = some oT) (h1 : s.heap.IsTupleIter i1 l1 k1) (h2 : s.heap.IsTupleIter i2 l2 k2)
    (hl1 : s.heap.IsTuple l1 xs) (hl2 : s.heap.IsTuple l2 ys) (hx : xs[k1]? = some x) (hy : ys[k2]? = some y)
    (hQ : ∀ h' : Heap, ZipH h' z TI TO T true → h'.IsTupleIter i1 l1 (k1 + 1) → h'.IsTupleIter i2 l2 (k2 + 1) → IsPair h' s.heap.objs.size x y → h'.objs.size = s.heap.objs.size + 1 →
      (∀ (c : Addr) (o : Obj), c ≠ z → c ≠ i1 → c ≠ i2 → s.heap.get? c = some o → h'.get? c = some o) → Q (Value.ref s.heap.objs.size) { heap := h', gens := s.gens, drawn := s.drawn, toks := s.toks, os := s.os }) :
    wpAny (model prog w) A (Builtin.«zip.__next__» { pos := [Value.ref z] }) (fun fin s' => ∃ v, fin = Fin.done (Flow.ret v) ∧ Q v s') E s := by
  unfold Builtin.«zip.__next__»
  refine wpAny_bind (wpAny_pure ?_)
  show wpAny _ _ _ _ _ _
  refine wpAny_bind (wpAny_field hz rfl rfl ?_)
  refine wpAny_bind (wpAny_field hz rfl rfl ?_)
  refine wpAny_bind (wpAny_seqItems hTI rfl ?_)
  refine wpAny_bind ?_
  refine wpAny_mono (zl_free hz hT) ?_ (fun _ _ h => h)
  rintro a s' ⟨rfl, h₁, rfl, hz₁, hs₁, k₁⟩
  simp only [← Array.forIn_toList, List.forIn_cons, List.forIn_nil]
  rw [if_neg Bool.false_ne_true]
  have t1 : h₁.IsTupleIter i1 l1 k1 := by
    obtain ⟨o, e, r⟩ := h1
    exact ⟨o, k₁ _ _ D.i1z e, r⟩
  have u1 : h₁.IsTuple l1 xs := by
    obtain ⟨o, e, r⟩ := hl1
    exact ⟨o, k₁ _ _ D.l1z e, r⟩
  refine wpAny_bind (wpAny_bind (wpAny_bind (wpAny_holding ?_)))
  show wpAny _ _ (do let r ← Builtin.SmallTypes.nextOf (Value.ref i1); pure (some r)) _ _ _
  refine wpAny_bind (RZ.nextOf_tuple_item t1 u1 hx fun h₂ t2 sb => wpAny_pure ?_)
  refine wpAny_pure ?_
  have k₂ : ∀ (c : Addr) (o : Obj), c ≠ z → c ≠ i1 → s.heap.get? c = some o → h₂.get? c = some o := fun c o n1 n2 e => (sb.2 c n2).trans (k₁ c o n1 e)
  have t3 : h₂.IsTupleIter i2 l2 k2 := by
    obtain ⟨o, e, r⟩ := h2
    exact ⟨o, k₂ _ _ D.i2z (Ne.symm D.i12) e, r⟩
  have u3 : h₂.IsTuple l2 ys := by
    obtain ⟨o, e, r⟩ := hl2
    exact ⟨o, k₂ _ _ D.l2z D.l2i1 e, r⟩
  refine wpAny_bind (wpAny_bind (wpAny_holding ?_))
  show wpAny _ _ (do let r ← Builtin.SmallTypes.nextOf (Value.ref i2); pure (some r)) _ _ _
  refine wpAny_bind (RZ.nextOf_tuple_item t3 u3 hy fun h₃ t4 sb2 => wpAny_pure ?_)
  refine wpAny_pure ?_
  refine wpAny_pure ?_
  show wpAny _ _ (do let r ← newTuple _; ret r) _ _ _
  refine wpAny_bind (wpAny_newTuple ?_ (by show 2 ≤ sizeLine; decide))
  refine wpAny_pure ⟨_, rfl, ?_⟩
  have e3 : h₃.objs.size = s.heap.objs.size := sb2.1.trans (sb.1.trans hs₁)
  have hz3 : ZipH h₃ z TI TO T true := (sb2.2 z (Ne.symm D.i2z)).trans ((sb.2 z (Ne.symm D.i1z)).trans hz₁)
  have t5 : h₃.IsTupleIter i1 l1 (k1 + 1) := by
    obtain ⟨o, e, r⟩ := t2
    exact ⟨o, (sb2.2 _ D.i12).trans e, r⟩
  have k₃ : ∀ (c : Addr) (o : Obj), c ≠ z → c ≠ i1 → c ≠ i2 → s.heap.get? c = some o → h₃.get? c = some o := fun c o n1 n2 n3 e => (sb2.2 c n3).trans (k₂ c o n1 n2 e)
  have q := hQ (h₃.push { cls := Value.type "tuple", data := Data.seq #[x, y] }) (Heap.get?_push_of_some _ hz3)
    (by obtain ⟨o, e, r⟩ := t5; exact ⟨o, Heap.get?_push_of_some _ e, r⟩) (by obtain ⟨o, e, r⟩ := t4; exact ⟨o, Heap.get?_push_of_some _ e, r⟩)
    (by rw [← e3]; exact Heap.get?_push_size h₃ rfl) (by rw [Heap.size_push, e3]) (fun c o n1 n2 n3 e => Heap.get?_push_of_some _ (k₃ c o n1 n2 n3 e))
  rw [← e3] at q
  exact q
theorem zl_stop {prog : Program} {w : World} {A : Around} {E : Value → Shared → Prop} {s : Shared} {z TI TO T i1 i2 l1 l2 : Addr} {bb : Bool} {k1 k2 : Nat} {xs ys : Array Value} {oT : Obj} {Q : PySem.Fin → Shared → Prop} (hh : A.handled = none)
    (D : ZipApart z TI TO i1 i2 l1 l2) (hz : ZipH s.heap z TI TO T bb) (hTI : IsPair s.heap TI (Value.ref i1) (Value.ref i2)) (hT : s.heap.get? T = some oT) (h1 : s.heap.IsTupleIter i1 l1 k1) (h2 : s.heap.IsTupleIter i2 l2 k2)
    (hl1 : s.heap.IsTuple l1 xs) (hl2 : s.heap.IsTuple l2 ys) (hend : xs[k1]? = none ∨ ys[k2]? = none)
    (hE : ∀ (h' : Heap) (e : Addr), (∀ (c : Addr) (o : Obj), c ≠ z → c ≠ i1 → c ≠ i2 → s.heap.get? c = some o → h'.get? c = some o) → (∃ o, h'.get? e = some o ∧ o.cls = Value.type "StopIteration") →
      E (Value.ref e) { heap := h', gens := s.gens, drawn := s.drawn, toks := s.toks, os := s.os }) :
    wpAny (model prog w) A (Builtin.«zip.__next__» { pos := [Value.ref z] }) Q E s := by
  unfold Builtin.«zip.__next__»
  refine wpAny_bind (wpAny_pure ?_)
  show wpAny _ _ _ _ _ _
  refine wpAny_bind (wpAny_field hz rfl rfl ?_)
  refine wpAny_bind (wpAny_field hz rfl rfl ?_)
  refine wpAny_bind (wpAny_seqItems hTI rfl ?_)
  refine wpAny_bind ?_
  refine wpAny_mono (zl_free hz hT) ?_ (fun _ _ h => h)
  rintro a s' ⟨rfl, h₁, rfl, hz₁, hs₁, k₁⟩
  simp only [← Array.forIn_toList, List.forIn_cons, List.forIn_nil]
  rw [if_neg Bool.false_ne_true]
  have t1 : h₁.IsTupleIter i1 l1 k1 := by
    obtain ⟨o, e, r⟩ := h1
    exact ⟨o, k₁ _ _ D.i1z e, r⟩
  have u1 : h₁.IsTuple l1 xs := by
    obtain ⟨o, e, r⟩ := hl1
    exact ⟨o, k₁ _ _ D.l1z e, r⟩
  refine wpAny_bind (wpAny_bind (wpAny_bind (wpAny_holding ?_)))
  show wpAny _ _ (do let r ← Builtin.SmallTypes.nextOf (Value.ref i1); pure (some r)) _ _ _
  cases hx : xs[k1]? with
  | none =>
    refine wpAny_bind (RZ.nextOf_tuple_end hh t1 u1 hx ?_)
    exact fun h' e eb st => hE h' e (fun c o n1 n2 n3 g => eb c o n2 (k₁ c o n1 g)) st
  | some x =>
    have hy : ys[k2]? = none := by
      rcases hend with e | e
      · rw [hx] at e; cases e
      · exact e
    refine wpAny_bind (RZ.nextOf_tuple_item t1 u1 hx fun h₂ t2 sb => wpAny_pure ?_)
    refine wpAny_pure ?_
    have k₂ : ∀ (c : Addr) (o : Obj), c ≠ z → c ≠ i1 → s.heap.get? c = some o → h₂.get? c = some o := fun c o n1 n2 e => (sb.2 c n2).trans (k₁ c o n1 e)
    have t3 : h₂.IsTupleIter i2 l2 k2 := by
      obtain ⟨o, e, r⟩ := h2
      exact ⟨o, k₂ _ _ D.i2z (Ne.symm D.i12) e, r⟩
    have u3 : h₂.IsTuple l2 ys := by
      obtain ⟨o, e, r⟩ := hl2
      exact ⟨o, k₂ _ _ D.l2z D.l2i1 e, r⟩
    refine wpAny_bind (wpAny_bind (wpAny_holding ?_))
    show wpAny _ _ (do let r ← Builtin.SmallTypes.nextOf (Value.ref i2); pure (some r)) _ _ _
    refine wpAny_bind (RZ.nextOf_tuple_end hh t3 u3 hy ?_)
    exact fun h' e eb st => hE h' e (fun c o n1 n2 n3 g => eb c o n3 (k₂ c o n1 n2 g)) st
/-- a zip as it stands in list's loop: new, or behind an item -/
def ZipS (h : Heap) (z TI TO : Addr) (i : Nat) : Prop :=
  (i = 0 ∧ IsZip h z TI TO Value.none ∧ ∃ a b, IsPair h TO a b) ∨ (∃ T b oT, ZipH h z TI TO T b ∧ h.get? T = some oT ∧ oT.cls = Value.type "tuple")
theorem ZipS.typeIs {s : Shared} {z TI TO : Addr} {i : Nat} (h : ZipS s.heap z TI TO i) : s.TypeIs (Value.ref z) "zip" := by
  rcases h with ⟨_, h, _⟩ | ⟨T, b, oT, h, _⟩
  · exact ⟨_, h, rfl⟩
  · exact ⟨_, h, rfl⟩
theorem zl_item {prog : Program} {w : World} {A : Around} {E : Value → Shared → Prop} {s : Shared} {z TI TO i1 i2 l1 l2 : Addr} {k : Nat} {xs ys : Array Value} {x y : Value} {Q : Option Value → Shared → Prop}
    (D : ZipApart z TI TO i1 i2 l1 l2) (hz : ZipS s.heap z TI TO k) (hTI : IsPair s.heap TI (Value.ref i1) (Value.ref i2)) (h1 : s.heap.IsTupleIter i1 l1 k) (h2 : s.heap.IsTupleIter i2 l2 k)
    (hl1 : s.heap.IsTuple l1 xs) (hl2 : s.heap.IsTuple l2 ys) (hx : xs[k]? = some x) (hy : ys[k]? = some y)
    (hQ : ∀ h' : Heap, ZipS h' z TI TO (k + 1) → h'.IsTupleIter i1 l1 (k + 1) → h'.IsTupleIter i2 l2 (k + 1) → IsPair h' s.heap.objs.size x y → h'.objs.size = s.heap.objs.size + 1 →
      (∀ (c : Addr) (o : Obj), c ≠ z → c ≠ TO → c ≠ i1 → c ≠ i2 → s.heap.get? c = some o → h'.get? c = some o) → Q (some (Value.ref s.heap.objs.size)) { heap := h', gens := s.gens, drawn := s.drawn, toks := s.toks, os := s.os }) :
    wpAny (model prog w) A (pyNext (Value.ref z)) Q E s := by
  have hty := hz.typeIs
  rcases hz with ⟨_, hz, a, b, hTO⟩ | ⟨T, b, oT, hz, hT, hc⟩
  · exact RZ.pyNext_zipT_item D hz hTI hTO h1 h2 hl1 hl2 hx hy fun h' a1 a2 a3 a4 a5 a6 a7 => hQ h' (.inr ⟨_, false, _, a1, a5, rfl⟩) a3 a4 a5 a6 a7
  · have nz : T ≠ z := fun e => by
      rw [e, hz] at hT; cases hT
      exact absurd (show Value.type "zip" = Value.type "tuple" from hc) (by decide)
    have n1 : T ≠ i1 := fun e => by
      obtain ⟨o, eo, hc2, _⟩ := h1
      rw [e, eo] at hT; cases hT; rw [hc2] at hc; exact absurd hc (by decide)
    have n2 : T ≠ i2 := fun e => by
      obtain ⟨o, eo, hc2, _⟩ := h2
      rw [e, eo] at hT; cases hT; rw [hc2] at hc; exact absurd hc (by decide)
    exact wpAny_bind (wpAny_attempt (wpAny_callSpecial?_slot hty F.slot_zip_next (wpAny_call_entry F.slot_zip_next hty F.entry_zip_next
      (zl_next D hz hTI hT h1 h2 hl1 hl2 hx hy fun h' a1 a2 a3 a4 a5 a6 => wpAny_pure (hQ h' (.inr ⟨T, true, oT, a1, a6 _ _ nz n1 n2 hT, hc⟩) a2 a3 a4 a5 fun c o m1 _ m3 m4 e => a6 c o m1 m3 m4 e))
      (F.args_zip_next_1 (Value.ref z)))))
theorem zl_end {prog : Program} {w : World} {A : Around} {E : Value → Shared → Prop} {s : Shared} {z TI TO i1 i2 l1 l2 : Addr} {k : Nat} {xs ys : Array Value} {Q : Option Value → Shared → Prop} (hh : A.handled = none)
    (D : ZipApart z TI TO i1 i2 l1 l2) (hz : ZipS s.heap z TI TO k) (hTI : IsPair s.heap TI (Value.ref i1) (Value.ref i2)) (h1 : s.heap.IsTupleIter i1 l1 k) (h2 : s.heap.IsTupleIter i2 l2 k)
    (hl1 : s.heap.IsTuple l1 xs) (hl2 : s.heap.IsTuple l2 ys) (hend : xs[k]? = none ∨ ys[k]? = none)
    (hQ : ∀ h' : Heap, (∀ (c : Addr) (o : Obj), c ≠ z → c ≠ TO → c ≠ i1 → c ≠ i2 → s.heap.get? c = some o → h'.get? c = some o) → Q none { heap := h', gens := s.gens, drawn := s.drawn, toks := s.toks, os := s.os }) :
    wpAny (model prog w) A (pyNext (Value.ref z)) Q E s := by
  have hty := hz.typeIs
  rcases hz with ⟨_, hz, a, b, hTO⟩ | ⟨T, b, oT, hz, hT, hc⟩
  · exact RZ.pyNext_zipT_end hh D hz hTI hTO h1 h2 hl1 hl2 hend hQ
  · exact wpAny_bind (wpAny_attempt (wpAny_callSpecial?_slot hty F.slot_zip_next (wpAny_call_entry F.slot_zip_next hty F.entry_zip_next
      (zl_stop hh D hz hTI hT h1 h2 hl1 hl2 hend fun h' e hk ⟨o, ho, hc⟩ => wpAny_bind (wpAny_isInstance ⟨o, ho, hc⟩ isSubtype_stop (wpAny_pure (hQ h' fun c o m1 _ m3 m4 g => hk c o m1 m3 m4 g))))
      (F.args_zip_next_1 (Value.ref z)))))
/-- the pairs made so far, at as -/
def Prd (xs ys : Array Value) (h : Heap) (as : List Addr) : Prop := ∀ (j : Nat) (a : Addr), as[j]? = some a → ∃ x y, xs[j]? = some x ∧ ys[j]? = some y ∧ IsPair h a x y
theorem zl_loop {prog : Program} {w : World} {A : Around} {s : Shared} {R : Result → Shared → Prop} {S z TI TO i1 i2 l1 l2 : Addr} {xs ys : Array Value} (hh : A.handled = none) (D : ZipApart z TI TO i1 i2 l1 l2)
    (nz : S ≠ z) (nTI : S ≠ TI) (nTO : S ≠ TO) (n1 : S ≠ i1) (n2 : S ≠ i2) (m1 : S ≠ l1) (m2 : S ≠ l2) (hn : xs.size ≤ sizeLine) (res : Value) {h₁ : Heap}
    (hR : ∀ (h' : Heap) (tk : Nat) (acc : Array Value) (c : Nat) (as : List Addr), (∀ (b : Addr) (o : Obj), b ≠ S → b ≠ z → b ≠ TO → b ≠ i1 → b ≠ i2 → h₁.get? b = some o → h'.get? b = some o) →
      h'.get? S = some { cls := Value.type "list", data := Data.seq acc c } → as.length = min xs.size ys.size → Prd xs ys h' as → acc.toList = as.map Value.ref → (∀ a ∈ as, S < a) →
      R (Except.ok (Flow.ret res)) { heap := h', gens := s.gens, drawn := s.drawn, toks := tk, os := s.os }) :
    ∀ (k i : Nat) (h : Heap) (tk c : Nat) (acc : Array Value) (as : List Addr), min xs.size ys.size - i = k → i ≤ min xs.size ys.size → ZipS h z TI TO i → IsPair h TI (Value.ref i1) (Value.ref i2) → h.IsTupleIter i1 l1 i → h.IsTupleIter i2 l2 i → h.IsTuple l1 xs → h.IsTuple l2 ys →
      (∀ (b : Addr) (o : Obj), b ≠ S → b ≠ z → b ≠ TO → b ≠ i1 → b ≠ i2 → h₁.get? b = some o → h.get? b = some o) → h.get? S = some { cls := Value.type "list", data := Data.seq acc c } → acc.toList = as.map Value.ref → as.length = i → Prd xs ys h as →
      (∀ a ∈ as, S < a ∧ z < a ∧ TO < a ∧ i1 < a ∧ i2 < a) → S < h.objs.size → z < h.objs.size ∧ TO < h.objs.size ∧ i1 < h.objs.size ∧ i2 < h.objs.size →
      codeAny (model prog w) A (Code.builtin "list.extend.loop" { pos := [Value.ref S, Value.ref z, res] }) R { heap := h, gens := s.gens, drawn := s.drawn, toks := tk, os := s.os } := by
  intro k
  induction k with
  | zero =>
    intro i h tk c acc as hk hi hz hTI h1 h2 hl1 hl2 hkeep hS hacc hal hP hab hSs hzs
    refine codeAny_builtin F.entry_extend_loop ?_
    rw [Around.under_plainId F.plain_extend_loop]
    show wpAny _ _ (do
      let r ← pyNext (Value.ref z)
      match r with
      | none => ret res
      | some x => do
        Builtin.List.listUpdate (Value.ref S) fun x_1 => x_1.push x
        again (Code.builtin "list.extend.loop" { pos := [Value.ref S, Value.ref z, res] })) _ _ _
    refine wpAny_bind (zl_end (k := i) hh D hz hTI h1 h2 hl1 hl2 ?_ fun h' he => ?_)
    · have e : i = min xs.size ys.size := by omega
      by_cases hle : xs.size ≤ ys.size
      · left
        rw [Array.getElem?_eq_none_iff]
        omega
      · right
        rw [Array.getElem?_eq_none_iff]
        omega
    · refine wpAny_pure (hR h' tk acc c as (fun b o b1 b2 b3 b4 b5 e => he b o b2 b3 b4 b5 (hkeep b o b1 b2 b3 b4 b5 e)) (he S _ nz nTO n1 n2 hS) (by omega) ?_ hacc fun a ha => (hab a ha).1)
      intro j a hj
      obtain ⟨x, y, hx, hy, hp⟩ := hP j a hj
      obtain ⟨_, a1, a2, a3, a4⟩ := hab a (List.mem_of_getElem? hj)
      exact ⟨x, y, hx, hy, he a _ (Nat.ne_of_gt a1) (Nat.ne_of_gt a2) (Nat.ne_of_gt a3) (Nat.ne_of_gt a4) hp⟩
  | succ k ih =>
    intro i h tk c acc as hk hi hz hTI h1 h2 hl1 hl2 hkeep hS hacc hal hP hab hSs hzs
    have ix : i < xs.size := by omega
    have iy : i < ys.size := by omega
    have hx : xs[i]? = some xs[i] := Array.getElem?_eq_getElem ix
    have hy : ys[i]? = some ys[i] := Array.getElem?_eq_getElem iy
    have hsz : acc.size = i := by
      have : acc.toList.length = i := by rw [hacc, List.length_map, hal]
      exact this
    refine codeAny_builtin F.entry_extend_loop ?_
    rw [Around.under_plainId F.plain_extend_loop]
    show wpAny _ _ (do
      let r ← pyNext (Value.ref z)
      match r with
      | none => ret res
      | some x => do
        Builtin.List.listUpdate (Value.ref S) fun x_1 => x_1.push x
        again (Code.builtin "list.extend.loop" { pos := [Value.ref S, Value.ref z, res] })) _ _ _
    refine wpAny_bind (zl_item D hz hTI h1 h2 hl1 hl2 hx hy fun h' z1 t1 t2 pr sz he => ?_)
    have hS' := he S _ nz nTO n1 n2 hS
    have up : ∀ (b : Addr) (o : Obj), b ≠ S → h'.get? b = some o → (h'.update S (Obj.mapSeq fun x => x.push (Value.ref h.objs.size))).get? b = some o := fun b o hb e => (Heap.get?_update_other h' _ (Ne.symm hb)).trans e
    refine wpAny_bind (wpAny_updateSeq hS' rfl ?_ ?_ ?_)
    · refine wpAny_pure ⟨plainId_quiet F.plain_extend_loop _, ?_⟩
      refine ih (i + 1) _ tk _ (acc.push (Value.ref h.objs.size)) (as ++ [h.objs.size]) (by omega) (by omega) ?_ (up _ _ (Ne.symm nTI) (he _ _ D.TIz D.TITO D.TIi1 D.TIi2 hTI)) ?_ ?_ ?_ ?_ ?_ (Heap.get?_update_self _ hS' rfl) ?_ ?_ ?_ ?_ ?_ ?_
      · rcases z1 with ⟨e0, _⟩ | ⟨T, b, oT, za, zb, zc⟩
        · omega
        · have nT : T ≠ S := fun e => by
            rw [e, hS'] at zb; cases zb
            exact absurd (show Value.type "list" = Value.type "tuple" from zc) (by decide)
          exact .inr ⟨T, b, oT, up _ _ (Ne.symm nz) za, up _ _ nT zb, zc⟩
      · obtain ⟨o, e, r⟩ := t1
        exact ⟨o, up _ _ (Ne.symm n1) e, r⟩
      · obtain ⟨o, e, r⟩ := t2
        exact ⟨o, up _ _ (Ne.symm n2) e, r⟩
      · obtain ⟨o, e, r⟩ := hl1
        exact ⟨o, up _ _ (Ne.symm m1) (he _ _ D.l1z D.l1TO D.l1i1 D.l1i2 e), r⟩
      · obtain ⟨o, e, r⟩ := hl2
        exact ⟨o, up _ _ (Ne.symm m2) (he _ _ D.l2z D.l2TO D.l2i1 D.l2i2 e), r⟩
      · intro b o b1 b2 b3 b4 b5 e
        exact up b o b1 (he b o b2 b3 b4 b5 (hkeep b o b1 b2 b3 b4 b5 e))
      · rw [Array.toList_push, hacc, List.map_append]; rfl
      · rw [List.length_append, hal]; rfl
      · intro j a hj
        rcases Nat.lt_trichotomy j as.length with hlt | heq | hgt
        · rw [List.getElem?_append_left hlt] at hj
          obtain ⟨x, y, hx2, hy2, hp⟩ := hP j a hj
          obtain ⟨a0, a1, a2, a3, a4⟩ := hab a (List.mem_of_getElem? hj)
          exact ⟨x, y, hx2, hy2, up _ _ (Nat.ne_of_gt a0) (he a _ (Nat.ne_of_gt a1) (Nat.ne_of_gt a2) (Nat.ne_of_gt a3) (Nat.ne_of_gt a4) hp)⟩
        · subst heq
          rw [List.getElem?_append_right (Nat.le_refl _), Nat.sub_self] at hj
          have ea : h.objs.size = a := Option.some.inj hj
          rw [hal, ← ea]
          exact ⟨_, _, hx, hy, up _ _ (Nat.ne_of_gt hSs) pr⟩
        · rw [List.getElem?_eq_none (by rw [List.length_append]; show as.length + 1 ≤ j; omega)] at hj
          cases hj
      · intro a ha
        rcases List.mem_append.mp ha with ha | ha
        · exact hab a ha
        · rw [List.mem_singleton.mp ha]
          exact ⟨hSs, hzs.1, hzs.2.1, hzs.2.2.1, hzs.2.2.2⟩
      · show S < (h'.update S _).objs.size
        rw [Heap.size_update, sz]; exact Nat.lt_succ_of_lt hSs
      · show z < (h'.update S _).objs.size ∧ _
        rw [Heap.size_update, sz]
        exact ⟨Nat.lt_succ_of_lt hzs.1, Nat.lt_succ_of_lt hzs.2.1, Nat.lt_succ_of_lt hzs.2.2.1, Nat.lt_succ_of_lt hzs.2.2.2⟩
    · rw [hsz]; omega
    · show (acc.push _).size ≤ _
      rw [Array.size_push, hsz]; omega
theorem zl_extend {prog : Program} {w : World} {A : Around} {s : Shared} {R : Result → Shared → Prop} {S z TI TO i1 i2 l1 l2 : Addr} {xs ys : Array Value} {a b : Value} {c₀ : Nat} (hh : A.handled = none) (D : ZipApart z TI TO i1 i2 l1 l2)
    (nz : S ≠ z) (nTI : S ≠ TI) (nTO : S ≠ TO) (n1 : S ≠ i1) (n2 : S ≠ i2) (m1 : S ≠ l1) (m2 : S ≠ l2) (hn : xs.size ≤ sizeLine) (res : Value) (hz : IsZip s.heap z TI TO Value.none) (hTO : IsPair s.heap TO a b)
    (hTI : IsPair s.heap TI (Value.ref i1) (Value.ref i2)) (h1 : s.heap.IsTupleIter i1 l1 0) (h2 : s.heap.IsTupleIter i2 l2 0) (hl1 : s.heap.IsTuple l1 xs) (hl2 : s.heap.IsTuple l2 ys) (hS : s.heap.get? S = some { cls := Value.type "list", data := Data.seq #[] c₀ })
    (hR : ∀ (h' : Heap) (tk : Nat) (acc : Array Value) (c : Nat) (as : List Addr), (∀ (b : Addr) (o : Obj), b ≠ S → b ≠ z → b ≠ TO → b ≠ i1 → b ≠ i2 → s.heap.get? b = some o → h'.get? b = some o) →
      h'.get? S = some { cls := Value.type "list", data := Data.seq acc c } → as.length = min xs.size ys.size → Prd xs ys h' as → acc.toList = as.map Value.ref → (∀ a ∈ as, S < a) →
      R (Except.ok (Flow.ret res)) { heap := h', gens := s.gens, drawn := s.drawn, toks := tk, os := s.os }) :
    wpAny (model prog w) A.in1 (Builtin.List.listExtendWith (Value.ref S) (Value.ref z) res)
      (fun fin s' => match fin with
        | Fin.done f => R (Except.ok f) s'
        | Fin.again c' => c'.quiet = true ∧ codeAny (model prog w) A c' R s') (fun e s' => R (Except.error e) s') s := by
  have key : ∀ (h : Heap) (c₁ tk : Nat), (∀ (b : Addr) (o : Obj), b ≠ S → s.heap.get? b = some o → h.get? b = some o) → h.objs.size = s.heap.objs.size → h.get? S = some { cls := Value.type "list", data := Data.seq #[] c₁ } →
      codeAny (model prog w) A (Code.builtin "list.extend.loop" { pos := [Value.ref S, Value.ref z, res] }) R { heap := h, gens := s.gens, drawn := s.drawn, toks := tk, os := s.os } := by
    intro h c₁ tk hk hsz hS₁
    have lt : ∀ {q : Addr} {o : Obj}, s.heap.get? q = some o → q < h.objs.size := fun e => by rw [hsz]; exact Heap.lt_size e
    refine zl_loop hh D nz nTI nTO n1 n2 m1 m2 hn res (fun h' tk' acc c as hk' hS' hl hP hacc hab => hR h' tk' acc c as (fun b o b1 b2 b3 b4 b5 e => hk' b o b1 b2 b3 b4 b5 e) hS' hl hP hacc hab) _ 0 h tk c₁ #[] [] rfl (Nat.zero_le _)
      (.inl ⟨rfl, hk _ _ (Ne.symm nz) hz, a, b, hk _ _ (Ne.symm nTO) hTO⟩) (hk _ _ (Ne.symm nTI) hTI) ?_ ?_ ?_ ?_ (fun b o b1 _ _ _ _ e => hk b o b1 e) hS₁ rfl rfl (fun j a hj => by simp at hj) (fun a ha => nomatch ha) (lt hS) ⟨lt hz, lt hTO, ?_, ?_⟩
    · obtain ⟨o, e, r⟩ := h1; exact ⟨o, hk _ _ (Ne.symm n1) e, r⟩
    · obtain ⟨o, e, r⟩ := h2; exact ⟨o, hk _ _ (Ne.symm n2) e, r⟩
    · obtain ⟨o, e, r⟩ := hl1; exact ⟨o, hk _ _ (Ne.symm m1) e, r⟩
    · obtain ⟨o, e, r⟩ := hl2; exact ⟨o, hk _ _ (Ne.symm m2) e, r⟩
    · obtain ⟨o, e, r⟩ := h1; exact lt e
    · obtain ⟨o, e, r⟩ := h2; exact lt e
  have hty : s.TypeIs (Value.ref z) "zip" := ⟨_, hz, rfl⟩
  unfold Builtin.List.listExtendWith
  refine wpAny_bind (wpAny_typeOf hty ?_)
  have c1 : (Builtin.List.listSameRef (Value.ref S) (Value.ref z) || Value.type "zip" == Value.type "list" || Value.type "zip" == Value.type "tuple") = false := by
    have e1 : Builtin.List.listSameRef (Value.ref S) (Value.ref z) = false := by
      show (S == z) = false
      exact beq_eq_false_iff_ne.mpr nz
    rw [e1]; rfl
  rw [if_neg (by rw [c1]; exact Bool.false_ne_true)]
  refine wpAny_bind (wpAny_pyIter_zip hz ?_)
  refine wpAny_bind (wpAny_holding (zl_hint hty ?_))
  show wpAny _ _ (if (true || _) = true then _ else _) _ _ _
  rw [if_pos (Bool.true_or _)]
  refine wpAny_bind (wpAny_rule ?_)
  refine wpAny_bind ?_
  unfold Builtin.List.listTouch
  refine wpAny_bind ?_
  refine wpAny_updateSeq hS rfl ?_ (by decide) (by decide)
  have hS₂ := Heap.get?_update_self (Obj.mapSeq fun x => x.push Value.none) hS rfl
  refine wpAny_updateSeq hS₂ rfl ?_ (by decide) (by decide)
  have hS₃ := Heap.get?_update_self (Obj.mapSeq fun x => x.pop) hS₂ rfl
  refine wpAny_pure ⟨plainId_quiet F.plain_extend_loop _, ?_⟩
  refine key _ _ _ (fun b o hb e => (Heap.get?_update_other _ _ (Ne.symm hb)).trans ((Heap.get?_update_other _ _ (Ne.symm hb)).trans e)) ?_ hS₃
  rw [Heap.size_update, Heap.size_update]
theorem zl_init {prog : Program} {w : World} {A : Around} {s : Shared} {R : Result → Shared → Prop} {S z TI TO i1 i2 l1 l2 : Addr} {xs ys : Array Value} {a b : Value} (hh : A.handled = none) (D : ZipApart z TI TO i1 i2 l1 l2)
    (nz : S ≠ z) (nTI : S ≠ TI) (nTO : S ≠ TO) (n1 : S ≠ i1) (n2 : S ≠ i2) (m1 : S ≠ l1) (m2 : S ≠ l2) (hn : xs.size ≤ sizeLine) (hz : IsZip s.heap z TI TO Value.none) (hTO : IsPair s.heap TO a b)
    (hTI : IsPair s.heap TI (Value.ref i1) (Value.ref i2)) (h1 : s.heap.IsTupleIter i1 l1 0) (h2 : s.heap.IsTupleIter i2 l2 0) (hl1 : s.heap.IsTuple l1 xs) (hl2 : s.heap.IsTuple l2 ys) (hS : s.heap.get? S = some { cls := Value.type "list", data := Data.seq #[] })
    (hR : ∀ (h' : Heap) (tk : Nat) (acc : Array Value) (c : Nat) (as : List Addr), (∀ (b : Addr) (o : Obj), b ≠ S → b ≠ z → b ≠ TO → b ≠ i1 → b ≠ i2 → s.heap.get? b = some o → h'.get? b = some o) →
      h'.get? S = some { cls := Value.type "list", data := Data.seq acc c } → as.length = min xs.size ys.size → Prd xs ys h' as → acc.toList = as.map Value.ref → (∀ a ∈ as, S < a) →
      R (Except.ok (Flow.ret Value.none)) { heap := h', gens := s.gens, drawn := s.drawn, toks := tk, os := s.os }) :
    wpAny (model prog w) A.in1 (Builtin.«list.__init__» { pos := [Value.ref S, Value.ref z] })
      (fun fin s' => match fin with
        | Fin.done f => R (Except.ok f) s'
        | Fin.again c' => c'.quiet = true ∧ codeAny (model prog w) A c' R s') (fun e s' => R (Except.error e) s') s := by
  unfold Builtin.«list.__init__»
  refine wpAny_bind ?_
  refine wpAny_bind (wpAny_seqItems hS rfl (wpAny_pure ?_))
  refine wpAny_bind (wpAny_updateSeq hS rfl ?_ (by decide) (by decide))
  have hS₂ := Heap.get?_update_self (Obj.mapSeq fun x => #[]) hS rfl
  have oth : ∀ (b : Addr) (o : Obj), b ≠ S → s.heap.get? b = some o → (s.heap.update S (Obj.mapSeq fun x => #[])).get? b = some o := fun b o hb e => (Heap.get?_update_other _ _ (Ne.symm hb)).trans e
  refine wpAny_bind (wpAny_letGo ?_)
  refine zl_extend hh D nz nTI nTO n1 n2 m1 m2 hn Value.none (oth _ _ (Ne.symm nz) hz) (oth _ _ (Ne.symm nTO) hTO) (oth _ _ (Ne.symm nTI) hTI) ?_ ?_ ?_ ?_ hS₂ (fun h' tk acc c as hk hS' hl hP hacc hab => hR h' tk acc c as (fun b o b1 b2 b3 b4 b5 e => hk b o b1 b2 b3 b4 b5 (oth b o b1 e)) hS' hl hP hacc hab)
  · obtain ⟨o, e, r⟩ := h1; exact ⟨o, oth _ _ (Ne.symm n1) e, r⟩
  · obtain ⟨o, e, r⟩ := h2; exact ⟨o, oth _ _ (Ne.symm n2) e, r⟩
  · obtain ⟨o, e, r⟩ := hl1; exact ⟨o, oth _ _ (Ne.symm m1) e, r⟩
  · obtain ⟨o, e, r⟩ := hl2; exact ⟨o, oth _ _ (Ne.symm m2) e, r⟩
theorem zl_call {prog : Program} {w : World} {A : Around} {E : Value → Shared → Prop} {s : Shared} {z TI TO i1 i2 l1 l2 : Addr} {xs ys : Array Value} {a b : Value} {Q : Value → Shared → Prop} (hh : A.handled = none) (D : ZipApart z TI TO i1 i2 l1 l2)
    (hn : xs.size ≤ sizeLine) (hz : IsZip s.heap z TI TO Value.none) (hTO : IsPair s.heap TO a b) (hTI : IsPair s.heap TI (Value.ref i1) (Value.ref i2)) (h1 : s.heap.IsTupleIter i1 l1 0) (h2 : s.heap.IsTupleIter i2 l2 0)
    (hl1 : s.heap.IsTuple l1 xs) (hl2 : s.heap.IsTuple l2 ys)
    (hQ : ∀ (h' : Heap) (tk : Nat) (acc : Array Value) (c : Nat) (as : List Addr), (∀ (b : Addr) (o : Obj), b ≠ z → b ≠ TO → b ≠ i1 → b ≠ i2 → s.heap.get? b = some o → h'.get? b = some o) →
      h'.get? s.heap.objs.size = some { cls := Value.type "list", data := Data.seq acc c } → as.length = min xs.size ys.size → Prd xs ys h' as → acc.toList = as.map Value.ref → (∀ a ∈ as, s.heap.objs.size < a) →
      Q (Value.ref s.heap.objs.size) { heap := h', gens := s.gens, drawn := s.drawn, toks := tk, os := s.os }) :
    wpAny (model prog w) A (call (Value.type "list") [Value.ref z]) Q E s := by
  refine callType_codes (Q₁ := fun v s' => v = Value.ref s.heap.objs.size ∧ s' = { heap := s.heap.push { cls := Value.type "list", data := Data.seq #[] }, gens := s.gens, drawn := s.drawn, toks := s.toks, os := s.os }) F.called_list (F.typeCall_list_1 (Value.ref z)) F.entry_list_init (code_list_new (Value.ref z) ⟨rfl, rfl⟩) fun obj s₁ h₁ => ?_
  obtain ⟨rfl, rfl⟩ := h₁
  have up : ∀ {q : Addr} {o : Obj}, s.heap.get? q = some o → (s.heap.push { cls := Value.type "list", data := Data.seq #[] }).get? q = some o := fun e => Heap.get?_push_of_some _ e
  have ne : ∀ {q : Addr} {o : Obj}, s.heap.get? q = some o → s.heap.objs.size ≠ q := fun e => Nat.ne_of_gt (Heap.lt_size e)
  have hS := Heap.get?_push_size (o := { cls := Value.type "list", data := Data.seq #[] }) s.heap rfl
  obtain ⟨o1, e1, r1⟩ := h1
  obtain ⟨o2, e2, r2⟩ := h2
  obtain ⟨o3, e3, r3⟩ := hl1
  obtain ⟨o4, e4, r4⟩ := hl2
  refine ⟨⟨_, hS, rfl⟩, F.args_list_init_2 _ _, zl_init hh D (ne hz) (ne hTI) (ne hTO) (ne e1) (ne e2) (ne e3) (ne e4) hn (up hz) (up hTO) (up hTI) ⟨o1, up e1, r1⟩ ⟨o2, up e2, r2⟩ ⟨o3, up e3, r3⟩ ⟨o4, up e4, r4⟩ hS fun h' tk acc c as hk hS' hl hP hacc hab => ⟨rfl, hQ h' tk acc c as (fun b o b2 b3 b4 b5 e => hk b o (Ne.symm (ne e)) b2 b3 b4 b5 (up e)) hS' hl hP hacc hab⟩⟩
end LK
set_option Elab.async false
set_option linter.all false
set_option maxRecDepth 100000
set_option maxHeartbeats 2000000
namespace LK
open PySem PySem.Spec PyProof.Rows L2
/-! ### list(zip(t, u)) of two tuples, told in H -/
def zipH (H : Hp) (p : Addr) (as : List Addr) (ps : List (V × V)) : Hp := fun b =>
  if b = p then some (.lst (as.map V.ref)) else match (as.zip ps).lookup b with
    | some q => some (.tup [q.1, q.2])
    | none => H b
theorem zlook_some : ∀ {as : List Addr} {ps : List (V × V)} {b : Addr} {q : V × V}, (as.zip ps).lookup b = some q → ∃ j : Nat, as[j]? = some b ∧ ps[j]? = some q
  | [], _, _, _, h => by cases h
  | _ :: _, [], _, _, h => by cases h
  | a :: as, p :: ps, b, q, h => by
    by_cases e : b = a
    · subst e
      have : ((b, p) :: as.zip ps).lookup b = some p := by simp [List.lookup]
      have h' : ((b, p) :: as.zip ps).lookup b = some q := h
      rw [this] at h'
      exact ⟨0, rfl, h'⟩
    · have e2 : (b == a) = false := beq_eq_false_iff_ne.mpr e
      have h' : ((a, p) :: as.zip ps).lookup b = some q := h
      have : ((a, p) :: as.zip ps).lookup b = (as.zip ps).lookup b := by simp [List.lookup, e2]
      rw [this] at h'
      obtain ⟨j, h1, h2⟩ := zlook_some h'
      exact ⟨j + 1, h1, h2⟩
theorem zlook_none : ∀ {as : List Addr} {ps : List (V × V)} {b : Addr}, as.length = ps.length → (as.zip ps).lookup b = none → b ∉ as
  | [], _, _, _, _ => fun h => nomatch h
  | _ :: _, [], _, hl, _ => by cases hl
  | a :: as, p :: ps, b, hl, h => by
    have h' : ((a, p) :: as.zip ps).lookup b = none := h
    by_cases e : b = a
    · subst e
      have : ((b, p) :: as.zip ps).lookup b = some p := by simp [List.lookup]
      rw [this] at h'; cases h'
    · have e2 : (b == a) = false := beq_eq_false_iff_ne.mpr e
      have : ((a, p) :: as.zip ps).lookup b = (as.zip ps).lookup b := by simp [List.lookup, e2]
      rw [this] at h'
      intro m
      rcases List.mem_cons.mp m with z | m
      · exact e z
      · exact zlook_none (Nat.succ.inj hl) h' m
theorem zlook_not {as : List Addr} {ps : List (V × V)} {b : Addr} (h : b ∉ as) : (as.zip ps).lookup b = none := by
  cases e : (as.zip ps).lookup b with
  | none => rfl
  | some q =>
    obtain ⟨j, h1, _⟩ := zlook_some e
    exact absurd (List.mem_of_getElem? h1) h
theorem paired_of {α β : Type} {R : α → β → Prop} : ∀ {xs : List α} {ys : List β}, xs.length = ys.length → (∀ (j : Nat) x y, xs[j]? = some x → ys[j]? = some y → R x y) → Paired R xs ys
  | [], [], _, _ => .nil
  | [], _ :: _, h, _ => by cases h
  | _ :: _, [], h, _ => by cases h
  | x :: xs, y :: ys, h, r => .cons (r 0 x y rfl rfl) (paired_of (Nat.succ.inj h) fun j a b h1 h2 => r (j + 1) a b h1 h2)
def rListZip (K : PySem.W.Frag) : List V → Hp → VK → Prop := fun vs H Q => ∃ (a b : Addr) (xs ys : List V), vs = [.ref a, .ref b] ∧ SqT K H a xs ∧ SqT K H b ys ∧
  ∀ (H' : Hp) (p : Addr) (ts : List Addr), (∀ b o, H b = some o → H' b = some o) → H p = none → H' p = some (.lst (ts.map V.ref)) → Paired (fun (t : Addr) (q : V × V) => H' t = some (.tup [q.1, q.2])) ts (xs.zip ys) → Q (.ref p) H'
def tListZip (K : PySem.W.Frag) (ta : TA) : TE := fun σ H Q => ta σ H fun vs H1 => rListZip K vs H1 Q
theorem vals_refs : ∀ as : List Addr, Vals (as.map V.ref) (as.map Value.ref)
  | [] => .nil
  | _ :: as => .cons rfl (vals_refs as)
section
variable {X : Cx} {e e2 : Expr} {ta : TA} {p p2 cpos pos : Pos}
theorem zip_laid {pins : List (Addr × Obj)} {σ : L2.St} {H : Hp} {s : Shared} {h' : Heap} {tk : Nat} {S : Addr} {xs ys : List V} {us ws acc : Array Value} {c : Nat} {as : List Addr} (I : Inv X pins σ H s) (rx : Vals xs us.toList) (ry : Vals ys ws.toList) (hz : us.size ≤ sizeLine) (hs : s.heap.objs.size ≤ S)
    (hk : ∀ b o, s.heap.get? b = some o → h'.get? b = some o) (hS : h'.get? S = some { cls := .type "list", data := .seq acc c }) (hl : as.length = min us.size ws.size) (hP : Prd us ws h' as) (hacc : acc.toList = as.map Value.ref) (hab : ∀ a ∈ as, S < a) :
    Inv X pins σ (zipH H S as (xs.zip ys)) { s with heap := h', toks := tk } ∧ (∀ b o, H b = some o → zipH H S as (xs.zip ys) b = some o) ∧ zipH H S as (xs.zip ys) S = some (.lst (as.map V.ref)) ∧ Paired (fun (t : Addr) (q : V × V) => zipH H S as (xs.zip ys) t = some (.tup [q.1, q.2])) as (xs.zip ys) := by
  have l1 := rx.length
  have l2 := ry.length
  have hl2 : as.length = (xs.zip ys).length := by
    rw [hl, List.length_zip, l1, l2]
    show _ = min us.toList.length ws.toList.length
    rw [Array.length_toList, Array.length_toList]
  have newS : H S = none := I.hok.fresh hs
  have new : ∀ t ∈ as, H t = none := fun t ht => I.hok.fresh (Nat.le_trans hs (Nat.le_of_lt (hab t ht)))
  have hSn : S ∉ as := fun z => Nat.lt_irrefl _ (hab _ z)
  have eS : zipH H S as (xs.zip ys) S = some (.lst (as.map V.ref)) := if_pos rfl
  have off : ∀ b, b ∉ as → b ≠ S → zipH H S as (xs.zip ys) b = H b := fun b h1 h2 => by
    unfold zipH
    rw [if_neg h2, zlook_not h1]
  have kp : ∀ b u, H b = some u → zipH H S as (xs.zip ys) b = some u := fun b u ev => by
    rw [off b (fun z => by rw [new b z] at ev; cases ev) (fun z => by rw [z, newS] at ev; cases ev)]
    exact ev
  have low : ∀ b o, s.heap.get? b = some o → b ∉ as ∧ b ≠ S := fun b o ev => ⟨fun z => absurd (Heap.lt_size ev) (Nat.not_lt.mpr (Nat.le_trans hs (Nat.le_of_lt (hab b z)))), fun z => by rw [z] at ev; exact absurd (Heap.lt_size ev) (Nat.not_lt.mpr hs)⟩
  -- what stands at an index
  have at_j : ∀ (j : Nat) (t : Addr) (q : V × V), as[j]? = some t → (xs.zip ys)[j]? = some q → ∃ u w, RelV q.1 u ∧ RelV q.2 w ∧ IsPair h' t u w := by
    intro j t q h1 h2
    obtain ⟨u, w, hu, hw, hp⟩ := hP j t h1
    have hq := List.getElem?_zip_eq_some.mp h2
    obtain ⟨u', e1, r1⟩ := rx.get hq.1
    obtain ⟨w', e2, r2⟩ := ry.get hq.2
    have e1' : us[j]? = some u' := by rw [← Array.getElem?_toList]; exact e1
    have e2' : ws[j]? = some w' := by rw [← Array.getElem?_toList]; exact e2
    rw [hu] at e1'
    rw [hw] at e2'
    cases e1'; cases e2'
    exact ⟨u, w, r1, r2, hp⟩
  have look : ∀ (t : Addr), t ∈ as → ∃ q, (as.zip (xs.zip ys)).lookup t = some q ∧ zipH H S as (xs.zip ys) t = some (.tup [q.1, q.2]) := by
    intro t ht
    cases ev : (as.zip (xs.zip ys)).lookup t with
    | none => exact absurd ht (zlook_none hl2 ev)
    | some q =>
      refine ⟨q, rfl, ?_⟩
      unfold zipH
      rw [if_neg (fun z => hSn (by rw [← z]; exact ht)), ev]
  have atP : Paired (fun (t : Addr) (q : V × V) => zipH H S as (xs.zip ys) t = some (.tup [q.1, q.2])) as (xs.zip ys) := by
    refine paired_of hl2 fun j t q h1 h2 => ?_
    obtain ⟨q', ev, ez⟩ := look t (List.mem_of_getElem? h1)
    rw [ez]
    obtain ⟨j', h1', h2'⟩ := zlook_some ev
    obtain ⟨u, w, r1, r2, p1⟩ := at_j j t q h1 h2
    obtain ⟨u', w', r1', r2', p1'⟩ := at_j j' t q' h1' h2'
    have ep : some (_ : Obj) = some _ := p1.symm.trans p1'
    have eL : [u, w] = [u', w'] := by injection ep with z; injection z with z1 z2 z3 z4; injection z3 with z5; exact congrArg Array.toList z5
    obtain ⟨eu, eM⟩ := List.cons.inj eL
    obtain ⟨ew, _⟩ := List.cons.inj eM
    subst eu ew
    rw [RelV.inj r1 r1', RelV.inj r2 r2']
  refine ⟨?_, kp, eS, atP⟩
  refine I.call' (ch := []) rfl ⟨fun b o q _ _ _ => hk b o q, fun b o q _ _ _ => ⟨o.slots, hk b o q⟩, fun b o q n _ => ?_, fun b o q _ => ⟨o, hk b o q⟩, fun b xs q => kp b _ q, fun b o u q => kp b _ q, fun b ps q => ⟨#[], by rw [kp b _ q]; simp⟩⟩ (fun b u q => ?_) I.bare fun b z => by simp at z
  · obtain ⟨z1, z2⟩ := low b o q
    rw [off b z1 z2]
    exact n
  · by_cases hb : b ∈ as
    · obtain ⟨qq, ev, ez⟩ := look b hb
      rw [ez] at q
      cases q
      obtain ⟨j', h1', h2'⟩ := zlook_some ev
      obtain ⟨u, w, r1, r2, p1⟩ := at_j j' b qq h1' h2'
      exact ⟨by show 2 ≤ sizeLine; decide, [u, w], .cons r1 (.cons r2 .nil), ⟨_, p1, rfl, _, rfl⟩⟩
    · by_cases hb2 : b = S
      · rw [hb2] at q ⊢
        rw [eS] at q
        cases q
        refine ⟨by rw [List.length_map, hl]; exact Nat.le_trans (Nat.min_le_left _ _) hz, acc.toList, c, by rw [hacc]; exact vals_refs as, ?_⟩
        rw [Array.toArray_toList]
        exact hS
      · rw [off b hb hb2] at q
        exact (I.hok b u q).stay (fun d v _ y => hk d v y) (fun d y => kp d _ y) fun d xs y => kp d _ y
/-- list(zip(t, u)) -/
theorem pe_listZip (ha : PA X [e, e2] ta) (hg : Gl X "list") (hm : X.mg "list" = none) (hgz : Gl X "zip") (hmz : X.mg "zip" = none) (hc : X.calm = true := by rfl)
    (hv : bootBuiltins "list" = some (.type "list") := by decide +kernel)
    (hs2 : starEach [e, e2] X.env = (false, eval e X.env) :: starEach [e2] X.env := by rfl) (hpl : (backTo cpos (starEach [e2] X.env)).any (·.1) = false := by rfl)
    (hs : starEach [.Call (.Name "zip" p2) [e, e2] [] cpos] X.env = (false, eval (.Call (.Name "zip" p2) [e, e2] [] cpos) X.env) :: starEach [] X.env := by rfl) :
    PE X (.Call (.Name "list" p) [.Call (.Name "zip" p2) [e, e2] [] cpos] [] pos) (tListZip X.K ta) := by
  refine ⟨fun pins s σ H Q I hq => ?_⟩
  refine wpAny_Call_Name_kw (ld_blt I hg hm hv ?_)
  refine PyProof.Rows.callWith_type1 ?_ hs rfl
  rw [hs]
  show wpAny _ _ (spliced ((false, eval (.Call (.Name "zip" p2) [e, e2] [] cpos) X.env) :: backTo pos (starEach [] X.env))) _ _ s
  refine Calls.spliced_cons ?_
  refine Call_ (ld_blt I hgz hmz PyProof.Rows.boot_zip (PyProof.Rows.callWith_type1 (thn (ha.run cpos pins s σ H _ I hq) fun us s1 ⟨vs, H1, I1, r1, q1⟩ => ?_) hs2 hpl))
  obtain ⟨a, b, xs, ys, ex, hqx, hqy, q⟩ := q1
  subst ex
  cases r1 with
  | cons r rr =>
    cases rr with
    | cons r' rr =>
      cases rr
      cases r
      cases r'
      obtain ⟨its, rv, p1, z1⟩ := I1.tuple hqx
      obtain ⟨its2, rv2, p2, _⟩ := I1.tuple hqy
      obtain ⟨o1, ho1, _⟩ := id p1
      obtain ⟨o2, ho2, _⟩ := id p2
      have D := PySem.W.ktu_apart s1.heap.objs.size a b (Heap.lt_size ho1) (Heap.lt_size ho2)
      refine RZ.call_zipT (show s1.heap.IsTuple a its.toArray from p1) (show s1.heap.IsTuple b its2.toArray from p2) fun h' hz hTI hTO h1 h2 hsz hk => ?_
      refine Calls.spliced_nil ?_
      have up : ∀ {q : Addr} {o : Obj}, s1.heap.get? q = some o → h'.get? q = some o := fun ev => hk _ _ ev
      obtain ⟨oa, ea, ra⟩ := p1
      obtain ⟨ob, eb, rb⟩ := p2
      refine zl_call (s := { s1 with heap := h' }) (xs := its.toArray) (ys := its2.toArray) (I1.ok.hd hc) D (by rw [List.size_toArray]; have := rv.length; omega) hz hTO hTI h1 h2 ⟨oa, up ea, ra⟩ ⟨ob, up eb, rb⟩ fun h2' tk acc c as hk2 hS hl hP hacc hab => ?_
      have hle : s1.heap.objs.size ≤ h'.objs.size := by rw [hsz]; exact Nat.le_add_right _ _
      have kk : ∀ b o, s1.heap.get? b = some o → h2'.get? b = some o := fun b o ev => by
        have lt := Heap.lt_size ev
        exact hk2 b o (Nat.ne_of_lt (Nat.lt_of_lt_of_le lt (Nat.le_add_right _ _))) (Nat.ne_of_lt (Nat.lt_of_lt_of_le lt (Nat.le_add_right _ _))) (Nat.ne_of_lt lt) (Nat.ne_of_lt (Nat.lt_of_lt_of_le lt (Nat.le_add_right _ _))) (hk b o ev)
      obtain ⟨J, k1, k2, k3⟩ := zip_laid (tk := tk) (xs := xs) (ys := ys) I1 (by simpa using rv) (by simpa using rv2) (by rw [List.size_toArray]; have := rv.length; omega) hle kk hS hl hP hacc hab
      exact ⟨.ref _, _, J, rfl, q _ _ as k1 (I1.hok.fresh hle) k2 k3⟩
end
end LK
set_option Elab.async false
set_option linter.all false
set_option maxRecDepth 100000
set_option maxHeartbeats 2000000
namespace LK
open PySem PySem.Spec PyProof.Rows L2 Evl
theorem dp_at {K : PySem.W.Frag} {H : Hp} : ∀ {vs : List V} {ds : List PyData} {i : Nat} {y : V}, DpAll K H vs ds → vs[i]? = some y → ∃ d, ds[i]? = some d ∧ Dp K H y d
  | [], _, i, y, _, h => by simp at h
  | v :: vs, _, 0, y, .cons h1 _, h => by
    have e : v = y := by simpa using h
    subst e
    exact ⟨_, rfl, h1⟩
  | v :: vs, _, i + 1, y, .cons _ h2, h => by
    rw [List.getElem?_cons_succ] at h
    obtain ⟨d, e, hd⟩ := dp_at h2 h
    exact ⟨d, by rw [List.getElem?_cons_succ]; exact e, hd⟩
section
variable {K : PySem.W.Frag} {H0 H H' : Hp}
theorem Prs.tk {vs : List V} {ws : List (Str × PyData)} (h : Prs K H0 H vs ws) (s : Tk H H') : Prs K H0 H' vs ws := by
  induction h with
  | nil => exact .nil
  | cons e dx _ ih => exact .cons (s.seqT e) dx ih
theorem Prs.snoc {t : Addr} {k : Str} {x : V} {d : PyData} (e : SqT K H t [.str k, x]) (dx : Dp K H0 x d) : ∀ {vs : List V} {ws : List (Str × PyData)}, Prs K H0 H vs ws → Prs K H0 H (vs ++ [.ref t]) (ws ++ [(k, d)])
  | _, _, .nil => .cons e dx .nil
  | _, _, .cons e2 dx2 r => .cons e2 dx2 (Prs.snoc e dx r)
theorem prs_zip : ∀ {ts : List Addr} {ks : List Str} {vs : List V} {ds : List PyData}, Paired (fun (t : Addr) (q : V × V) => H t = some (.tup [q.1, q.2])) ts ((ks.map V.str).zip vs) → DpAll K H0 vs ds → Prs K H0 H (ts.map V.ref) (ks.zip ds)
  | [], [], _, _, .nil, _ => .nil
  | [], _ :: _, [], _, .nil, h => by cases h; exact .nil
  | _ :: _, k :: ks, v :: vs, _, .cons e r, h => by
    cases h with
    | cons h1 h2 => exact .cons (.inl (.inl e)) h1 (prs_zip r h2)
theorem stm_tup {k : Str} {d : PyData} (h : isPartD k d = true) (hk : k = "statement" ∨ k = "expression") : ∃ d0 ds ks, d = .tuple (d0 :: ds) ∧ kindsD k d = some ks ∧ ds.length = ks.length := by
  unfold isPartD at h
  rw [if_pos hk] at h
  cases e : kindsD k d with
  | none => rw [e] at h; cases h
  | some ks =>
    rw [e] at h
    have h2 := of_decide_eq_true h
    unfold kindsD at e
    split at e
    · rename_i z r
      refine ⟨_, r, ks, rfl, rfl, ?_⟩
      have h3 : (PyData.str z :: r).length = ks.length + 1 := h2
      rw [List.length_cons] at h3
      omega
    · cases e
theorem bod_tup {k : Str} {d : PyData} (h : isPartD k d = true) (hk : k = "body" ∨ k = "things") : ∃ ds, d = .tuple ds := by
  unfold isPartD at h
  rw [if_neg (by rcases hk with rfl | rfl <;> decide +kernel), if_pos hk] at h
  cases d with
  | tuple l => exact ⟨l, rfl⟩
  | _ => cases h
theorem in_none {k : Str} {d : PyData} (h1 : ¬ k = "body") (h2 : ¬ k = "things") (h3 : ¬ (k = "statement" ∨ k = "expression")) : insideD k d = [] := by
  cases d with
  | tuple ds => rw [in_t, if_neg h1, if_neg h2, if_neg h3]
  | _ => rfl
theorem cutV_tail (v : V) (vs : List V) : cutV (v :: vs) (some 1) none = vs := by
  have e : HT.sIx (v :: vs).length 0 (some 1) = 1 := by
    show (if (1 : Int) < 0 then ((1 : Int) + ((v :: vs).length : Int)).toNat else min (1 : Int).toNat (v :: vs).length) = 1
    rw [if_neg (by decide), List.length_cons]
    show min 1 _ = 1
    omega
  show ((v :: vs).drop (HT.sIx (v :: vs).length 0 (some 1))).take ((v :: vs).length - HT.sIx (v :: vs).length 0 (some 1)) = vs
  rw [e, List.length_cons, Nat.add_sub_cancel]
  show vs.take vs.length = vs
  exact List.take_of_length_le (Nat.le_refl _)
theorem cut_not (v : V) (vs : List V) : ¬ (HT.sIx (v :: vs).length 0 (some 1) = 0 ∧ HT.sIx (v :: vs).length (v :: vs).length none = (v :: vs).length) := by
  rintro ⟨h, _⟩
  have e : HT.sIx (v :: vs).length 0 (some 1) = 1 := by
    show (if (1 : Int) < 0 then ((1 : Int) + ((v :: vs).length : Int)).toNat else min (1 : Int).toNat (v :: vs).length) = 1
    rw [if_neg (by decide), List.length_cons]
    show min 1 _ = 1
    omega
  rw [e] at h
  cases h
theorem len_sizeL : ∀ ds : List PyData, ds.length ≤ sizeL ds
  | [] => Nat.le_refl _
  | d :: r => by
    have h1 := len_sizeL r
    have h2 := size_pos d
    show r.length + 1 ≤ sizeD d + sizeL r
    omega
end
end LK
set_option Elab.async false
set_option linter.all false
set_option maxRecDepth 100000
set_option maxHeartbeats 3200000
namespace LK
open PySem PySem.Spec PyProof.Rows L2
/-! ### len(set(t)) of a tuple of texts -/
def Cnt (zs : List Str) (i c : Nat) : Prop := c ≤ i ∧ (c = i ↔ (zs.take i).Nodup)
theorem cnt_zero (zs : List Str) : Cnt zs 0 0 := ⟨Nat.le_refl 0, by simp⟩
theorem nodup_snoc {l : List Str} {z : Str} : (l ++ [z]).Nodup ↔ l.Nodup ∧ z ∉ l := by
  rw [List.nodup_append]
  constructor
  · rintro ⟨h1, _, h3⟩
    exact ⟨h1, fun m => h3 z m z List.mem_cons_self rfl⟩
  · rintro ⟨h1, h2⟩
    refine ⟨h1, List.nodup_cons.mpr ⟨List.not_mem_nil, List.nodup_nil⟩, fun a ha b hb e => ?_⟩
    rw [List.mem_singleton.mp hb] at e
    exact h2 (e ▸ ha)
theorem cnt_step {zs : List Str} {i c : Nat} {z : Str} (hz : zs[i]? = some z) (h : Cnt zs i c) : Cnt zs (i + 1) (if decide (z ∈ zs.take i) = true then c else c + 1) := by
  obtain ⟨h1, h2⟩ := h
  have et : zs.take (i + 1) = zs.take i ++ [z] := by rw [List.take_add_one, hz]; rfl
  unfold Cnt
  rw [et, nodup_snoc]
  by_cases m : z ∈ zs.take i
  · rw [if_pos (decide_eq_true m)]
    exact ⟨by omega, ⟨fun e => by omega, fun q => absurd m q.2⟩⟩
  · rw [if_neg (by rw [decide_eq_false m]; exact Bool.false_ne_true)]
    exact ⟨by omega, ⟨fun e => ⟨h2.mp (by omega), m⟩, fun q => by rw [h2.mpr q.1]⟩⟩
section
variable {P : Program} {w : World} {A : Around} {E : Value → Shared → Prop} {s : Shared}
abbrev StS (P : Program) (w : World) (h : Heap) (a : Addr) (zs : List Str) (i c : Nat) : Prop := h.SetOf (PySem.strKind P w) a (fun y => decide (y ∈ zs.take i)) c
theorem sets_at {h h2 : Heap} {a : Addr} {zs : List Str} {i c : Nat} (x : StS P w h a zs i c) (k : ∀ o, h.get? a = some o → h2.get? a = some o) : StS P w h2 a zs i c := by
  obtain ⟨o, es, ep, t, e, r⟩ := x
  exact ⟨o, es, ep, t, k _ e, r⟩
theorem sets_loop {R : Result → Shared → Prop} {it T : Addr} {fp wr : List Addr} {G : Array GenState → Array GenState → Prop} {n : Nat} {Pv : Nat → Value → Prop} {St : Nat → Shared → Prop} (W : WalksS P w A.in1 it fp wr G n Pv St) (hT : T ∉ fp) (zs : List Str) (hn : n = zs.length) (hb : zs.length + 1 < scanBound)
    (item : ∀ i v, Pv i v → ∃ z t, zs[i]? = some z ∧ v = .str z t) : ∀ (m i : Nat) (s : Shared), n - i = m → i ≤ n → St i s → (∃ c, Cnt zs i c ∧ StS P w s.heap T zs i c) →
      (∀ s2 c, Moved (T :: wr) G s s2 → Cnt zs n c → StS P w s2.heap T zs n c → R (.ok (.ret .none)) s2) → codeAny (model P w) A (.builtin "set.update.loop" ⟨[.ref T, .ref it], []⟩) R s := by
  have nT : T ∉ wr := fun m => hT (W.sub _ m)
  have cons : ∀ a ∈ wr, a ∈ T :: wr := fun a ha => List.mem_cons_of_mem _ ha
  intro m
  induction m with
  | zero =>
    intro i s em le st ⟨c, hc, hs⟩ fin
    obtain rfl : i = n := by omega
    refine codeAny_builtin PyProof.Rows.F.entry_set_update_loop ?_
    rw [Around.under_plainId PyProof.Rows.F.plain_set_update_loop _]
    refine wpAny_bind (W.done s _ _ st fun s2 mv => ?_)
    exact wpAny_pure (fin s2 c (mv.mono cons) hc (sets_at hs fun o e => mv.heap T o nT e))
  | succ m ih =>
    intro i s em le st ⟨c, hc, hs⟩ fin
    have lt : i < n := by omega
    refine codeAny_builtin PyProof.Rows.F.entry_set_update_loop ?_
    rw [Around.under_plainId PyProof.Rows.F.plain_set_update_loop _]
    refine wpAny_bind (W.item i s _ _ lt st fun v s2 pv st2 mv => ?_)
    obtain ⟨z, t, hz, rfl⟩ := item i v pv
    have hs2 : StS P w s2.heap T zs i c := sets_at hs fun o e => mv.heap T o nT e
    show wpAny _ A.in1 (holding [Value.str z t] (setAdd T (.str z t)) >>= _) _ _ s2
    refine wpAny_bind (wpAny_holding ?_)
    unfold setAdd
    refine wpAny_holding (wpAny_bind ((PySem.strKind P w).pyHash (k := z) (strKind_is _ _ _ _) ?_))
    have hcl : c ≤ i := hc.1
    refine wpAny_setAddHashed_of (knd := PySem.strKind P w) (s := { s2 with toks := s2.toks + 1 }) (strKind_is _ _ _ _) rfl hs2 (by omega) fun h3 sb hs3 => ?_
    have hs4 : StS P w h3 T zs (i + 1) (if decide (z ∈ zs.take i) = true then c else c + 1) := SetOf_congr hs3 (fun y => by rw [List.take_add_one, hz]; simp [List.mem_append]) rfl
    refine wpAny_pure ⟨plainId_quiet PyProof.Rows.F.plain_set_update_loop _, ih (i + 1) _ (by omega) lt (W.frame _ s2 _ _ st2 (Nat.le_succ _) fun a ha o e => ?_) ⟨_, cnt_step hz hc, hs4⟩ fun s5 c5 mv5 hc5 hs5 => ?_⟩
    · exact (sb.2 a (fun e2 => hT (by rw [← e2]; exact ha))).trans e
    · exact fin s5 c5 (Moved.trans W.gtrans ((mv.mono cons).then_heap (Nat.le_succ _) fun a o ha e => (sb.2 a (fun e2 => ha (by rw [e2]; exact List.mem_cons_self))).trans e) mv5) hc5 hs5
abbrev newSet (l : Bool) : Obj := { cls := .type "set", dict := none, data := .set #[] 0 (.fresh 0 0 l) }
theorem sets_call {t : Addr} {its : Array Value} {zs : List Str} {Q : Value → Shared → Prop} (hh : A.handled = none) (ht : s.heap.IsTuple t its) (hz : StrsAre its.toList zs) (hb : zs.length + 1 < scanBound)
    (h : ∀ (h2 : Heap) (tk c : Nat), Cnt zs zs.length c → StS P w h2 s.heap.objs.size zs zs.length c → (∀ a o, s.heap.get? a = some o → h2.get? a = some o) → Q (.ref s.heap.objs.size) { s with heap := h2, toks := tk }) :
    wpAny (model P w) A (call (.type "set") [.ref t]) Q E s := by
  have lz : its.size = zs.length := by
    rw [← Array.length_toList]
    exact StrsAre.len_eq hz
  obtain ⟨cc, tl, hmro⟩ := PySem.F.called_set.mro
  have f1 := PySem.F.called_set.made
  have f2 := PySem.F.called_set.sub
  refine wpAny_call (codeAny_of_tree ?_)
  show wpAny _ _ (callAny (.type "set") _) _ _ _
  refine wpAny_pure ⟨Code.quiet_builtin _ (by decide +kernel), codeAny_builtin PySem.F.entry_type_call ?_⟩
  rw [Around.under_plain (weight_type_call_type "set" [.ref t] []) rfl]
  have f3 := PySem.F.called_set.notType
  have f4 := PySem.F.called_set.canCreate
  have f5 := PySem.F.typeCall_set_1 (.ref t)
  repeat (any_goals (first | assumption | wp_step))
  refine codeAny_mono (code_set_new_1 (.ref t) (E := E) (Q₁ := fun u s1 => ∃ l : Bool, u = .ref s.heap.objs.size ∧ s1 = { s with heap := s.heap.push (newSet l) }) fun l => ⟨l, rfl, rfl⟩) fun r s1 hr => ?_
  cases r with
  | error e => exact hr
  | ok fl =>
    cases fl with
    | ret u =>
      obtain ⟨l, rfl, rfl⟩ := hr
      have atS : (s.heap.push (newSet l)).get? s.heap.objs.size = some (newSet l) := Heap.get?_push_size _ rfl
      have isS : Shared.TypeIs { s with heap := s.heap.push (newSet l) } (.ref s.heap.objs.size) "set" := ⟨_, atS, rfl⟩
      have f6 := PySem.F.called_set.init.lookup
      have f7 := PySem.F.called_set.init.bind (.ref s.heap.objs.size)
      repeat (any_goals (first | assumption | wp_step))
      refine codeAny_mono (codeAny_call_builtin (R := wants (fun r s2 => r = .none ∧ ∃ h2 tk c, s2 = { s with heap := h2, toks := tk } ∧ Cnt zs zs.length c ∧ StS P w h2 s.heap.objs.size zs zs.length c ∧ ∀ a o, s.heap.get? a = some o → h2.get? a = some o) E)
        PySem.F.called_set.init.plain PySem.F.entry_set_init (check_set_init_1 isS ?_)) fun r2 s2 hr2 => ?_
      · obtain ⟨ot, et, ec, nt, ed⟩ := ht
        obtain ⟨c0, d0, x0, l0⟩ := ot
        dsimp only at ec ed
        subst ec ed
        have et2 := Heap.get?_push_of_some (newSet l) et
        have g1 := PySem.F.sub_tuple_set
        have g2 := PySem.F.sub_tuple_frozenset
        have g3 : (Value.type "tuple" == Value.type "dict") = false := by decide
        have isT : (s.heap.push (newSet l)).IsTuple t its := ⟨_, et2, rfl, nt, rfl⟩
        unfold Builtin.«set.__init__» noKeywords Builtin.Frozenset.updateFrom
        generalize hPI : pyIter = PI
        wp_walk
        subst hPI
        refine wpAny_pyIter_tuple isT (wpAny_bind (wpAny_runValue ?_))
        have ltS : t < s.heap.objs.size := Heap.lt_size et
        have sz1 : (s.heap.push (newSet l)).objs.size = s.heap.objs.size + 1 := Heap.size_push ..
        have neT : t ≠ (s.heap.push (newSet l)).objs.size := by rw [sz1]; exact Nat.ne_of_lt (Nat.lt_succ_of_lt ltS)
        have nin : s.heap.objs.size ∉ [(s.heap.push (newSet l)).objs.size, t] := by
          rw [sz1]
          intro m
          rcases List.mem_cons.mp m with e | m
          · exact Nat.ne_of_lt (Nat.lt_succ_self _) e
          · exact Nat.ne_of_gt ltS (List.mem_singleton.mp m)
        have nh : A.in1.in1.in1.handled = none := by simp [hh]
        refine sets_loop ((Walks.tuple nh _ t neT its).toS) nin zs lz hb (fun i v e => ?_) (its.size - 0) 0 _ (by omega) (Nat.zero_le _) ⟨⟨_, Heap.get?_push_size _ rfl, rfl, rfl⟩, isT.push _⟩ ⟨0, cnt_zero zs, ?hS0⟩ ?hR
        · have hi : i < zs.length := by rw [← lz]; exact (Array.getElem?_eq_some_iff.mp e).1
          obtain ⟨tk, ev⟩ := SS.strs_at hz i v (by rw [Array.getElem?_toList]; exact e)
          refine ⟨zs[i], tk, List.getElem?_eq_getElem hi, ?_⟩
          rw [ev, List.getD_eq_getElem?_getD, List.getElem?_eq_getElem hi]; rfl
        case hS0 => exact SetOf_congr ((setObjOf_fresh (knd := PySem.strKind P w) l).setOf (Heap.get?_push_of_some _ atS) (by unfold scanBound; omega)) (fun y => by simp) rfl
        case hR =>
          intro s3 c3 mv hc3 hs3
          obtain ⟨h3, gg3, d3, tk3, os3⟩ := s3
          obtain rfl : gg3 = s.gens := mv.gens
          obtain rfl : d3 = s.drawn := mv.drawn
          obtain rfl : os3 = s.os := mv.os
          show wpAny _ _ _ _ _ _
          refine wpAny_pure ?_
          show wpAny _ _ (ret Value.none) _ _ _
          rw [lz] at hc3 hs3
          refine wpAny_pure ⟨rfl, h3, tk3, c3, rfl, hc3, hs3, fun a o e => ?_⟩
          have la : a < s.heap.objs.size := Heap.lt_size e
          refine mv.heap a o (fun m => ?_) (Heap.get?_push_of_some _ (Heap.get?_push_of_some _ e))
          rcases List.mem_cons.mp m with z | m
          · exact Nat.ne_of_lt la z
          · have z := List.mem_singleton.mp m
            rw [sz1] at z
            exact Nat.ne_of_lt (Nat.lt_succ_of_lt la) z
      · cases r2 with
        | error e => exact hr2
        | ok fl2 =>
          cases fl2 with
          | ret r =>
            obtain ⟨rfl, h2, tk, c2, rfl, hc2, hs2, hk2⟩ := hr2
            repeat (any_goals (first | assumption | wp_step))
            exact h _ _ _ hc2 hs2 hk2
          | _ => exact hr2.elim
    | _ => exact hr.elim
end
/-- len(set(e)) -/
def tLenSetN (K : PySem.W.Frag) (ta : TE) : TE := fun σ H Q => ta σ H fun x H1 => ∃ (t : Addr) (zs : List Str), x = .ref t ∧ SqT K H1 t (zs.map V.str) ∧ zs.length ≤ 1000 ∧ ∀ c : Nat, (c = zs.length ↔ zs.Nodup) → Q (.int (c : Int)) H1
theorem pe_lenSetN {X : Cx} {a : Expr} {ta : TE} {p p2 q pos : Pos} (hg : Gl X "len") (hm : X.mg "len" = none) (hg2 : Gl X "set") (hm2 : X.mg "set" = none) (ha : PE X a ta) (hc : X.calm = true := by rfl)
    (na : starEach [a] X.env = (false, eval a X.env) :: starEach [] X.env := by rfl) : PE X (.Call (.Name "len" p) [.Call (.Name "set" p2) [a] [] q] [] pos) (tLenSetN X.K ta) := by
  refine ⟨fun pins s σ H Q I h => ?_⟩
  refine Call_ (ld_blt I hg hm boot_len (PyProof.Rows.callWith_builtin1 (PyProof.Rows.args_cons ?_ rfl) rfl rfl))
  refine Call_ (ld_blt I hg2 hm2 boot_set (PyProof.Rows.callWith_type1 (PyProof.Rows.args_cons (thn (ha.run pins s σ H _ I h) fun v s1 ⟨x, H1, I1, rx, hx⟩ => PyProof.Rows.args_nil ?_) na) na rfl))
  obtain ⟨t, zs, rfl, ht, hl, hx⟩ := hx
  cases rx
  obtain ⟨its, r, it, hz⟩ := I1.tuple ht
  refine sets_call (I1.ok.hd hc) it (by simpa using strsAre_of r) (by unfold scanBound; omega) fun h2 tk c hcn hst hk => ?_
  refine PyProof.Rows.args_nil ?_
  obtain ⟨o, es, ep, tb, e1, e2, e3, _, _, _, e4, e5⟩ := hst
  have I2 : Inv X pins σ H1 { s1 with heap := h2, toks := tk } := I1.kept fun b ob e => hk b ob e
  have lc : c ≤ zs.length := hcn.1
  refine call_len_set e1 e2 e3 e4 (by rw [e5]; omega) ⟨.int c, H1, I2.tok _, ⟨_, by rw [e5]⟩, hx c ?_⟩
  have := hcn.2
  rw [List.take_of_length_le (Nat.le_refl _)] at this
  exact this
end LK
set_option Elab.async false
set_option linter.all false
set_option maxRecDepth 100000
set_option maxHeartbeats 2000000
namespace LK
open PySem PySem.Spec PyProof.Rows L2 Evl
/-! ### type(x) not in (list, tuple) -/
def metaT : List String := ["NoneType", "bool", "int", "str", "list", "tuple", "dict"]
theorem meta_of {T : String} (h : T ∈ metaT) : ∀ s' : Shared, s'.TypeIs (.type T) "type" := by
  simp only [metaT, List.mem_cons, List.not_mem_nil, or_false] at h
  rcases h with rfl | rfl | rfl | rfl | rfl | rfl | rfl
  · exact TypeEq.meta_NoneType
  · exact TypeEq.meta_bool
  · exact TypeEq.meta_int
  · exact TypeEq.meta_str
  · exact TypeEq.meta_list
  · exact TypeEq.meta_tuple
  · exact TypeEq.meta_dict
theorem eqAt_ty {A : Around} {s : Shared} {U T : String} (hU : U ∈ metaT) (hT : T ∈ metaT) : SeqAt.EqAt A s (.type U) (.type T) (decide (U = T)) := by
  by_cases e : U = T
  · subst e
    rw [decide_eq_true rfl]
    exact SeqAt.EqAt.same _
  · rw [decide_eq_false e]
    intro prog w E Q h
    unfold eqBool
    have hne : (Value.type U == Value.type T) = false := beq_eq_false_iff_ne.mpr fun z => e (by injection z)
    refine wpAny_holding (wpAny_ite_split (fun hab => absurd hab (by rw [hne]; exact Bool.false_ne_true)) fun _ => ?_)
    exact wpAny_bind (TypeEq.eq_type_other (meta_of hU) (meta_of hT) hne (wpAny_truthy_bool h))
def tyEq (T : String) : Value → Bool
  | .type z => decide (z = T)
  | _ => false
def rNotTy (K : PySem.W.Frag) : R2 := fun x y H Q => ∃ (T U W : String) (p : Addr), x = .ty T ∧ y = .ref p ∧ SqT K H p [.ty U, .ty W] ∧ (T ∈ metaT ∧ U ∈ metaT ∧ W ∈ metaT) ∧ Q (.bl (!(decide (U = T) || decide (W = T)))) H
theorem op_notIn_ty {X : Cx} : OpR X (compareOp .NotIn) (rNotTy X.K) := by
  intro pins s σ H x y v u Q I rx ry h
  obtain ⟨T, U, W, p, rfl, rfl, hq, ⟨h1, h2, h3⟩, q⟩ := h
  obtain rfl : v = .type T := rx
  obtain rfl : u = .ref p := ry
  obtain ⟨its, r, pl, hz⟩ := I.tuple hq
  cases r with
  | @cons _ u1 _ _ r1 r =>
    cases r with
    | @cons _ u2 _ _ r2 r =>
      cases r
      obtain rfl : u1 = .type U := r1
      obtain rfl : u2 = .type W := r2
      refine SeqAt.notIn_tupleAt (tyEq T) pl (fun w hw => ?_) ⟨.bl _, H, I, rfl, ?_⟩
      · have hw' : w = .type U ∨ w = .type W := by simpa using hw
        rcases hw' with rfl | rfl
        · exact eqAt_ty h2 h1
        · exact eqAt_ty h3 h1
      · have e : (!([Value.type U, Value.type W].toArray.any (tyEq T))) = !(decide (U = T) || decide (W = T)) := by
          simp [tyEq]
        rw [e]
        exact q
theorem pe_fldA {X : Cx} {e : Expr} {ta : TE} {f : Str} {pos : Pos} (he : PE X e ta) (hb : attributeBase e f X.env (eval e X.env) = eval e X.env := by rfl) : PE X (.Attribute e f pos) (tFld X.K ta f) := pe_fld he hb
theorem ps_fldA {X : Cx} {o value : Expr} {ta tv : TE} {f : Str} {pos pos' : Pos} (ha : PE X o ta) (hv : PE X value tv) (hs : swapsWith value (some (.Attribute o f pos')) pos.line X.env = pure false := by rfl) : PS X (.Assign [.Attribute o f pos'] value pos) (sFld X.K ta tv f) := ps_fld ha hv hs
/-- e.f within a comprehension -/
theorem pe_fldK (K : PySem.W.Frag) {X : Cx} {e : Expr} {ta : TE} {f : Str} {pos : Pos} (he : PE X e ta) (hb : attributeBase e f X.env (eval e X.env) = eval e X.env := by rfl) (hK : X.K = K := by rfl) : PE X (.Attribute e f pos) (tFld K ta f) := by
  subst hK
  exact pe_fld he hb
theorem tk_dK {H : Hp} {D : Addr} {kvs : List (Key × V)} {o : HO} (h : H D = some (.dK kvs)) : Tk H (upd H D o) := by
  intro a u hu e
  rw [upd_ne]
  · exact e
  · rintro rfl
    rw [h] at e
    cases e
    rcases hu with ⟨_, z⟩ | ⟨_, _, z⟩ <;> cases z
/-! ### functions, as data -/
structure FnD where
  n : PyData
  p : PyData
  b : PyData
def parD : PyData → Bool
  | .tuple l => l.all nameD && decide ((l.map strD).Nodup)
  | _ => false
def headD (f : FnD) : Bool := nameD f.n && parD f.p
def headT : Option FnD → Bool
  | some f => headD f
  | none => false
def cntStep (cs : List (Str × Int)) : Option FnD → List (Str × Int)
  | some f => if headD f && !(cs.lookup (strD f.n)).isSome then cs ++ [(strD f.n, (lenT f.p : Int))] else cs
  | none => cs
def countsD (ts : List (Option FnD)) : List (Str × Int) := ts.foldl cntStep []
def badAt (cs : List (Str × Int)) (i : Nat) (ah : List Str) : Option FnD → Bool
  | some f => (decide (i = 6) || !headD f || decide (strD f.n ∈ ah)) || !okD cs "body" false f.b
  | none => true
def nameT : Option FnD → Str
  | some f => strD f.n
  | none => ""
def wrongAt (cs : List (Str × Int)) : Nat → List Str → List (Option FnD) → Option Nat
  | _, _, [] => none
  | i, ah, t :: ts => if badAt cs i ah t then some i else wrongAt cs (i + 1) (ah ++ [nameT t]) ts
def wrongD (ts : List (Option FnD)) : Option Nat := if ts = [] then some 0 else wrongAt (countsD ts) 0 [] ts
/-- a Function's fields -/
def fld (n p b : V) : List (Str × V) := [("name", n), ("params", p), ("body", b)]
theorem kf_np : ¬ (("name" : Str) = "params") := by decide +kernel
theorem kf_nb : ¬ (("name" : Str) = "body") := by decide +kernel
theorem kf_pb : ¬ (("params" : Str) = "body") := by decide +kernel
theorem fld_eq (n p b : V) : putF "body" b (putF "params" p (putF "name" n [])) = fld n p b := by
  simp [putF, fld, kf_np, kf_nb, kf_pb]
theorem fld_name (n p b : V) : (fld n p b).lookup ("name" : Str) = some n := by simp [fld, List.lookup]
theorem fld_params (n p b : V) : (fld n p b).lookup ("params" : Str) = some p := by
  have : (("params" : Str) == ("name" : Str)) = false := by decide +kernel
  simp [fld, List.lookup, this]
theorem fld_body (n p b : V) : (fld n p b).lookup ("body" : Str) = some b := by
  have h1 : (("body" : Str) == ("name" : Str)) = false := by decide +kernel
  have h2 : (("body" : Str) == ("params" : Str)) = false := by decide +kernel
  simp [fld, List.lookup, h1, h2]
/-- what is small enough to be looked at -/
structure FnS (f : FnD) : Prop where
  n : smallD f.n = true
  p : smallD f.p = true
  b : smallD f.b = true
  bz : sizeD f.b ≤ 20000
  pl : lenT f.p ≤ 1000
/-- a thing in a list of functions: a Function of the class at C, or another thing -/
inductive Th (K : PySem.W.Frag) (C : Addr) (H : Hp) : V → Option FnD → Prop
  | fn {a dx : Addr} {n p b : V} {f : FnD} (e : H a = some (.ins C dx (fld n p b))) (hn : Dp K H n f.n) (hp : Dp K H p f.p) (hb : Dp K H b f.b) (s : FnS f) : Th K C H (.ref a) (some f)
  | other {x : V} (h : ∀ H', Same H H' → ∃ t, TyX K H' x t ∧ PySem.W.kitOne K t (.ref C) = some false) : Th K C H x none
theorem Th.same {K : PySem.W.Frag} {C : Addr} {H H' : Hp} {x : V} {t : Option FnD} (h : Th K C H x t) (s : Same H H') : Th K C H' x t := by
  cases h with
  | fn e hn hp hb z => exact .fn (s _ _ e) (Dp.small s _ hn z.n) (Dp.small s _ hp z.p) (Dp.small s _ hb z.b) z
  | other h => exact .other fun H2 s2 => h H2 (s.trans s2)
/-- the things of a list -/
def Ths (K : PySem.W.Frag) (C : Addr) (H : Hp) (vs : List V) (ts : List (Option FnD)) : Prop := Paired (Th K C H) vs ts
theorem Ths.same {K : PySem.W.Frag} {C : Addr} {H H' : Hp} (s : Same H H') : ∀ {vs : List V} {ts : List (Option FnD)}, Ths K C H vs ts → Ths K C H' vs ts
  | _, _, .nil => .nil
  | _, _, .cons h r => .cons (h.same s) (Ths.same s r)
theorem Ths.at {K : PySem.W.Frag} {C : Addr} {H : Hp} : ∀ {vs : List V} {ts : List (Option FnD)} {i : Nat} {x : V}, Ths K C H vs ts → vs[i]? = some x → ∃ t, ts[i]? = some t ∧ Th K C H x t
  | _, _, i, x, .nil, h => by simp at h
  | _, _, 0, x, .cons r _, h => by
    have e := Option.some.inj h
    subst e
    exact ⟨_, rfl, r⟩
  | _, _, i + 1, x, .cons _ r, h => by
    rw [List.getElem?_cons_succ] at h
    obtain ⟨t, e, r2⟩ := Ths.at r h
    exact ⟨t, by rw [List.getElem?_cons_succ]; exact e, r2⟩
theorem ths_len {K : PySem.W.Frag} {C : Addr} {H : Hp} {vs : List V} {ts : List (Option FnD)} (h : Ths K C H vs ts) : vs.length = ts.length := Paired.length h
theorem name_str {d : PyData} (h : nameD d = true) : ∃ z, d = .str z := by
  cases d with
  | str z => exact ⟨z, rfl⟩
  | _ => cases h
theorem names_strs : ∀ {l : List PyData}, l.all nameD = true → l = (l.map strD).map PyData.str
  | [], _ => rfl
  | d :: l, h => by
    rw [List.all_cons, Bool.and_eq_true] at h
    obtain ⟨z, rfl⟩ := name_str h.1
    show PyData.str z :: l = PyData.str z :: (l.map strD).map PyData.str
    rw [← names_strs h.2]
theorem dps_strs {K : PySem.W.Frag} {H : Hp} : ∀ {l : List Str} {vs : List V}, DpAll K H vs (l.map PyData.str) → vs = l.map V.str
  | [], _, h => by cases h; rfl
  | z :: l, _, h => by
    cases h with
    | cons h1 h2 =>
      cases h1
      rw [dps_strs h2]; rfl
/-! the dict of counts -/
theorem lookup_kvC (cs : List (Str × Int)) (n : Str) : (valV (kvC cs) (.inr n : Key)).isSome = (cs.lookup n).isSome := by
  rw [val_kvC]
  cases cs.lookup n <;> rfl
theorem any_key {k : Key} : ∀ {kvs : List (Key × V)}, valV kvs k = none → (kvs.any fun kv => decide (kv.fst = k)) = false
  | [], _ => rfl
  | (k', v') :: kvs, h => by
    by_cases e : k' = k
    · subst e
      rw [valV_pos rfl] at h
      cases h
    · rw [valV_neg e] at h
      rw [List.any_cons, any_key h, Bool.or_false]
      exact decide_eq_false e
theorem putK_new {kvs : List (Key × V)} {k : Key} {v : V} (h : valV kvs k = none) : putK kvs k v = kvs ++ [(k, v)] := by
  unfold putK
  rw [any_key h]; rfl
theorem kvC_snoc (cs : List (Str × Int)) (n : Str) (i : Int) : kvC (cs ++ [(n, i)]) = kvC cs ++ [((.inr n : Key), .int i)] := by
  unfold kvC
  rw [List.map_append]; rfl
def kvN (ah : List Str) : List (Key × V) := ah.map fun n => ((.inr n : Key), .bl true)
theorem val_kvN (n : Str) : ∀ ah : List Str, (valV (kvN ah) (.inr n : Key)).isSome = decide (n ∈ ah)
  | [] => rfl
  | m :: ah => by
    by_cases h : m = n
    · subst h
      rw [show kvN (m :: ah) = ((.inr m : Key), .bl true) :: kvN ah from rfl, valV_pos rfl, decide_eq_true List.mem_cons_self]; rfl
    · rw [show kvN (m :: ah) = ((.inr m : Key), .bl true) :: kvN ah from rfl, valV_neg (kne h), val_kvN n ah]
      by_cases q : n ∈ ah
      · rw [decide_eq_true q, decide_eq_true (List.mem_cons_of_mem _ q)]
      · rw [decide_eq_false q, decide_eq_false fun z => (List.mem_cons.mp z).elim (fun e => h e.symm) q]
theorem kvN_snoc (ah : List Str) (n : Str) : kvN (ah ++ [n]) = kvN ah ++ [((.inr n : Key), .bl true)] := by
  unfold kvN
  rw [List.map_append]; rfl
theorem cnt_len : ∀ (ts : List (Option FnD)) (cs : List (Str × Int)), (ts.foldl cntStep cs).length ≤ cs.length + ts.length
  | [], cs => Nat.le_refl _
  | t :: ts, cs => by
    show (ts.foldl cntStep (cntStep cs t)).length ≤ _
    have h1 := cnt_len ts (cntStep cs t)
    have h2 : (cntStep cs t).length ≤ cs.length + 1 := by
      cases t with
      | none => exact Nat.le_succ _
      | some f =>
        show (if _ then _ else _ : List (Str × Int)).length ≤ _
        split
        · rw [List.length_append]; exact Nat.le_refl _
        · exact Nat.le_succ _
    rw [List.length_cons]
    omega
theorem seqL_put {K : PySem.W.Frag} {H : Hp} {a C dx : Addr} {fs gs : List (Str × V)} (ha : H a = some (.ins C dx fs)) {b : Addr} {xs : List V} (h : SqL K H b xs) : SqL K (upd H a (.ins C dx gs)) b xs := by
  rcases h with (h | ⟨o, h⟩) | h
  · exact .inl (.inl (by rw [upd_ne (ne_of h ha (by intro z; cases z))]; exact h))
  · exact .inl (.inr ⟨o, by rw [upd_ne (ne_of h ha (by intro z; cases z))]; exact h⟩)
  · exact .inr h
theorem seqT_put {K : PySem.W.Frag} {H : Hp} {a C dx : Addr} {fs gs : List (Str × V)} (ha : H a = some (.ins C dx fs)) {b : Addr} {xs : List V} (h : SqT K H b xs) : SqT K (upd H a (.ins C dx gs)) b xs := by
  rcases h with (h | ⟨o, h⟩) | h
  · exact .inl (.inl (by rw [upd_ne (ne_of h ha (by intro z; cases z))]; exact h))
  · exact .inl (.inr ⟨o, by rw [upd_ne (ne_of h ha (by intro z; cases z))]; exact h⟩)
  · exact .inr h
mutual
/-- an instance's fields are put: data stays -/
theorem Dp.put {K : PySem.W.Frag} {H : Hp} {a C dx : Addr} {fs gs : List (Str × V)} (ha : H a = some (.ins C dx fs)) : ∀ (d : PyData) {v : V}, Dp K H v d → smallD d = true → Dp K (upd H a (.ins C dx gs)) v d
  | .none, _, h, _ => by cases h; exact .non
  | .bool b, _, h, _ => by cases h; exact .bl b
  | .int i, _, h, _ => by cases h; exact .int i
  | .str x, _, h, _ => by cases h; exact .str x
  | .list l, _, h, o => by
    cases h with
    | lst hs hd => exact .lst (seqL_put ha hs) (DpAll.put ha l hd o)
  | .tuple l, _, h, o => by
    cases h with
    | tup hs hd => exact .tup (seqT_put ha hs) (DpAll.put ha l hd o)
  | .dict l, _, h, _ => by cases h
theorem DpAll.put {K : PySem.W.Frag} {H : Hp} {a C dx : Addr} {fs gs : List (Str × V)} (ha : H a = some (.ins C dx fs)) : ∀ (ds : List PyData) {vs : List V}, DpAll K H vs ds → smallL ds = true → DpAll K (upd H a (.ins C dx gs)) vs ds
  | [], _, h, _ => by cases h; exact .nil
  | d :: ds, _, h, o => by
    cases h with
    | cons h1 h2 =>
      have o' : (smallD d && smallL ds) = true := o
      obtain ⟨o1, o2⟩ := Bool.and_eq_true_iff.mp o'
      exact .cons (Dp.put ha d h1 o1) (DpAll.put ha ds h2 o2)
end
theorem th_put {K : PySem.W.Frag} {C : Addr} {H : Hp} {a B dx : Addr} {fs gs : List (Str × V)} (ha : H a = some (.ins B dx fs)) (ne : B ≠ C) {x : V} {f : FnD} (h : Th K C H x (some f)) : Th K C (upd H a (.ins B dx gs)) x (some f) := by
  cases h with
  | @fn c dc n p b _ e hn hp hb z =>
    have e2 : upd H a (.ins B dx gs) c = some (.ins C dc (fld n p b)) := by
      rw [upd_ne (ne_of e ha (by intro z; injection z with z1; exact ne z1.symm))]
      exact e
    exact .fn e2 (Dp.put ha _ hn z.n) (Dp.put ha _ hp z.p) (Dp.put ha _ hb z.b) z
theorem ths_put {K : PySem.W.Frag} {C : Addr} {H : Hp} {a B dx : Addr} {gs hs : List (Str × V)} (ha : H a = some (.ins B dx gs)) (ne : B ≠ C) : ∀ {vs : List V} {fs : List FnD}, Ths K C H vs (fs.map some) → Ths K C (upd H a (.ins B dx hs)) vs (fs.map some)
  | _, [], .nil => .nil
  | _, _ :: _, .cons h r => .cons (th_put ha ne h) (ths_put ha ne r)
end LK
set_option Elab.async false
set_option linter.all false
set_option maxRecDepth 100000
set_option maxHeartbeats 2000000
namespace GQB
open PySem PySem.SeqAt
open AutoSeq1 (wpAny_loadPart')
open MeetsSeq MeetsSeq2 MeetsSeq3 SeqRoads2
section
variable {prog : Program} {w : World} {A : Around} {R : Result → Shared → Prop}
/-- two tuples as long as one another, compared item by item: cmp says what each pair tells -/
theorem tuple_eqB (l b : Addr) (vsA vsB : Array Value) (n n2 : Nat) (dd dd2 : Option Addr) (sl sl2 : Array (Option Value)) (hSize : vsA.size = vsB.size) (cmp : Nat → Bool) (I : Nat → Shared → Prop)
    (stepI : ∀ i (h1 : i < vsA.size) (h2 : i < vsB.size) s, I i s → wpAny (model prog w) A.in1 (eqBool vsA[i] vsB[i]) (fun r s' => r = cmp i ∧ I (i + 1) s') (fun e s' => R (.error e) s') s)
    (finT : ∀ s, (∀ j, j < vsA.size → cmp j = true) → I vsA.size s → R (.ok (.ret (.bool true))) s)
    (finF : ∀ i s, i < vsA.size → cmp i = false → I (i + 1) s → R (.ok (.ret (.bool false))) s) {s : Shared}
    (atA : s.heap.get? l = some { cls := .type "tuple", dict := dd, data := .seq vsA n, slots := sl }) (atB : s.heap.get? b = some { cls := .type "tuple", dict := dd2, data := .seq vsB n2, slots := sl2 }) (h : I 0 s) :
    wpAny (model prog w) A.in1 (Builtin.«tuple.__eq__» ⟨[.ref l, .ref b], []⟩) (GQ.FinOf prog w A R) (fun e s' => R (.error e) s') s := by
  have f2 := AutoSeq1.sub_tuple_tuple
  have zipLen : (vsA.toList.zip vsB.toList).length = vsA.size := by simp [hSize]
  have h0 := h
  obtain ⟨hp0, g, d, tk0, os0⟩ := s
  wp_walk using wpAny_loadPart' atA, wpAny_loadPart' atB, wpAny_forIn_list _ (fun rest b s' => b.1 = none ∧ ∃ i, rest = (vsA.toList.zip vsB.toList).drop i ∧ i ≤ vsA.size ∧ (∀ j, j < i → cmp j = true) ∧ I i s') _
  case turn =>
    rintro ⟨y, x⟩ rest b s' ⟨hb', i, zEq, hi, hcI, hI⟩
    have iLt : i < (vsA.toList.zip vsB.toList).length := by
      rcases Nat.lt_or_ge i (vsA.toList.zip vsB.toList).length with h' | h'
      · exact h'
      · rw [List.drop_of_length_le h'] at zEq; cases zEq
    have h1 : i < vsA.size := zipLen ▸ iLt
    have h2 : i < vsB.size := hSize ▸ h1
    rw [List.drop_eq_getElem_cons iLt] at zEq
    injection zEq with eqYX eqRest
    have eqY : y = vsA[i] := by have := congrArg Prod.fst eqYX; simpa using this
    have eqX : x = vsB[i] := by have := congrArg Prod.snd eqYX; simpa using this
    subst eqY eqX
    refine wpAny_bind (wpAny_mono (stepI i h1 h2 s' hI) (fun r s2 q2 => ?_) fun _ _ x => x)
    obtain ⟨hr, q2⟩ := q2
    cases hcmp : cmp i with
    | true =>
      rw [hcmp] at hr
      subst hr
      wp_walk
      refine ⟨rfl, i + 1, eqRest, h1, fun j hj => ?_, q2⟩
      rcases Nat.lt_or_ge j i with h' | h'
      · exact hcI j h'
      · rw [show j = i by omega]; exact hcmp
    | false =>
      rw [hcmp] at hr
      subst hr
      have fF := finF i s2 h1 hcmp q2
      wp_walk
      exact fF
  case fin =>
    rintro ⟨b1, b2⟩ s' ⟨hb', i, zEq, hi, hcI, hI⟩
    simp only at hb'
    subst hb'
    have geI : vsA.size ≤ i := by
      rcases Nat.lt_or_ge i (vsA.toList.zip vsB.toList).length with h' | h'
      · rw [List.drop_eq_getElem_cons h'] at zEq; cases zEq
      · exact zipLen ▸ h'
    have hi' : i = vsA.size := by omega
    have done : R (.ok (.ret (.bool true))) s' := finT s' (hi' ▸ hcI) (hi' ▸ hI)
    wp_walk
    simpa [Builtin.Tuple.tupleCompareSizes, hSize] using done
  case h =>
    exact ⟨rfl, 0, rfl, Nat.zero_le _, fun j hj => absurd hj (Nat.not_lt_zero j), h0⟩
end
end GQB
set_option Elab.async false
set_option linter.all false
set_option maxRecDepth 100000
set_option maxHeartbeats 2000000
namespace GQB
open PySem PySem.SeqAt
section
variable {prog : Program} {w : World} {A : Around} {E : Value → Shared → Prop} {s : Shared}
theorem rc_tupB {l b : Addr} {vsA vsB : Array Value} {Q : Value → Shared → Prop} (hSize : vsA.size = vsB.size) (hu : A.units < cLine) (cmp : Nat → Bool) (I : Nat → Shared → Prop)
    (hl : s.heap.IsTuple l vsA) (hb : s.heap.IsTuple b vsB)
    (stepI : ∀ i (h1 : i < vsA.size) (h2 : i < vsB.size) s, I i s → wpAny (model prog w) A.in1 (eqBool vsA[i] vsB[i]) (fun r s' => r = cmp i ∧ I (i + 1) s') E s)
    (finT : ∀ s, (∀ j, j < vsA.size → cmp j = true) → I vsA.size s → Q (.bool true) s)
    (finF : ∀ i s, i < vsA.size → cmp i = false → I (i + 1) s → Q (.bool false) s) (h : I 0 s) : wpAny (model prog w) A (richCompare .Eq (.ref l) (.ref b)) Q E s := by
  obtain ⟨⟨cls, dd, data, sl⟩, hoA, hcI, n, hdA⟩ := id hl
  obtain ⟨⟨cls2, dd2, data2, sl2⟩, ho2b, hc2b, n2, hd2b⟩ := id hb
  simp only at hcI hdA hc2b hd2b
  subst hcI hdA hc2b hd2b
  refine wpAny_richCompare_same_room (op := .Eq) ⟨_, hoA, rfl⟩ ⟨_, ho2b, rfl⟩ F.slot_tuple_eq (GQ.call_here F.slot_tuple_eq ⟨_, hoA, rfl⟩ F.entry_tuple_eq (F.args_tuple_eq_2 _ _) ?_) hu
  exact tuple_eqB (R := wants (fun v s' => v ≠ .notImplemented ∧ Q v s') E) l b vsA vsB n n2 dd dd2 sl sl2 hSize cmp I stepI (fun s' c q => ⟨(fun x => nomatch x), finT s' c q⟩) (fun i s' hi c q => ⟨(fun x => nomatch x), finF i s' hi c q⟩) hoA ho2b h
end
end GQB
namespace LK
open PySem PySem.Spec PyProof.Rows L2
/-! ### x == y by what each tells: True or False -/
abbrev EqvB := V → V → Bool → Hp → Prop
def MonB (D : EqvB) : Prop := ∀ x y b H H', L2.Ext H H' → D x y b H → D x y b H'
/-- == inside a list or tuple tells what D says -/
def EqB (X : Cx) (n : Nat) (D : EqvB) : Prop :=
  ∀ (A : Around) (pns : List (Addr × Obj)) (s : Shared) (σ : L2.St) (H : Hp) (x y : V) (b : Bool) (u v : Value), L2.Sub X n A → L2.Inv X pns σ H s → RelV x u → RelV y v → D x y b H →
    wpAny (model X.prog X.w) A (eqBool u v) (fun r s' => r = b ∧ ∃ H', L2.Inv X pns σ H' s' ∧ L2.Ext H H') X.xe s
/-- so does their rich comparison -/
def RcB (X : Cx) (n : Nat) (D : EqvB) : Prop :=
  ∀ (A : Around) (pns : List (Addr × Obj)) (s : Shared) (σ : L2.St) (H : Hp) (x y : V) (b : Bool) (u v : Value), L2.Sub X n A → L2.Inv X pns σ H s → RelV x u → RelV y v → D x y b H →
    wpAny (model X.prog X.w) A (richCompare .Eq u v) (fun r s' => r = .bool b ∧ ∃ H', L2.Inv X pns σ H' s' ∧ L2.Ext H H') X.xe s
section
variable {X : Cx} {n : Nat} {D : EqvB}
/-- item by item: cmp tells each pair -/
def PrsB (D : EqvB) (cmp : Nat → Bool) (xs ys : List V) (H : Hp) : Prop := xs.length = ys.length ∧ ∀ (i : Nat) x y, xs[i]? = some x → ys[i]? = some y → D x y (cmp i) H
def allB (cmp : Nat → Bool) (n : Nat) : Bool := (List.range n).all cmp
theorem allB_T {cmp : Nat → Bool} {n : Nat} (h : ∀ j, j < n → cmp j = true) : allB cmp n = true := List.all_eq_true.mpr fun j hj => h j (List.mem_range.mp hj)
theorem allB_F {cmp : Nat → Bool} {n i : Nat} (hi : i < n) (h : cmp i = false) : allB cmp n = false := by
  cases e : allB cmp n with
  | false => rfl
  | true =>
    have := List.all_eq_true.mp e i (List.mem_range.mpr hi)
    rw [h] at this
    cases this
theorem turnB (hD : MonB D) (h : EqB X n D) {A : Around} (sub0 : L2.Sub X (n + 1) A) {pns : List (Addr × Obj)} {σ : L2.St} {H : Hp} {cmp : Nat → Bool} {xs ys : List V} {usA usB : List Value} (p : PrsB D cmp xs ys H) (r : Vals xs usA) (rB : Vals ys usB)
    (i : Nat) (h1 : i < usA.toArray.size) (h2 : i < usB.toArray.size) (s' : Shared) (l : L2.LoopI X pns σ H s') :
    wpAny (model X.prog X.w) A.in1 (eqBool usA.toArray[i] usB.toArray[i]) (fun r s2 => r = cmp i ∧ L2.LoopI X pns σ H s2) X.xe s' := by
  obtain ⟨H1, I1, e1⟩ := l
  have gA : usA[i]? = some usA.toArray[i] := by
    have h1' : i < usA.length := by simpa using h1
    rw [List.getElem?_eq_getElem h1'] <;> simp
  have gB : usB[i]? = some usB.toArray[i] := by
    have h2' : i < usB.length := by simpa using h2
    rw [List.getElem?_eq_getElem h2'] <;> simp
  have kA : i < xs.length := by rw [r.length]; simpa using h1
  have kB : i < ys.length := by rw [rB.length]; simpa using h2
  obtain ⟨u, hu, ru⟩ := r.get (List.getElem?_eq_getElem kA)
  obtain ⟨v, hv, relA⟩ := rB.get (List.getElem?_eq_getElem kB)
  rw [gA] at hu
  rw [gB] at hv
  rw [Option.some.inj hu, Option.some.inj hv]
  refine wpAny_mono (h A.in1 pns s' σ H1 _ _ _ u v sub0.in1 I1 ru relA (hD _ _ _ _ _ e1 (p.2 i _ _ (List.getElem?_eq_getElem kA) (List.getElem?_eq_getElem kB)))) (fun r s2 q => ?_) fun _ _ x => x
  obtain ⟨hr, H2, I2, e2⟩ := q
  exact ⟨hr, H2, I2, e1.trans e2⟩
def DTupB (K : PySem.W.Frag) (D : EqvB) : EqvB := fun x y b H => ∃ a c xs ys cmp, x = .ref a ∧ y = .ref c ∧ SqT K H a xs ∧ SqT K H c ys ∧ PrsB D cmp xs ys H ∧ b = allB cmp xs.length
theorem rcB_tup (hD : MonB D) (h : EqB X n D) : RcB X (n + 1) (DTupB X.K D) := by
  intro A pns s σ H x y b u v sub0 I rx ry d
  obtain ⟨a, c, xs, ys, cmp, rfl, rfl, ha, hb, p, rfl⟩ := d
  cases rx
  cases ry
  obtain ⟨usA, r, e, z⟩ := I.tuple ha
  obtain ⟨usB, rB, e2, z2⟩ := I.tuple hb
  have hSize : usA.toArray.size = usB.toArray.size := by rw [List.size_toArray, List.size_toArray, ← r.length, ← rB.length]; exact p.1
  have hl : usA.toArray.size = xs.length := by rw [List.size_toArray, ← r.length]
  exact GQB.rc_tupB hSize sub0.room.units0 cmp (fun _ s' => L2.LoopI X pns σ H s') e e2 (fun i h1 h2 s' q => turnB hD h sub0 p r rB i h1 h2 s' q)
    (fun s' c q => ⟨by rw [allB_T (by rw [← hl]; exact c)], q⟩) (fun i s' hi c q => ⟨by rw [allB_F (by rw [← hl]; exact hi) c], q⟩) ⟨H, I, L2.Ext.rfl'⟩
/-- instances of the class at C by the text's own == -/
def DInsB (C : Addr) (R : Addr → Addr → Bool → Hp → Prop) : EqvB := fun x y b H => ∃ a c dx dy fs gs, x = .ref a ∧ y = .ref c ∧ a ≠ c ∧ H a = some (.ins C dx fs) ∧ H c = some (.ins C dy gs) ∧ R a c b H
def spEqB (R : Addr → Addr → Bool → Hp → Prop) : Sp := fun vs H Q _ => ∃ a c b, vs = [.ref a, .ref c] ∧ R a c b H ∧ ∀ H', L2.Ext H H' → Q (.bl b) H'
theorem rcB_ins {CX : CXT} {C f : Addr} {fd : FuncData} {ps : List Str} {R : Addr → Addr → Bool → Hp → Prop} {E : XK} (F : FnOk X.prog X.w X.K X.mg X.base CX n f fd ps (spEqB R))
    (hs : PySem.W.findIn X.K (.ref C) "__eq__" = some (some (.ref f))) (hf : PySem.W.isFn X.K (.ref f) = true) (hb : L2.Binds X.K fd ps []) (eqX : Passes CX X E) : RcB X n (DInsB C R) := by
  intro A pns s σ H x y bb u v sub0 I rx ry d
  obtain ⟨a, b, dx, dy, fs, gs, rfl, rfl, abNe, ha, hb', hr⟩ := d
  cases rx
  cases ry
  obtain ⟨mA, J, _⟩ := ins_get I.hok ha
  obtain ⟨mB, J', _⟩ := ins_get I.hok hb'
  obtain ⟨od, J, _⟩ := J.look
  obtain ⟨od', J', _⟩ := J'.look
  obtain ⟨m, hF⟩ := I.fr
  refine PySem.W.cmp_K (op := .Eq) (tb := .ref C) sub0.room.units0 hF I.ok.mod.kin J J'.type (by simp [PySem.W.notFirst]) hs hf ?_
  have hsp : spEqB R [.ref a, .ref b] H (fun v H' => v = .bl bb ∧ L2.Ext H H') E := ⟨a, b, bb, rfl, hr, fun H' e => ⟨rfl, e⟩⟩
  have e0 : Env0 X.prog X.w X.K X.mg X.base A X.stack s H := by
    have e := I.env0
    exact ⟨by rw [sub0.fr]; exact e.frames, e.mod, e.bs, e.bsz, e.funs, e.frf, e.hok, e.bare⟩
  have hl := F.len _ _ _ _ hsp
  have rB : Vals [V.ref a, V.ref b] [Value.ref a, Value.ref b] := .cons rfl (.cons rfl .nil)
  refine wpAny_call (codeAny_mono (F.run A X.stack s H ⟨[.ref a, .ref b], []⟩ [.ref a, .ref b] [.ref a, .ref b] _ E sub0.room e0 (by
    have := hb s [.ref a, .ref b] I.kIn (by simpa using hl)
    simpa using this) rB hsp) fun r s' tupA => ?_)
  cases r with
  | error e => exact eqX pns σ H s e s' I tupA
  | ok fl =>
    cases fl with
    | ret w =>
      obtain ⟨z, H', I', rz, ez, ex⟩ := I.after tupA
      subst ez
      cases rz
      exact ⟨rfl, H', I', ex⟩
    | next => exact False.elim tupA
    | brk => exact False.elim tupA
    | cont => exact False.elim tupA
theorem monB_ins {C : Addr} {R : Addr → Addr → Bool → Hp → Prop} (done : ∀ a c b H H', L2.Ext H H' → R a c b H → R a c b H') : MonB (DInsB C R) := fun x y b H H' e d => by
  obtain ⟨a, c, dx, dy, fs, gs, eqX, eqY, abNe, h1, h2, r⟩ := d
  exact ⟨a, c, dx, dy, fs, gs, eqX, eqY, abNe, e _ _ h1, e _ _ h2, done a c b H H' e r⟩
/-- two different objects: from their rich comparison to == inside a tuple -/
theorem RcB.eqB (h : RcB X n D) (hr : ∀ x y b H, D x y b H → ∃ a c, x = .ref a ∧ y = .ref c ∧ a ≠ c) : EqB X n D := by
  intro A pns s σ H x y b u v sub0 I rx ry d
  obtain ⟨a, c, rfl, rfl, abNe⟩ := hr _ _ _ _ d
  cases rx
  cases ry
  refine GQ.eqBool_refG abNe (wpAny_mono (h A pns s σ H (.ref a) (.ref c) b _ _ sub0 I rfl rfl d) (fun r s' q => ?_) fun _ _ x => x)
  obtain ⟨hr', q⟩ := q
  exact ⟨b, hr', rfl, q⟩
/-- x == y as an expression -/
def rEqB (D : EqvB) : R2 := fun x y H Q => ∃ b, D x y b H ∧ ∀ H', L2.Ext H H' → Q (.bl b) H'
theorem op_eqB (h : RcB X n D) (hr : Room n X.A) : OpR X (compareOp .Eq) (rEqB D) := by
  intro pns s σ H x y v u Q I rx ry tupA
  obtain ⟨b, d, q⟩ := tupA
  show wpAny (model X.prog X.w) X.A (richCompare .Eq v u) (EP X pns σ Q) X.xe s
  refine wpAny_mono (h X.A pns s σ H x y b v u ⟨hr, rfl⟩ I rx ry d) (fun r s' z => ?_) fun _ _ x => x
  obtain ⟨hr', H', I', e⟩ := z
  subst hr'
  exact ⟨.bl b, H', I', rfl, q H' e⟩
end
end LK
set_option Elab.async false
set_option linter.all false
set_option maxRecDepth 100000
set_option maxHeartbeats 2000000
namespace LK
open PySem PySem.Spec PyProof.Rows L2
section
variable {X : Cx} {n : Nat}
/-- x == y where x is an instance of a class with its own ==, y anything of a type that does not come first -/
def rOwnEq (K : PySem.W.Frag) (C : Addr) (sp : Sp) (E : XK) : R2 := fun x y H Q => ∃ (a dx : Addr) (fs : List (Str × V)) (t : Value), x = .ref a ∧ H a = some (.ins C dx fs) ∧ TyX K H y t ∧ PySem.W.notFirst K C t = true ∧ sp [x, y] H (fun v H' => ∃ b, v = .bl b ∧ Q (.bl b) H') E
theorem op_ownEq {CX : CXT} {C f : Addr} {fd : FuncData} {ps : List Str} {sp : Sp} {E : XK} (F : FnOk X.prog X.w X.K X.mg X.base CX n f fd ps sp) (hr : Room n X.A)
    (hs : PySem.W.findIn X.K (.ref C) "__eq__" = some (some (.ref f))) (hf : PySem.W.isFn X.K (.ref f) = true) (hb : L2.Binds X.K fd ps []) (hx : Passes CX X E) : OpR X (compareOp .Eq) (rOwnEq X.K C sp E) := by
  intro pins s σ H x y v u Q I rx ry hq
  obtain ⟨a, dx, fs, t, rfl, ha, ty, hn, hsp⟩ := hq
  have hru : RelV y u := ry
  obtain rfl : v = Value.ref a := rx
  show wpAny (model X.prog X.w) X.A (richCompare .Eq (.ref a) u) (EP X pins σ Q) X.xe s
  obtain ⟨mA, J, _⟩ := ins_get I.hok ha
  obtain ⟨od, J, _⟩ := J.look
  obtain ⟨m, hF⟩ := I.fr
  obtain ⟨Pk, kx, hp, _⟩ := kit_of I ry ty
  refine PySem.W.cmp_K (op := .Eq) (tb := t) hr.units0 hF I.ok.mod.kin J (kx.ty _ _ I.kIn hp) hn hs hf ?_
  have e0 : Env0 X.prog X.w X.K X.mg X.base X.A X.stack s H := I.env0
  have hl := F.len _ _ _ _ hsp
  have r2 : Vals [V.ref a, y] [Value.ref a, u] := .cons rfl (.cons ry .nil)
  refine wpAny_call (codeAny_mono (F.run X.A X.stack s H ⟨[.ref a, u], []⟩ [.ref a, u] [.ref a, y] _ E hr e0 (by
    have := hb s [.ref a, u] I.kIn (by simpa using hl)
    simpa using this) r2 hsp) fun r s' hq => ?_)
  cases r with
  | error e => exact hx pins σ H s e s' I hq
  | ok fl =>
    cases fl with
    | ret w =>
      obtain ⟨z, H', I', rz, b, ez, q⟩ := I.after hq
      subst ez
      cases rz
      exact ⟨.bl b, H', I', rfl, q⟩
    | next => exact False.elim hq
    | brk => exact False.elim hq
    | cont => exact False.elim hq
end
end LK
set_option Elab.async false
set_option linter.all false
set_option maxRecDepth 100000
set_option maxHeartbeats 4000000
namespace K26
open PySem PySem.Spec PyProof.Rows L2 Evl LK
/-! Table.__init__, Table.__eq__ -/
abbrev sTInit : Stmt := inClass (top 2) 0
abbrev sTEq : Stmt := inClass (top 2) 1
structure TTb (K : PySem.W.Frag) (mg : Str → Option Value) (C : Addr) : Prop where
  cT : mg "Table" = some (.ref C)
  cl : Cls K C
  nN : NoAttr K C "name"
  nP : NoAttr K C "params"
  nR : NoAttr K C "rows"
  nL : NoAttr K C "lands"
  nC : NoAttr K C "closes"
  ca : PySem.W.findIn K (.ref C) "__class__" = some (some (.builtin "object.__class__"))
  cg : PySem.W.specialIn K (.builtin "object.__class__") "__get__" = some (some (.builtin "getset_descriptor.__get__"))
  ct : PySem.W.takesIn K (.builtin "object.__class__") = some true
  cm : PySem.W.mroIn K C (.type "object") = some true
  tl : PySem.W.kitOne K (.type "tuple") (.type "list") = some false
structure TIn (mg : Str → Option Value) (fR : Addr) : Prop where
  isinstance : mg "isinstance" = none
  list : mg "list" = none
  tuple : mg "tuple" = none
  rising : mg "_rising" = some (.ref fR)
theorem any_lst {K : PySem.W.Frag} : PySem.W.kitAny K (.type "list") [.type "list", .type "tuple"] = some true := by
  unfold PySem.W.kitAny
  rw [kit_self]
theorem any_tup {K : PySem.W.Frag} (h : PySem.W.kitOne K (.type "tuple") (.type "list") = some false) : PySem.W.kitAny K (.type "tuple") [.type "list", .type "tuple"] = some true := by
  unfold PySem.W.kitAny
  rw [h]
  show PySem.W.kitAny K (.type "tuple") [.type "tuple"] = some true
  unfold PySem.W.kitAny
  rw [kit_self]
/-- a Table's fields -/
def tfl (n p r l c : V) : List (Str × V) := [("name", n), ("params", p), ("rows", r), ("lands", l), ("closes", c)]
theorem tfl1 (n p r l c : V) : putF "closes" c (putF "lands" l (putF "rows" r (putF "params" p (putF "name" n [])))) = tfl n p r l c := by
  have k1 : ¬ (("name" : Str) = "params") := by decide +kernel
  have k2 : ¬ (("name" : Str) = "rows") := by decide +kernel
  have k3 : ¬ (("name" : Str) = "lands") := by decide +kernel
  have k4 : ¬ (("name" : Str) = "closes") := by decide +kernel
  have k5 : ¬ (("params" : Str) = "rows") := by decide +kernel
  have k6 : ¬ (("params" : Str) = "lands") := by decide +kernel
  have k7 : ¬ (("params" : Str) = "closes") := by decide +kernel
  have k8 : ¬ (("rows" : Str) = "lands") := by decide +kernel
  have k9 : ¬ (("rows" : Str) = "closes") := by decide +kernel
  have k10 : ¬ (("lands" : Str) = "closes") := by decide +kernel
  simp [putF, tfl, k1, k2, k3, k4, k5, k6, k7, k8, k9, k10]
theorem tfl_n (n p r l c : V) : (tfl n p r l c).lookup ("name" : Str) = some n := rfl
theorem tfl_p (n p r l c : V) : (tfl n p r l c).lookup ("params" : Str) = some p := rfl
theorem tfl_r (n p r l c : V) : (tfl n p r l c).lookup ("rows" : Str) = some r := rfl
theorem tfl_l (n p r l c : V) : (tfl n p r l c).lookup ("lands" : Str) = some l := rfl
theorem tfl_c (n p r l c : V) : (tfl n p r l c).lookup ("closes" : Str) = some c := rfl
theorem put_len (x : Str) (v : V) : ∀ fs : List (Str × V), (putF x v fs).length ≤ fs.length + 1
  | [] => Nat.le_refl _
  | (g, y) :: r => by
    have ih := put_len x v r
    show (if g = x then (g, v) :: r else (g, y) :: putF x v r).length ≤ _
    by_cases h : g = x
    · rw [if_pos h]; simp
    · rw [if_neg h]; simp only [List.length_cons]; omega
def RowsA (H : Hp) (r : Addr) (xs : List V) : Prop := H r = some (.lst xs) ∨ H r = some (.tup xs)
def Dk (H : Hp) (v : V) (ms : List (Int × V)) : Prop := ((v = .non ∧ ms = []) ∨ ∃ a, v = .ref a ∧ H a = some (.dK (kvI ms))) ∧ (ms.map (·.1)).Nodup ∧ ms.length ≤ 1000
/-- all but what stands at x -/
def Off (x : Addr) (H H' : Hp) : Prop := ∀ b o, b ≠ x → H b = some o → H' b = some o
def spTInit (C : Addr) : Sp := fun vs H Q _ => ∃ (x dx p r : Addr) (nm : Str) (l c : V) (ps xs : List V) (ms ns : List (Int × V)), vs = [.ref x, .str nm, .ref p, .ref r, l, c] ∧ H x = some (.ins C dx []) ∧ H p = some (.tup ps) ∧ RowsA H r xs ∧ Dk H l ms ∧ Dk H c ns ∧
  ∀ (rt la ca : Addr) (H' : Hp) (ms' ns' : List (Int × V)), Off x H H' → H' x = some (.ins C dx (tfl (.str nm) (.ref p) (.ref rt) (.ref la) (.ref ca))) → H' rt = some (.tup xs) → H la = none → H ca = none → H' la = some (.dK (kvI ms')) → H' ca = some (.dK (kvI ns')) →
    ms'.Perm ms → (ms'.map (·.1)).Pairwise (· ≤ ·) → ns'.Perm ns → (ns'.map (·.1)).Pairwise (· ≤ ·) → Q .non H'
section
variable {P : Program} {w : World} {K : PySem.W.Frag} {mg : Str → Option Value} {base : Heap} {C : Addr}
theorem Off.dk {x : Addr} {H H' : Hp} {dx : Addr} {fs : List (Str × V)} {v : V} {ms : List (Int × V)} (o : Off x H H') (hx : H x = some (.ins C dx fs)) (h : Dk H v ms) : Dk H' v ms := by
  obtain ⟨h, n, l⟩ := h
  refine ⟨?_, n, l⟩
  rcases h with h | ⟨a, e, h⟩
  · exact .inl h
  · exact .inr ⟨a, e, o _ _ (fun z => by rw [z, hx] at h; cases h) h⟩
theorem Dk.ris {H : Hp} {v : V} {ms : List (Int × V)} {Q : VK} {E : XK} (h : Dk H v ms) (q : ∀ p H' ms', H p = none → Same H H' → H' p = some (.dK (kvI ms')) → ms'.Perm ms → (ms'.map (·.1)).Pairwise (· ≤ ·) → Q (.ref p) H') : spRis [v] H Q E := by
  obtain ⟨h, n, l⟩ := h
  rcases h with ⟨rfl, rfl⟩ | ⟨a, rfl, h⟩
  · exact ⟨_, rfl, .inl ⟨rfl, fun p H' hp s e => q p H' [] hp s e (.refl _) .nil⟩⟩
  · exact ⟨_, rfl, .inr ⟨a, ms, rfl, h, n, l, q⟩⟩
theorem Dk.ask {i : Nat} {σ : L2.St} {H : Hp} {v : V} {ms : List (Int × V)} {Q : VK} {E : XK} (e : σ[i]? = some (some v)) (h : Dk H v ms) (q : ∀ p H' ms', H p = none → Same H H' → H' p = some (.dK (kvI ms')) → ms'.Perm ms → (ms'.map (·.1)).Pairwise (· ≤ ·) → Q (.ref p) H') :
    tCall spRis [] E (tCons (tVar i) tNil) σ H Q := ⟨v, e, h.ris (E := E) q⟩
theorem scTInit : FnScope ["self", "name", "params", "rows", "lands", "closes"] ["self", "name", "params", "rows", "lands", "closes"] (defScope sTInit) := ⟨rfl, rfl, rfl, by decide +kernel, rfl, by decide +kernel, by decide +kernel⟩
abbrev kwT : List (Str × V) := [("lands", .non), ("closes", .non)]
theorem ok_tinit {f fR : Addr} {fd fdR : FuncData} (F : FunD K "__init__" "Table.__init__" (defArgs sTInit) (defBody sTInit) (defScope sTInit) [] kwT f fd) (FRi : FnP K "_rising" s_rising fR fdR) (TR : TRi mg) (T : TIn mg fR) (TB : TTb K mg C) :
    FnOk P w K mg base CX0 2 f fd ["self", "name", "params", "rows", "lands", "closes"] (spTInit C) := by
  have GRi : FnOk P w K mg base CX0 1 fR fdR ["thing"] spRis := ok_ris FRi TR
  have bRi : Binds K fdR ["thing"] [] := FRi.bindsN fun _ _ _ _ _ _ us hl => match us, hl with | [_], _ => rfl
  refine F.ok scTInit (fun vs H Q E h => ?_) (fun cdv A outer s H vs Q E hr h => ?_)
  · obtain ⟨x, dx, p, r, nm, l, c, ps, xs, ms, ns, rfl, _⟩ := h; rfl
  · obtain ⟨x, dx, p, r, nm, l, c, ps, xs, ms, ns, rfl, hx, hp, hR, hl, hc, q⟩ := h
    have hr1 : Room 1 _ := hr
    refine ⟨_, PSs.nox (pss_cons (ps_fld (pv 0) (pv 1) rfl)
      (pss_cons (ps_fld (pv 0) (pe_ifExp (pt_val (pe_callB call_isi (by rfl) T.isinstance (by decide +kernel) (pa_cons (pv 2) (pa_cons (pe_bltn (v := .ty "list") (by rfl) T.list (by decide +kernel) rfl) pa_nil)))) (pe_callTy call_list_of (by rfl) T.list (by decide +kernel) (pa_cons (pv 2) pa_nil)) (pv 2)) rfl)
      (pss_cut (ps_fld (pv 0) (pe_ifExp (pt_val (pe_callB call_isiT (by rfl) T.isinstance (by decide +kernel) (pa_cons (pv 3) (pa_cons (pe_tup (pa_cons (pe_bltn (v := .ty "list") (by rfl) T.list (by decide +kernel) rfl) (pa_cons (pe_bltn (v := .ty "tuple") (by rfl) T.tuple (by decide +kernel) rfl) pa_nil))) pa_nil)))) (pe_callTy call_tuple_of (by rfl) T.tuple (by decide +kernel) (pa_cons (pv 3) pa_nil)) (pv 3)) rfl)
      (pss_cons (ps_fld (pv 0) (pe_call GRi hr1 rfl T.rising FRi.kp bRi .nil pass0 (pa_cons (pv 4) pa_nil)) rfl)
      (pss_one (ps_fld (pv 0) (pe_call GRi hr1 rfl T.rising FRi.kp bRi .nil pass0 (pa_cons (pv 5) pa_nil)) rfl)))))), ?_⟩
    -- name
    refine ⟨_, rfl, _, rfl, x, C, dx, [], rfl, hx, TB.cl, TB.nN, (by show 0 < 1000; decide), ?_⟩
    have o1 : Off x H (upd H x (.ins C dx (putF "name" (.str nm) []))) := fun b o hb e => by rw [upd_ne hb]; exact e
    have x1 : upd H x (.ins C dx (putF "name" (.str nm) [])) x = some (.ins C dx (putF "name" (.str nm) [])) := upd_same
    generalize upd H x (.ins C dx (putF "name" (.str nm) [])) = H1 at o1 x1
    have px : p ≠ x := fun z => by rw [z, hx] at hp; cases hp
    have rx : r ≠ x := fun z => by rcases hR with h | h <;> rw [z, hx] at h <;> cases h
    -- params
    refine ⟨_, rfl, .ref p, .ty "list", .type "tuple", .type "list", false, rfl, .ty "list", .base (.tup (o1 _ _ px hp)), TB.tl, _, rfl, iteF ?_⟩
    refine ⟨_, rfl, _, rfl, x, C, dx, _, rfl, x1, TB.cl, TB.nP, (by show 1 < 1000; decide), ?_⟩
    have o2 : Off x H (upd H1 x (.ins C dx (putF "params" (.ref p) (putF "name" (.str nm) [])))) := fun b o hb e => by rw [upd_ne hb]; exact o1 _ _ hb e
    have x2 : upd H1 x (.ins C dx (putF "params" (.ref p) (putF "name" (.str nm) []))) x = some (.ins C dx (putF "params" (.ref p) (putF "name" (.str nm) []))) := upd_same
    generalize upd H1 x (.ins C dx (putF "params" (.ref p) (putF "name" (.str nm) []))) = H2 at o2 x2
    -- rows
    refine ⟨fun σ' H' => ∃ rt, σ' = L2.start ["self", "name", "params", "rows", "lands", "closes"] [V.ref x, V.str nm, V.ref p, V.ref r, l, c] ∧ Off x H H' ∧ H' x = some (.ins C dx (putF "rows" (.ref rt) (putF "params" (.ref p) (putF "name" (.str nm) [])))) ∧ H' rt = some (.tup xs), ?_, ?_⟩
    · refine ⟨_, rfl, by show 2 ≤ sizeLine; decide, fun tp htp => ?_⟩
      have s3 : Same H2 (upd H2 tp (.tup [.ty "list", .ty "tuple"])) := same_new htp
      have e3 : upd H2 tp (.tup [.ty "list", .ty "tuple"]) tp = some (.tup [.ty "list", .ty "tuple"]) := upd_same
      generalize upd H2 tp (.tup [.ty "list", .ty "tuple"]) = H3 at s3 e3
      have o3 : Off x H H3 := fun b o hb e => s3 _ _ (o2 _ _ hb e)
      have x3 := s3 _ _ x2
      rcases hR.imp (o3 _ _ rx) (o3 _ _ rx) with hr3 | hr3
      · refine ⟨.ref r, tp, [.ty "list", .ty "tuple"], .type "list", [.type "list", .type "tuple"], true, rfl, e3, .cons (.ty _) (.cons (.ty _) .nil), .base (.lst hr3), any_lst, _, rfl, iteT ?_⟩
        refine ⟨_, rfl, r, xs, rfl, .inl ⟨SqL.of hr3, fun rt hrt => ?_⟩⟩
        have x4 := same_new (o := .tup xs) hrt _ _ x3
        refine ⟨_, rfl, x, C, dx, _, rfl, x4, TB.cl, TB.nR, Nat.lt_of_le_of_lt (Nat.le_trans (put_len _ _ _) (Nat.succ_le_succ (put_len _ _ _))) (by decide), ?_⟩
        have rtx : rt ≠ x := fun z => by rw [z, x3] at hrt; cases hrt
        exact ⟨rt, rfl, fun b o hb e => by rw [upd_ne hb]; exact same_new hrt _ _ (o3 _ _ hb e), upd_same, by rw [upd_ne rtx]; exact upd_same⟩
      · refine ⟨.ref r, tp, [.ty "list", .ty "tuple"], .type "tuple", [.type "list", .type "tuple"], true, rfl, e3, .cons (.ty _) (.cons (.ty _) .nil), .base (.tup hr3), any_tup TB.tl, _, rfl, iteT ?_⟩
        refine ⟨_, rfl, r, xs, rfl, .inr ⟨SqT.of hr3, ?_⟩⟩
        refine ⟨_, rfl, x, C, dx, _, rfl, x3, TB.cl, TB.nR, Nat.lt_of_le_of_lt (Nat.le_trans (put_len _ _ _) (Nat.succ_le_succ (put_len _ _ _))) (by decide), ?_⟩
        exact ⟨r, rfl, fun b o hb e => by rw [upd_ne hb]; exact o3 _ _ hb e, upd_same, by rw [upd_ne rx]; exact hr3⟩
    rintro σ' H4 ⟨rt, rfl, o4, x4, ht4⟩
    have l5 : ∀ {n m : Nat}, n ≤ m + 1 → m < 900 → n < 1000 := fun h1 h2 => by omega
    -- lands
    refine Dk.ask (i := 4) rfl (o4.dk hx hl) fun la H5 ms' hla s5 e5 pm sm => ?_
    have x5 := s5 _ _ x4
    refine ⟨_, rfl, x, C, dx, _, rfl, x5, TB.cl, TB.nL, Nat.lt_of_le_of_lt (Nat.le_trans (put_len _ _ _) (Nat.succ_le_succ (Nat.le_trans (put_len _ _ _) (Nat.succ_le_succ (put_len _ _ _))))) (by decide), ?_⟩
    have lax : la ≠ x := fun z => by rw [z, x4] at hla; cases hla
    have o6 : Off x H (upd H5 x (.ins C dx (putF "lands" (.ref la) (putF "rows" (.ref rt) (putF "params" (.ref p) (putF "name" (.str nm) [])))))) := fun b o hb e => by rw [upd_ne hb]; exact s5 _ _ (o4 _ _ hb e)
    have x6 : upd H5 x (.ins C dx (putF "lands" (.ref la) (putF "rows" (.ref rt) (putF "params" (.ref p) (putF "name" (.str nm) []))))) x = some (.ins C dx (putF "lands" (.ref la) (putF "rows" (.ref rt) (putF "params" (.ref p) (putF "name" (.str nm) []))))) := upd_same
    have e6 : upd H5 x (.ins C dx (putF "lands" (.ref la) (putF "rows" (.ref rt) (putF "params" (.ref p) (putF "name" (.str nm) []))))) la = some (.dK (kvI ms')) := by rw [upd_ne lax]; exact e5
    have rtx : rt ≠ x := fun z => by rw [z, x4] at ht4; cases ht4
    have t6 : upd H5 x (.ins C dx (putF "lands" (.ref la) (putF "rows" (.ref rt) (putF "params" (.ref p) (putF "name" (.str nm) []))))) rt = some (.tup xs) := by rw [upd_ne rtx]; exact s5 _ _ ht4
    generalize upd H5 x (.ins C dx (putF "lands" (.ref la) (putF "rows" (.ref rt) (putF "params" (.ref p) (putF "name" (.str nm) []))))) = H6 at o6 x6 e6 t6
    have new : ∀ {b : Addr} {H' : Hp}, Off x H H' → b ≠ x → H' b = none → H b = none := fun {b H'} o hb h => by
      cases g : H b with
      | none => rfl
      | some u => rw [o b u hb g] at h; cases h
    -- closes
    refine Dk.ask (i := 5) rfl (o6.dk hx hc) fun ca H7 ns' hca s7 e7 pn sn => ?_
    have x7 := s7 _ _ x6
    refine ⟨_, rfl, x, C, dx, _, rfl, x7, TB.cl, TB.nC, Nat.lt_of_le_of_lt (Nat.le_trans (put_len _ _ _) (Nat.succ_le_succ (Nat.le_trans (put_len _ _ _) (Nat.succ_le_succ (Nat.le_trans (put_len _ _ _) (Nat.succ_le_succ (put_len _ _ _))))))) (by decide), ?_⟩
    have cax : ca ≠ x := fun z => by rw [z, x6] at hca; cases hca
    rw [tfl1]
    exact q rt la ca _ ms' ns' (fun b o hb e => by rw [upd_ne hb]; exact s7 _ _ (o6 _ _ hb e)) upd_same (by rw [upd_ne rtx]; exact s7 _ _ t6) (new o4 lax hla) (new o6 cax hca) (by rw [upd_ne lax]; exact s7 _ _ e6) (by rw [upd_ne cax]; exact e7) pm sm pn sn
/-- the data of a Table -/
structure TbD where
  n : Str
  ps : List Str
  rows : List PyData
  lands : List (Int × PyData)
  closes : List (Int × PyData)
def kD (l : List (Int × PyData)) : List (Key × PyData) := l.map fun d => (Sum.inl d.1, d.2)
def eqT (a b : TbD) : Bool := decide (a.n = b.n) && (PyData.eqv (.tuple (a.ps.map PyData.str)) (.tuple (b.ps.map PyData.str)) && (PyData.eqv (.tuple a.rows) (.tuple b.rows) && (eqvD (kD a.lands) (kD b.lands) && eqvD (kD a.closes) (kD b.closes))))
structure ShT (t : TbD) : Prop where
  p : SeqAt.shaped (.tuple (t.ps.map PyData.str)) = true
  r : SeqAt.shaped (.tuple t.rows) = true
/-- a Table at x -/
structure IsT (K : PySem.W.Frag) (C : Addr) (H : Hp) (x : Addr) (t : TbD) (dx p r la ca : Addr) (xs : List V) (ms ns : List (Int × V)) : Prop where
  ins : H x = some (.ins C dx (tfl (.str t.n) (.ref p) (.ref r) (.ref la) (.ref ca)))
  hp : SqT K H p (t.ps.map V.str)
  hr : SqT K H r xs
  dr : DpAll K H xs t.rows
  hl : H la = some (.dK (kvI ms))
  dl : KvD K H (kvI ms) (kD t.lands)
  hc : H ca = some (.dK (kvI ns))
  dc : KvD K H (kvI ns) (kD t.closes)
def spTEq (K : PySem.W.Frag) (C : Addr) : Sp := fun vs H Q _ => (∃ x y t u dx p r la ca xs ms ns dx2 p2 r2 la2 ca2 xs2 ms2 ns2, vs = [.ref x, .ref y] ∧ IsT K C H x t dx p r la ca xs ms ns ∧ IsT K C H y u dx2 p2 r2 la2 ca2 xs2 ms2 ns2 ∧ ShT t ∧ ShT u ∧ Q (.bl (eqT t u)) H) ∨
  ∃ (x : Addr) (y : V) (t : Value), vs = [.ref x, y] ∧ TyX K H y t ∧ PySem.W.kitOne K t (.ref C) = some false ∧ Q (.bl false) H
theorem dp_strs {K : PySem.W.Frag} {H : Hp} : ∀ l : List Str, DpAll K H (l.map V.str) (l.map PyData.str)
  | [] => .nil
  | z :: l => .cons (.str z) (dp_strs l)
theorem scTEq : FnScope ["self", "other"] ["self", "other"] (defScope sTEq) := ⟨rfl, rfl, rfl, by decide +kernel, rfl, by decide +kernel, by decide +kernel⟩
theorem ok_teq {f : Addr} {fd : FuncData} (F : FunD K "__eq__" "Table.__eq__" (defArgs sTEq) (defBody sTEq) (defScope sTEq) [] [] f fd) (isi : mg "isinstance" = none) (TB : TTb K mg C) : FnOk P w K mg base CX0 1 f fd ["self", "other"] (spTEq K C) := by
  refine F.ok scTEq (fun vs H Q E h => ?_) (fun cdv A outer s H vs Q E hr h => ?_)
  · rcases h with ⟨x, y, t, u, _, _, _, _, _, _, _, _, _, _, _, _, _, _, _, _, rfl, _⟩ | ⟨x, y, t, rfl, _⟩ <;> rfl
  · have hu64 := hr.units
    have hu65 : (A.deeper (envOfC "Table.__eq__" (defScope sTEq) s.heap.objs.size f cdv)).units + 65 < cLine := by have := hr.un; omega
    refine ⟨_, PSs.nox (pss_one (ps_ret (pe_and (pe_callB call_isi (by rfl) isi (by decide +kernel) (pa_cons (pv 1) (pa_cons (pe_glob (v := .ref C) rfl TB.cT rfl) pa_nil))) (pe_and (pe_cmpR op_eq (pe_fld (pv 0) rfl) (pe_fld (pv 1) rfl) (nomark _)) (pe_and (pe_cmpR (op_eqD hu64) (pe_fld (pv 0) rfl) (pe_fld (pv 1) rfl) (nomark _)) (pe_and (pe_cmpR (op_eqD hu64) (pe_fld (pv 0) rfl) (pe_fld (pv 1) rfl) (nomark _)) (pe_and (pe_cmpR (op_eqKD hu65) (pe_fld (pv 0) rfl) (pe_fld (pv 1) rfl) (nomark _)) (pe_one (pe_cmpR (op_eqKD hu65) (pe_fld (pv 0) rfl) (pe_fld (pv 1) rfl) (nomark _)))))))))), ?_⟩
    rcases h with ⟨x, y, t, u, dx, p, r, la, ca, xs, ms, ns, dx2, p2, r2, la2, ca2, xs2, ms2, ns2, rfl, T, U, st, su, q⟩ | ⟨x, y, t, rfl, ty, hk, q⟩
    · refine ⟨_, rfl, .ref y, .ref C, .ref C, _, true, rfl, .own C, .base (.ins U.ins TB.cl TB.ca TB.cg TB.ct TB.cm), kit_self, _, rfl, iteT ?_⟩
      refine ⟨_, rfl, x, C, dx, _, _, rfl, T.ins, TB.cl, TB.nN, tfl_n _ _ _ _ _, _, rfl, y, C, dx2, _, _, rfl, U.ins, TB.cl, TB.nN, tfl_n _ _ _ _ _, rfl, _, rfl, ?_⟩
      rw [str_dec]
      unfold eqT at q
      generalize decide (t.n = u.n) = b1 at q ⊢
      cases b1 with
      | false => exact iteF q
      | true =>
      refine iteT ⟨_, rfl, x, C, dx, _, _, rfl, T.ins, TB.cl, TB.nP, tfl_p _ _ _ _ _, _, rfl, y, C, dx2, _, _, rfl, U.ins, TB.cl, TB.nP, tfl_p _ _ _ _ _, _, _, .tup T.hp (dp_strs _), .tup U.hp (dp_strs _), st.p, su.p, _, rfl, ?_⟩
      generalize PyData.eqv (.tuple (t.ps.map PyData.str)) (.tuple (u.ps.map PyData.str)) = b2 at q ⊢
      cases b2 with
      | false => exact iteF q
      | true =>
      refine iteT ⟨_, rfl, x, C, dx, _, _, rfl, T.ins, TB.cl, TB.nR, tfl_r _ _ _ _ _, _, rfl, y, C, dx2, _, _, rfl, U.ins, TB.cl, TB.nR, tfl_r _ _ _ _ _, _, _, .tup T.hr T.dr, .tup U.hr U.dr, st.r, su.r, _, rfl, ?_⟩
      generalize PyData.eqv (.tuple t.rows) (.tuple u.rows) = b3 at q ⊢
      cases b3 with
      | false => exact iteF q
      | true =>
      refine iteT ⟨_, rfl, x, C, dx, _, _, rfl, T.ins, TB.cl, TB.nL, tfl_l _ _ _ _ _, _, rfl, y, C, dx2, _, _, rfl, U.ins, TB.cl, TB.nL, tfl_l _ _ _ _ _, la, la2, _, _, _, _, rfl, rfl, .inl T.hl, .inl U.hl, T.dl, U.dl, _, rfl, ?_⟩
      generalize eqvD (kD t.lands) (kD u.lands) = b4 at q ⊢
      cases b4 with
      | false => exact iteF q
      | true =>
      exact iteT ⟨_, rfl, x, C, dx, _, _, rfl, T.ins, TB.cl, TB.nC, tfl_c _ _ _ _ _, _, rfl, y, C, dx2, _, _, rfl, U.ins, TB.cl, TB.nC, tfl_c _ _ _ _ _, ca, ca2, _, _, _, _, rfl, rfl, .inl T.hc, .inl U.hc, T.dc, U.dc, q⟩
    · exact ⟨_, rfl, y, .ref C, t, _, false, rfl, .own C, ty, hk, _, rfl, iteF q⟩
end
end K26
set_option Elab.async false
set_option linter.all false
set_option maxRecDepth 100000
set_option maxHeartbeats 2000000
namespace LK
open PySem PySem.Spec PyProof.Rows L2 Evl
/-! ### the boxes of expressions and bodies, as they stand -/
def boxesE : Ex → List Str
  | .num _ => []
  | .non => []
  | .box b => [b]
  | .op _ a b => boxesE a ++ boxesE b
mutual
def boxesS : Sm → List Str
  | .set3 _ b e => b :: boxesE e
  | .one _ e => boxesE e
  | .jump _ => []
  | .make b _ es => b :: (es.map boxesE).flatten
  | .ifs e x y => boxesE e ++ boxesB x ++ boxesB y
  | .whl e x => boxesE e ++ boxesB x
  | .pull b _ e f x => b :: boxesE e ++ (boxesE f ++ boxesB x)
  | .tri x c y z => boxesB x ++ c.toList ++ (boxesB y ++ boxesB z)
def boxesB : List Sm → List Str
  | [] => []
  | s :: r => boxesS s ++ boxesB r
end
theorem boxesE_len {bs : List Str} {d : Nat} {e : Ex} (h : OkE bs d e) : (boxesE e).length ≤ 2 ^ d := by
  induction h with
  | num _ _ => exact Nat.zero_le _
  | non => exact Nat.zero_le _
  | box _ => exact Nat.one_le_two_pow
  | @op d w a b _ _ _ i1 i2 =>
    show (boxesE a ++ boxesE b).length ≤ 2 ^ (d + 1)
    rw [List.length_append, Nat.pow_succ]
    omega
theorem pow_small {d : Nat} (h : d ≤ 10) : 2 ^ d ≤ 1024 := Nat.le_trans (Nat.pow_le_pow_right (by decide) h) (by decide)
theorem boxesE_16 {bs : List Str} {q : Nat} (q4 : q ≤ 4) {e : Ex} (h : OkE bs q e) : (boxesE e).length ≤ 16 := Nat.le_trans (boxesE_len h) (Nat.le_trans (Nat.pow_le_pow_right (by decide) q4) (by decide))
theorem boxesF_16 {bs : List Str} {q : Nat} (q4 : q ≤ 4) : ∀ {es : List Ex}, (∀ e ∈ es, OkE bs q e) → (es.map boxesE).flatten.length ≤ 16 * es.length
  | [], _ => Nat.zero_le _
  | e :: es, h => by
    have h1 := boxesE_16 q4 (h e List.mem_cons_self)
    have h2 := boxesF_16 q4 fun x hx => h x (List.mem_cons_of_mem _ hx)
    rw [List.map_cons, List.flatten_cons, List.length_append, List.length_cons]
    omega
theorem boxesB_60 : ∀ {x : List Sm}, (∀ s ∈ x, (boxesS s).length ≤ 60 * cnt s) → (boxesB x).length ≤ 60 * cnts x
  | [], _ => Nat.zero_le _
  | s :: x, h => by
    have h1 := h s List.mem_cons_self
    have h2 := boxesB_60 fun y hy => h y (List.mem_cons_of_mem _ hy)
    show (boxesS s ++ boxesB x).length ≤ 60 * (cnt s + cnts x)
    rw [List.length_append]
    omega
theorem boxesS_60 {bs : List Str} {ms : List (Str × Nat)} {q d : Nat} {l : Bool} {s : Sm} (q4 : q ≤ 4) (m3 : ∀ u ∈ ms, u.2 ≤ 3) (h : OkS bs ms q d l s) : (boxesS s).length ≤ 60 * cnt s := by
  induction h with
  | @set3 d l w b e hw hb he =>
    have := boxesE_16 q4 he
    show (b :: boxesE e).length ≤ 60 * 1
    rw [List.length_cons]; omega
  | @one d l w e hw he => have := boxesE_16 q4 he; show (boxesE e).length ≤ 60 * 1; omega
  | jump _ => exact Nat.zero_le _
  | @make d l b n es hb hn he =>
    have h1 := boxesF_16 q4 he
    have h2 : es.length ≤ 3 := m3 _ hn
    show (b :: (es.map boxesE).flatten).length ≤ 60 * 1
    rw [List.length_cons]; omega
  | @ifs d l e x y he hx hy i1 i2 =>
    have h0 := boxesE_16 q4 he
    have h1 := boxesB_60 i1
    have h2 := boxesB_60 i2
    show (boxesE e ++ boxesB x ++ boxesB y).length ≤ 60 * (1 + cnts x + cnts y)
    rw [List.length_append, List.length_append]; omega
  | @whl d l e x he hx i1 =>
    have h0 := boxesE_16 q4 he
    have h1 := boxesB_60 i1
    show (boxesE e ++ boxesB x).length ≤ 60 * (1 + cnts x)
    rw [List.length_append]; omega
  | @pull d l b w e f x hb hw he hf hx i1 =>
    have h0 := boxesE_16 q4 he
    have h2 := boxesE_16 q4 hf
    have h1 := boxesB_60 i1
    show (b :: boxesE e ++ (boxesE f ++ boxesB x)).length ≤ 60 * (1 + cnts x)
    rw [List.length_append, List.length_append, List.length_cons]; omega
  | @fin d l x z hx hz hn i1 i2 =>
    have h1 := boxesB_60 i1
    have h2 := boxesB_60 i2
    show (boxesB x ++ [] ++ ([] ++ boxesB z)).length ≤ 60 * (1 + cnts x + 0 + cnts z)
    rw [List.length_append, List.length_append, List.length_append, List.length_nil]; omega
  | @tri d l x y z c hc hx hy hz i1 i2 i3 =>
    have h1 := boxesB_60 i1
    have h2 := boxesB_60 i2
    have h3 := boxesB_60 i3
    show (boxesB x ++ [c] ++ (boxesB y ++ boxesB z)).length ≤ 60 * (1 + cnts x + cnts y + cnts z)
    rw [List.length_append, List.length_append, List.length_append, List.length_cons, List.length_nil]; omega
theorem boxesB_snoc (x : List Sm) (s : Sm) : boxesB (x ++ [s]) = boxesB x ++ boxesS s := by
  induction x with
  | nil => show boxesS s ++ [] = [] ++ boxesS s; simp
  | cons a x ih => show boxesS a ++ boxesB (x ++ [s]) = boxesS a ++ boxesB x ++ boxesS s; rw [ih, List.append_assoc]
theorem in_list {k : Str} (l : List Str) : inV (.str k) (l.map V.str) = decide (k ∈ l) := in_strs k l
theorem dp_sm_at {K : PySem.W.Frag} {H : Hp} : ∀ {x : List Sm} {vs : List V} {i : Nat} {y : V}, DpAll K H vs (smsD x) → vs[i]? = some y → ∃ s, x[i]? = some s ∧ Dp K H y (smD s)
  | [], _, i, y, h, e => by cases h; simp at e
  | s :: x, vs, i, y, h, e => by
    cases h with
    | cons h1 h2 =>
      cases i with
      | zero => exact ⟨s, rfl, by rw [← Option.some.inj e]; exact h1⟩
      | succ i =>
        rw [List.getElem?_cons_succ] at e
        obtain ⟨s2, e2, d2⟩ := dp_sm_at h2 e
        exact ⟨s2, by rw [List.getElem?_cons_succ]; exact e2, d2⟩
theorem cnts_take (x : List Sm) (i : Nat) : cnts (x.take i) ≤ cnts x := by
  have h := cnts_app (x.take i) (x.drop i)
  rw [List.take_append_drop] at h
  omega
theorem cnt_mem {x : List Sm} {s : Sm} (h : s ∈ x) : cnt s ≤ cnts x := by
  induction x with
  | nil => cases h
  | cons a x ih =>
    show cnt s ≤ cnt a + cnts x
    rcases List.mem_cons.mp h with rfl | h
    · omega
    · have := ih h; omega
theorem dp2 {K : PySem.W.Frag} {H : Hp} {vs : List V} {a b : PyData} (h : DpAll K H vs [a, b]) : ∃ x y, vs = [x, y] ∧ Dp K H x a ∧ Dp K H y b := by
  cases h with | cons h1 h => cases h with | cons h2 h => cases h; exact ⟨_, _, rfl, h1, h2⟩
theorem dp1 {K : PySem.W.Frag} {H : Hp} {vs : List V} {a : PyData} (h : DpAll K H vs [a]) : ∃ x, vs = [x] ∧ Dp K H x a := by
  cases h with | cons h1 h => cases h; exact ⟨_, rfl, h1⟩
theorem dp_str {K : PySem.W.Frag} {H : Hp} {v : V} {z : Str} (h : Dp K H v (.str z)) : v = .str z := by cases h; rfl
theorem dp5 {K : PySem.W.Frag} {H : Hp} {vs : List V} {a b c d e : PyData} (h : DpAll K H vs [a, b, c, d, e]) : ∃ x y z w u, vs = [x, y, z, w, u] ∧ Dp K H x a ∧ Dp K H y b ∧ Dp K H z c ∧ Dp K H w d ∧ Dp K H u e := by
  cases h with | cons h1 h => obtain ⟨y, z, w, u, rfl, h2, h3, h4, h5⟩ := dp4 h; exact ⟨_, _, _, _, _, rfl, h1, h2, h3, h4, h5⟩
theorem dp6 {K : PySem.W.Frag} {H : Hp} {vs : List V} {a b c d e f : PyData} (h : DpAll K H vs [a, b, c, d, e, f]) : ∃ x y z w u v, vs = [x, y, z, w, u, v] ∧ Dp K H x a ∧ Dp K H y b ∧ Dp K H z c ∧ Dp K H w d ∧ Dp K H u e ∧ Dp K H v f := by
  cases h with | cons h1 h => obtain ⟨y, z, w, u, v, rfl, h2, h3, h4, h5, h6⟩ := dp5 h; exact ⟨_, _, _, _, _, _, rfl, h1, h2, h3, h4, h5, h6⟩
theorem dp_ex_at {K : PySem.W.Frag} {H : Hp} : ∀ {x : List Ex} {vs : List V} {i : Nat} {y : V}, DpAll K H vs (x.map exD) → vs[i]? = some y → ∃ e, x[i]? = some e ∧ Dp K H y (exD e)
  | [], _, i, y, h, e => by cases h; simp at e
  | s :: x, vs, i, y, h, e => by
    cases h with
    | cons h1 h2 =>
      cases i with
      | zero => exact ⟨s, rfl, by rw [← Option.some.inj e]; exact h1⟩
      | succ i =>
        rw [List.getElem?_cons_succ] at e
        obtain ⟨s2, e2, d2⟩ := dp_ex_at h2 e
        exact ⟨s2, by rw [List.getElem?_cons_succ]; exact e2, d2⟩
end LK
set_option Elab.async false
set_option linter.all false
set_option maxRecDepth 100000
set_option maxHeartbeats 2000000
namespace LK
open PySem PySem.Spec PyProof.Rows L2 Evl
/-! ### the boxes that stand in a part -/
mutual
def bxD (k : Str) : PyData → List Str
  | .tuple ds =>
    if k = "body" then bxA "statement" ds else if k = "things" then bxA "expression" ds
    else if k = "statement" ∨ k = "expression" then bxR ((kindsD k (.tuple ds)).getD []) ds else []
  | .str z => if k = "box" ∨ k = "caught" then [z] else []
  | _ => []
def bxA (k : Str) : List PyData → List Str
  | [] => []
  | d :: r => bxD k d ++ bxA k r
def bxZ : List Str → List PyData → List Str
  | k :: ks, d :: r => bxD k d ++ bxZ ks r
  | _, _ => []
def bxR (ks : List Str) : List PyData → List Str
  | [] => []
  | _ :: r => bxZ ks r
end
abbrev bxP (p : Str × PyData) : List Str := bxD p.1 p.2
theorem bxA_eq (k : Str) : ∀ ds : List PyData, bxA k ds = (ds.map fun d => (k, d)).flatMap bxP
  | [] => by unfold bxA; rfl
  | d :: r => by
    unfold bxA
    rw [bxA_eq k r]; rfl
theorem bxZ_eq : ∀ (ks : List Str) (ds : List PyData), bxZ ks ds = (ks.zip ds).flatMap bxP
  | [], [] => by unfold bxZ; rfl
  | [], _ :: _ => by unfold bxZ; rfl
  | _ :: _, [] => by unfold bxZ; rfl
  | k :: ks, d :: r => by
    unfold bxZ
    rw [bxZ_eq ks r]; rfl
theorem bxR_eq (ks : List Str) (ds : List PyData) : bxR ks ds = (ks.zip ds.tail).flatMap bxP := by
  cases ds with
  | nil => unfold bxR; cases ks <;> rfl
  | cons d r => unfold bxR; rw [bxZ_eq]; rfl
theorem bxD_t (k : Str) (ds : List PyData) : bxD k (.tuple ds) = (if k = "body" then bxA "statement" ds else if k = "things" then bxA "expression" ds
    else if k = "statement" ∨ k = "expression" then bxR ((kindsD k (.tuple ds)).getD []) ds else []) := by unfold bxD; rfl
theorem bxD_s (k z : Str) : bxD k (.str z) = if k = "box" ∨ k = "caught" then [z] else [] := by unfold bxD; rfl
/-- the box that a part is itself -/
def hdB (k : Str) : PyData → List Str
  | .str z => if k = "box" ∨ k = "caught" then [z] else []
  | _ => []
theorem bxD_step (k : Str) (d : PyData) : bxD k d = hdB k d ++ (insideD k d).flatMap bxP := by
  cases d with
  | tuple ds =>
    rw [bxD_t, in_t]
    show _ = [] ++ _
    rw [List.nil_append]
    by_cases h1 : k = "body"
    · rw [if_pos h1, if_pos h1, bxA_eq]
    rw [if_neg h1, if_neg h1]
    by_cases h2 : k = "things"
    · rw [if_pos h2, if_pos h2, bxA_eq]
    rw [if_neg h2, if_neg h2]
    by_cases h3 : k = "statement" ∨ k = "expression"
    · rw [if_pos h3, if_pos h3, bxR_eq]
    · rw [if_neg h3, if_neg h3]; rfl
  | str z => rw [bxD_s]; show _ = (if _ then _ else _) ++ []; rw [List.append_nil]
  | none => unfold bxD; rfl
  | bool b => unfold bxD; rfl
  | int i => unfold bxD; rfl
  | list m => unfold bxD; rfl
  | dict m => unfold bxD; rfl
theorem bx_expr (z : Str) (r : List PyData) : bxD "expression" (.tuple (.str z :: r)) = bxZ ((exprK.lookup z).getD []) r := by
  rw [bxD_t, if_neg (by decide +kernel), if_neg (by decide +kernel), if_pos (.inr rfl)]
  have e : kindsD "expression" (.tuple (.str z :: r)) = exprK.lookup z := by
    show (if ("expression" : Str) = "statement" then stmK.lookup z else exprK.lookup z) = _
    rw [if_neg (by decide +kernel)]
  rw [e]
  unfold bxR; rfl
theorem bx_stm (z : Str) (r : List PyData) : bxD "statement" (.tuple (.str z :: r)) = bxZ ((stmK.lookup z).getD []) r := by
  rw [bxD_t, if_neg (by decide +kernel), if_neg (by decide +kernel), if_pos (.inl rfl)]
  have e : kindsD "statement" (.tuple (.str z :: r)) = stmK.lookup z := by
    show (if ("statement" : Str) = "statement" then stmK.lookup z else exprK.lookup z) = _
    rw [if_pos rfl]
  rw [e]
  unfold bxR; rfl
theorem bx_body (ds : List PyData) : bxD "body" (.tuple ds) = bxA "statement" ds := by rw [bxD_t, if_pos rfl]
theorem bx_things (ds : List PyData) : bxD "things" (.tuple ds) = bxA "expression" ds := by rw [bxD_t, if_neg (by decide +kernel), if_pos rfl]
theorem bx_box (z : Str) : bxD "box" (.str z) = [z] := by rw [bxD_s, if_pos (.inl rfl)]
theorem bx_caught (z : Str) : bxD "caught" (.str z) = [z] := by rw [bxD_s, if_pos (.inr rfl)]
theorem bx_caught0 : bxD "caught" .none = [] := by unfold bxD; rfl
theorem bx_way (z : Str) : bxD "way" (.str z) = [] := by rw [bxD_s, if_neg (by decide +kernel)]
theorem bx_fun (z : Str) : bxD "function" (.str z) = [] := by rw [bxD_s, if_neg (by decide +kernel)]
theorem bx_num (n : Int) : bxD "number" (.int n) = [] := by unfold bxD; rfl
theorem bxZ_c (k : Str) (ks : List Str) (d : PyData) (r : List PyData) : bxZ (k :: ks) (d :: r) = bxD k d ++ bxZ ks r := by
  rw [bxZ]
theorem bxZ_n (ks : List Str) : bxZ ks [] = [] := by cases ks <;> (unfold bxZ; rfl)
theorem bx_ex {bs : List Str} {d : Nat} {e : Ex} (h : OkE bs d e) : bxD "expression" (exD e) = boxesE e := by
  induction h with
  | num _ _ =>
    show bxD "expression" (.tuple (.str "number" :: [_])) = _
    rw [bx_expr, show exprK.lookup ("number" : Str) = some (["number"] : List Str) by decide +kernel]
    show bxZ ["number"] _ = _
    rw [bxZ_c, bxZ_n, bx_num]; rfl
  | non =>
    show bxD "expression" (.tuple (.str "none" :: [])) = _
    rw [bx_expr, bxZ_n]; rfl
  | box hb =>
    show bxD "expression" (.tuple (.str "box" :: [_])) = _
    rw [bx_expr, show exprK.lookup ("box" : Str) = some (["box"] : List Str) by decide +kernel]
    show bxZ ["box"] _ = _
    rw [bxZ_c, bxZ_n, bx_box]; rfl
  | @op d w a b hw ha hb i1 i2 =>
    show bxD "expression" (.tuple (.str w :: [_, _])) = _
    have e : exprK.lookup w = some (["expression", "expression"] : List Str) := by
      have h : ∀ z ∈ opW, exprK.lookup z = some (["expression", "expression"] : List Str) := by decide +kernel
      exact h w hw
    rw [bx_expr, e]
    show bxZ ["expression", "expression"] _ = _
    rw [bxZ_c, bxZ_c, bxZ_n, i1, i2, List.append_nil]; rfl
theorem bx_exs {bs : List Str} {d : Nat} : ∀ {es : List Ex}, (∀ e ∈ es, OkE bs d e) → bxA "expression" (es.map exD) = (es.map boxesE).flatten
  | [], _ => by unfold bxA; rfl
  | e :: es, h => by
    show bxA "expression" (exD e :: es.map exD) = _
    rw [bxA, bx_ex (h e List.mem_cons_self), bx_exs fun x hx => h x (List.mem_cons_of_mem _ hx)]; rfl
theorem bx_sms {x : List Sm} (h : ∀ s ∈ x, bxD "statement" (smD s) = boxesS s) : bxD "body" (bodyD x) = boxesB x := by
  show bxD "body" (.tuple (smsD x)) = _
  rw [bx_body]
  induction x with
  | nil => show bxA _ [] = _; unfold bxA; rfl
  | cons s r ih =>
    show bxA "statement" (smD s :: smsD r) = boxesS s ++ boxesB r
    rw [bxA, h s List.mem_cons_self, ih fun y hy => h y (List.mem_cons_of_mem _ hy)]
theorem bx_opt (c : Option Str) : bxD "caught" (optD c) = c.toList := by
  cases c with
  | none => exact bx_caught0
  | some z => exact bx_caught z
theorem bx_sm {bs : List Str} {ms : List (Str × Nat)} {q d : Nat} {l : Bool} {s : Sm} (h : OkS bs ms q d l s) : bxD "statement" (smD s) = boxesS s := by
  induction h with
  | @set3 d l w b e hw hb he =>
    show bxD "statement" (.tuple (.str w :: [_, _])) = _
    have e : stmK.lookup w = some (["box", "expression"] : List Str) := by
      have h : ∀ z ∈ (["set", "give", "all"] : List Str), stmK.lookup z = some (["box", "expression"] : List Str) := by decide +kernel
      exact h w hw
    rw [bx_stm, e]
    show bxZ ["box", "expression"] _ = _
    rw [bxZ_c, bxZ_c, bxZ_n, bx_box, bx_ex he, List.append_nil]
    show _ = b :: boxesE _; rfl
  | @one d l w e hw he =>
    show bxD "statement" (.tuple (.str w :: [_])) = _
    have e : stmK.lookup w = some (["expression"] : List Str) := by
      have h : ∀ z ∈ (["say", "return", "close", "throw"] : List Str), stmK.lookup z = some (["expression"] : List Str) := by decide +kernel
      exact h w hw
    rw [bx_stm, e]
    show bxZ ["expression"] _ = _
    rw [bxZ_c, bxZ_n, bx_ex he, List.append_nil]
    show _ = boxesE _; rfl
  | jump hw => show bxD "statement" (.tuple (.str _ :: [])) = _; rw [bx_stm, bxZ_n]; rfl
  | make hb hn he =>
    show bxD "statement" (.tuple (.str "make" :: [_, _, _])) = _
    rw [bx_stm, show stmK.lookup ("make" : Str) = some (["box", "function", "things"] : List Str) by decide +kernel]
    show bxZ ["box", "function", "things"] _ = _
    rw [bxZ_c, bxZ_c, bxZ_c, bxZ_n, bx_box, bx_fun, bx_things, bx_exs he, List.append_nil]; rfl
  | ifs he hx hy i1 i2 =>
    show bxD "statement" (.tuple (.str "if" :: [_, bodyD _, bodyD _])) = _
    rw [bx_stm, show stmK.lookup ("if" : Str) = some (["expression", "body", "body"] : List Str) by decide +kernel]
    show bxZ ["expression", "body", "body"] _ = _
    rw [bxZ_c, bxZ_c, bxZ_c, bxZ_n, bx_ex he, bx_sms i1, bx_sms i2, List.append_nil, ← List.append_assoc]
    show _ = boxesE _ ++ boxesB _ ++ boxesB _; rfl
  | whl he hx i1 =>
    show bxD "statement" (.tuple (.str "while" :: [_, bodyD _])) = _
    rw [bx_stm, show stmK.lookup ("while" : Str) = some (["expression", "body"] : List Str) by decide +kernel]
    show bxZ ["expression", "body"] _ = _
    rw [bxZ_c, bxZ_c, bxZ_n, bx_ex he, bx_sms i1, List.append_nil]
    show _ = boxesE _ ++ boxesB _; rfl
  | pull hb hw he hf hx i1 =>
    show bxD "statement" (.tuple (.str "pull" :: [_, _, _, _, bodyD _])) = _
    rw [bx_stm, show stmK.lookup ("pull" : Str) = some (["box", "way", "expression", "expression", "body"] : List Str) by decide +kernel]
    show bxZ ["box", "way", "expression", "expression", "body"] _ = _
    rw [bxZ_c, bxZ_c, bxZ_c, bxZ_c, bxZ_c, bxZ_n, bx_box, bx_way, bx_ex he, bx_ex hf, bx_sms i1, List.append_nil]; rfl
  | @fin d l x z hx hz hn i1 i2 =>
    show bxD "statement" (.tuple (.str "try" :: [bodyD _, .none, .tuple [], bodyD _])) = _
    rw [bx_stm, show stmK.lookup ("try" : Str) = some (["body", "caught", "body", "body"] : List Str) by decide +kernel]
    show bxZ ["body", "caught", "body", "body"] _ = _
    rw [bxZ_c, bxZ_c, bxZ_c, bxZ_c, bxZ_n, bx_sms i1, bx_caught0, bx_sms i2, bx_body, List.append_nil]
    show _ = boxesB x ++ [] ++ ([] ++ boxesB z)
    unfold bxA
    simp
  | @tri d l x y z c hc hx hy hz i1 i2 i3 =>
    show bxD "statement" (.tuple (.str "try" :: [bodyD _, .str _, bodyD _, bodyD _])) = _
    rw [bx_stm, show stmK.lookup ("try" : Str) = some (["body", "caught", "body", "body"] : List Str) by decide +kernel]
    show bxZ ["body", "caught", "body", "body"] _ = _
    rw [bxZ_c, bxZ_c, bxZ_c, bxZ_c, bxZ_n, bx_sms i1, bx_caught, bx_sms i2, bx_sms i3, List.append_nil]
    show _ = boxesB x ++ [c] ++ (boxesB y ++ boxesB z)
    simp
/-! each once, as they first stand -/
def addS (acc : List Str) (z : Str) : List Str := if z ∈ acc then acc else acc ++ [z]
def ded (acc zs : List Str) : List Str := zs.foldl addS acc
theorem ded_app (acc a b : List Str) : ded acc (a ++ b) = ded (ded acc a) b := List.foldl_append ..
theorem put_kvN (acc : List Str) (z : Str) : putK (kvN acc) (.inr z : Key) (.bl true) = kvN (addS acc z) := by
  unfold addS
  by_cases m : z ∈ acc
  · rw [if_pos m]
    have a : ((kvN acc).any fun kv => decide (kv.fst = (.inr z : Key))) = true := by
      rw [List.any_eq_true]
      exact ⟨((.inr z : Key), .bl true), List.mem_map.mpr ⟨z, m, rfl⟩, decide_eq_true rfl⟩
    unfold putK
    rw [a]
    show List.map _ (kvN acc) = kvN acc
    unfold kvN
    rw [List.map_map]
    refine List.map_congr_left fun y hy => ?_
    show (if ((.inr y : Key) = .inr z) then _ else _) = _
    split <;> rfl
  · rw [if_neg m]
    have ev : valV (kvN acc) (.inr z : Key) = none := by
      have h := val_kvN z acc
      rw [decide_eq_false m] at h
      cases e : valV (kvN acc) (.inr z : Key) with
      | none => rfl
      | some v => rw [e] at h; cases h
    rw [putK_new ev, ← kvN_snoc]
theorem addS_len (acc : List Str) (z : Str) : (addS acc z).length ≤ acc.length + 1 := by
  unfold addS
  split
  · exact Nat.le_succ _
  · rw [List.length_append]; exact Nat.le_refl _
theorem keys_kvN (acc : List Str) : (kvN acc).map (fun kv => kV kv.1) = acc.map V.str := by
  unfold kvN
  rw [List.map_map]; rfl
/-- what waits: parts that are right -/
def okP (p : Str × PyData) : Prop := smallD p.2 = true ∧ ∃ (cs : List (Str × Int)) (l : Bool), okD cs p.1 l p.2 = true
theorem okP_part {p : Str × PyData} (h : okP p) : isPartD p.1 p.2 = true := by
  obtain ⟨_, cs, l, h⟩ := h
  rw [okD_step] at h
  exact (Bool.and_eq_true_iff.mp h).1
theorem okP_in {k : Str} {d : PyData} (h : okP (k, d)) : ∀ p ∈ insideD k d, okP p := by
  obtain ⟨sm, cs, l, h⟩ := h
  intro p hp
  refine ⟨small_inside sm p hp, cs, loopD k l d, ?_⟩
  have h' : okD cs k l d = true := h
  rw [okD_step] at h'
  have h2 := (Bool.and_eq_true_iff.mp (Bool.and_eq_true_iff.mp h').2).2
  exact List.all_eq_true.mp h2 p hp
theorem okP_box {k : Str} {d : PyData} (h : okP (k, d)) (hk : k = "box" ∨ k = "caught") (hn : d ≠ .none) : ∃ z, d = .str z ∧ hdB k d = [z] := by
  have hp := okP_part h
  have hp' : isPartD k d = true := hp
  unfold isPartD at hp'
  have d1 : ¬ (k = "statement" ∨ k = "expression") := by rcases hk with rfl | rfl <;> decide +kernel
  have d2 : ¬ (k = "body" ∨ k = "things") := by rcases hk with rfl | rfl <;> decide +kernel
  have d3 : ¬ k = "number" := by rcases hk with rfl | rfl <;> decide +kernel
  have d4 : ¬ k = "way" := by rcases hk with rfl | rfl <;> decide +kernel
  rw [if_neg d1, if_neg d2, if_neg d3, if_neg d4, notNone hn, Bool.and_false, Bool.false_or] at hp'
  obtain ⟨z, rfl⟩ := name_str hp'
  exact ⟨z, rfl, if_pos hk⟩
theorem hdB_no {k : Str} {d : PyData} (h : ¬ (k = "box" ∨ k = "caught")) : hdB k d = [] := by
  cases d with
  | str z => exact if_neg h
  | _ => rfl
end LK
set_option Elab.async false
set_option linter.all false
set_option maxRecDepth 100000
set_option maxHeartbeats 2000000
namespace LK
open PySem PySem.Spec PyProof.Rows L2 Evl
/-! ### drawn functions as data that a book is made of -/
def fuF (f : Fu) : FnD := ⟨.str f.n, .tuple (f.ps.map PyData.str), bodyD f.b⟩
theorem nm_all : ∀ {zs : List Str}, (∀ z ∈ zs, Nm z) → (zs.map PyData.str).all nameD = true
  | [], _ => rfl
  | z :: zs, h => by
    show (nameOk z && (zs.map PyData.str).all nameD) = true
    rw [Nm.nameOk (h z List.mem_cons_self), nm_all fun y hy => h y (List.mem_cons_of_mem _ hy)]; rfl
theorem strD_map : ∀ zs : List Str, (zs.map PyData.str).map strD = zs
  | [] => rfl
  | z :: zs => by show z :: (zs.map PyData.str).map strD = _; rw [strD_map zs]
theorem head_fu {ms : List (Str × Nat)} {q d L : Nat} {f : Fu} (h : OkF ms q d L f) : headD (fuF f) = true := by
  show (nameOk f.n && ((f.ps.map PyData.str).all nameD && decide (((f.ps.map PyData.str).map strD).Nodup))) = true
  rw [Nm.nameOk h.n, nm_all h.pn, strD_map, decide_eq_true h.nd]; rfl
def fuC (f : Fu) : Str × Int := (f.n, (f.ps.length : Int))
theorem look_none : ∀ {cs : List (Str × Int)} {n : Str}, n ∉ cs.map (·.1) → cs.lookup n = none
  | [], _, _ => rfl
  | (m, i) :: cs, n, h => by
    have h1 : ¬ n = m := fun e => h (by rw [e]; exact List.mem_cons_self)
    have e2 : (n == m) = false := beq_eq_false_iff_ne.mpr h1
    have : ((m, i) :: cs).lookup n = cs.lookup n := by simp [List.lookup, e2]
    rw [this]
    exact look_none fun k => h (List.mem_cons_of_mem _ k)
theorem look_mem : ∀ {cs : List (Str × Int)} {n : Str} {i : Int}, (cs.map (·.1)).Nodup → (n, i) ∈ cs → cs.lookup n = some i
  | [], _, _, _, h => by cases h
  | (m, j) :: cs, n, i, nd, h => by
    obtain ⟨n1, n2⟩ := List.nodup_cons.mp nd
    rcases List.mem_cons.mp h with e | h
    · cases e
      simp [List.lookup]
    · have h1 : ¬ n = m := fun e => n1 (by rw [← e]; exact List.mem_map.mpr ⟨_, h, rfl⟩)
      have e2 : (n == m) = false := beq_eq_false_iff_ne.mpr h1
      have : ((m, j) :: cs).lookup n = cs.lookup n := by simp [List.lookup, e2]
      rw [this]
      exact look_mem n2 h
theorem cnt_fus {ms : List (Str × Nat)} {q d L : Nat} : ∀ {fs : List Fu} {cs : List (Str × Int)}, (∀ f ∈ fs, OkF ms q d L f) → ((cs.map (·.1)) ++ fs.map (·.n)).Nodup → ((fs.map fuF).map some).foldl cntStep cs = cs ++ fs.map fuC
  | [], cs, _, _ => by show cs = cs ++ []; rw [List.append_nil]
  | f :: fs, cs, h, nd => by
    have hf := h f List.mem_cons_self
    have e1 : cs.lookup f.n = none := by
      refine look_none fun m => ?_
      rw [List.map_cons] at nd
      exact (List.nodup_append.mp nd).2.2 _ m _ List.mem_cons_self rfl
    have e : cntStep cs (some (fuF f)) = cs ++ [fuC f] := by
      show (if headD (fuF f) && !(cs.lookup f.n).isSome then cs ++ [(f.n, ((f.ps.map PyData.str).length : Int))] else cs) = _
      rw [head_fu hf, e1, List.length_map]; rfl
    show ((fs.map fuF).map some).foldl cntStep (cntStep cs (some (fuF f))) = _
    rw [e, cnt_fus (fun g hg => h g (List.mem_cons_of_mem _ hg))]
    · rw [List.append_assoc]; rfl
    · rw [List.map_append, List.append_assoc]
      rw [List.map_cons] at nd
      exact nd
theorem counts_fus {most q d L : Nat} {fs : List Fu} (h : OkB most q d L fs) : countsD ((fs.map fuF).map some) = fs.map fuC := by
  have e := cnt_fus (cs := []) h.ok (by show (fs.map (·.n)).Nodup; exact h.nd)
  exact e
theorem names_fuC (fs : List Fu) : (fs.map fuC).map (·.1) = fs.map (·.n) := by rw [List.map_map]; rfl
theorem body_fu {most q d L : Nat} {fs : List Fu} (h : OkB most q d L fs) {f : Fu} (hf : f ∈ fs) : okD (fs.map fuC) "body" false (bodyD f.b) = true := by
  obtain ⟨bs, _, _, bn, _, ok⟩ := (h.ok f hf).bs
  have mn : ∀ u ∈ fs.map fuM, Nm u.1 := fun u hu => by
    obtain ⟨g, hg, rfl⟩ := List.mem_map.mp hu
    exact (h.ok g hg).n
  have mc : ∀ u ∈ fs.map fuM, (fs.map fuC).lookup u.1 = some (u.2 : Int) := fun u hu => by
    obtain ⟨g, hg, rfl⟩ := List.mem_map.mp hu
    exact look_mem (by rw [names_fuC]; exact h.nd) (List.mem_map.mpr ⟨g, hg, rfl⟩)
  exact ok_sms fun s hs => ok_sm bn mn mc (ok s hs)
theorem wrong_fus {ms : List (Str × Nat)} {q d L : Nat} {cs : List (Str × Int)} : ∀ {fs : List Fu} {i : Nat} {ah : List Str}, (∀ f ∈ fs, OkF ms q d L f) → (∀ f ∈ fs, okD cs "body" false (bodyD f.b) = true) → (ah ++ fs.map (·.n)).Nodup → i + fs.length ≤ 6 →
    wrongAt cs i ah ((fs.map fuF).map some) = none
  | [], _, _, _, _, _, _ => rfl
  | f :: fs, i, ah, h, hb, nd, hl => by
    have hn : f.n ∉ ah := fun m => by
      rw [List.map_cons] at nd
      exact (List.nodup_append.mp nd).2.2 _ m _ List.mem_cons_self rfl
    rw [List.length_cons] at hl
    have e : badAt cs i ah (some (fuF f)) = false := by
      show ((decide (i = 6) || !headD (fuF f) || decide (f.n ∈ ah)) || !okD cs "body" false (bodyD f.b)) = false
      rw [head_fu (h f List.mem_cons_self), hb f List.mem_cons_self, decide_eq_false hn, decide_eq_false (by omega)]; rfl
    show (if badAt cs i ah (some (fuF f)) then some i else wrongAt cs (i + 1) (ah ++ [f.n]) ((fs.map fuF).map some)) = none
    rw [e, if_neg Bool.false_ne_true]
    refine wrong_fus (fun g hg => h g (List.mem_cons_of_mem _ hg)) (fun g hg => hb g (List.mem_cons_of_mem _ hg)) ?_ (by omega)
    rw [List.append_assoc]
    rw [List.map_cons] at nd
    exact nd
theorem good_fus {most q d L : Nat} {fs : List Fu} (h : OkB most q d L fs) (m6 : most ≤ 6) : wrongD ((fs.map fuF).map some) = none := by
  unfold wrongD
  have hne : ((fs.map fuF).map some) ≠ [] := fun e => h.f0 (List.map_eq_nil_iff.mp (List.map_eq_nil_iff.mp e))
  rw [if_neg hne, counts_fus h]
  have := h.fl
  exact wrong_fus h.ok (fun f hf => body_fu h hf) (by show (fs.map (·.n)).Nodup; exact h.nd) (by omega)
/-! how small -/
theorem small_nm {z : Str} (h : Nm z) : smallD (.str z) = true := decide_eq_true (Nat.le_trans h.l8 (by decide))
theorem small_nms : ∀ {zs : List Str}, (∀ z ∈ zs, Nm z) → smallL (zs.map PyData.str) = true
  | [], _ => rfl
  | z :: zs, h => by
    show (smallD (.str z) && smallL (zs.map PyData.str)) = true
    rw [small_nm (h z List.mem_cons_self), small_nms fun y hy => h y (List.mem_cons_of_mem _ hy)]; rfl
def bE : Nat → Nat
  | 0 => 3
  | d + 1 => 2 + 2 * bE d
theorem bE_4 {q : Nat} (h : q ≤ 4) : bE q ≤ 78 := by
  match q, h with
  | 0, _ => decide
  | 1, _ => decide
  | 2, _ => decide
  | 3, _ => decide
  | 4, _ => decide
theorem bE_3 : ∀ d : Nat, 3 ≤ bE d
  | 0 => Nat.le_refl _
  | d + 1 => by
    have := bE_3 d
    show 3 ≤ 2 + 2 * bE d
    omega
theorem small_ex {bs : List Str} (bn : ∀ z ∈ bs, Nm z) {d : Nat} {e : Ex} (h : OkE bs d e) : smallD (exD e) = true ∧ sizeD (exD e) ≤ bE d := by
  induction h with
  | @num d n _ _ => exact ⟨by show (smallD (.str "number") && (true && true)) = true; rw [show smallD (.str "number") = true by decide +kernel]; rfl, bE_3 d⟩
  | @non d => exact ⟨by show (smallD (.str "none") && true) = true; rw [show smallD (.str "none") = true by decide +kernel]; rfl, Nat.le_trans (show 1 + (1 + 0) ≤ 3 by decide) (bE_3 d)⟩
  | @box d b hb => exact ⟨by show (smallD (.str "box") && (smallD (.str b) && true)) = true; rw [show smallD (.str "box") = true by decide +kernel, small_nm (bn b hb)]; rfl, bE_3 d⟩
  | @op d w a b hw _ _ i1 i2 =>
    have hw2 : ∀ z ∈ opW, smallD (.str z) = true := by decide +kernel
    refine ⟨?_, ?_⟩
    · show (smallD (.str w) && (smallD (exD a) && (smallD (exD b) && true))) = true
      rw [hw2 w hw, i1.1, i2.1]; rfl
    · show 1 + (1 + (sizeD (exD a) + (sizeD (exD b) + 0))) ≤ 2 + 2 * bE d
      have := i1.2
      have := i2.2
      omega
theorem small_exs {bs : List Str} (bn : ∀ z ∈ bs, Nm z) {q : Nat} (q4 : q ≤ 4) : ∀ {es : List Ex}, (∀ e ∈ es, OkE bs q e) → smallL (es.map exD) = true ∧ sizeL (es.map exD) ≤ 78 * es.length
  | [], _ => ⟨rfl, Nat.le_refl _⟩
  | e :: es, h => by
    obtain ⟨h1, h2⟩ := small_ex bn (h e List.mem_cons_self)
    obtain ⟨h3, h4⟩ := small_exs bn q4 fun x hx => h x (List.mem_cons_of_mem _ hx)
    have := bE_4 q4
    refine ⟨?_, ?_⟩
    · show (smallD (exD e) && smallL (es.map exD)) = true
      rw [h1, h3]; rfl
    · show sizeD (exD e) + sizeL (es.map exD) ≤ 78 * (es.length + 1)
      omega
theorem small_sms {x : List Sm} (h : ∀ s ∈ x, smallD (smD s) = true ∧ sizeD (smD s) ≤ 250 * cnt s) : smallL (smsD x) = true ∧ sizeL (smsD x) ≤ 250 * cnts x := by
  induction x with
  | nil => exact ⟨rfl, Nat.le_refl _⟩
  | cons s r ih =>
    obtain ⟨h1, h2⟩ := h s List.mem_cons_self
    obtain ⟨h3, h4⟩ := ih fun y hy => h y (List.mem_cons_of_mem _ hy)
    refine ⟨?_, ?_⟩
    · show (smallD (smD s) && smallL (smsD r)) = true
      rw [h1, h3]; rfl
    · show sizeD (smD s) + sizeL (smsD r) ≤ 250 * (cnt s + cnts r)
      omega
theorem small_sm {bs : List Str} {ms : List (Str × Nat)} {q d : Nat} {l : Bool} {s : Sm} (bn : ∀ z ∈ bs, Nm z) (mn : ∀ u ∈ ms, Nm u.1) (m3 : ∀ u ∈ ms, u.2 ≤ 3) (q4 : q ≤ 4) (h : OkS bs ms q d l s) : smallD (smD s) = true ∧ sizeD (smD s) ≤ 250 * cnt s := by
  have sx : ∀ {e : Ex}, OkE bs q e → smallD (exD e) = true ∧ sizeD (exD e) ≤ 78 := fun he => ⟨(small_ex bn he).1, Nat.le_trans (small_ex bn he).2 (bE_4 q4)⟩
  have sw : ∀ z ∈ (["set", "give", "all", "say", "return", "close", "throw", "break", "again", "make", "if", "while", "pull", "try", "ask", "toss"] : List Str), smallD (.str z) = true := by decide +kernel
  induction h with
  | @set3 d l w b e hw hb he =>
    obtain ⟨a1, a2⟩ := sx he
    have hw' : smallD (.str w) = true := sw w (by revert hw; revert w; decide +kernel)
    refine ⟨?_, ?_⟩
    · show (smallD (.str w) && (smallD (.str b) && (smallD (exD e) && true))) = true
      rw [hw', small_nm (bn b hb), a1]; rfl
    · show 1 + (1 + (1 + (sizeD (exD e) + 0))) ≤ 250 * 1
      omega
  | @one d l w e hw he =>
    obtain ⟨a1, a2⟩ := sx he
    have hw' : smallD (.str w) = true := sw w (by revert hw; revert w; decide +kernel)
    refine ⟨?_, ?_⟩
    · show (smallD (.str w) && (smallD (exD e) && true)) = true
      rw [hw', a1]; rfl
    · show 1 + (1 + (sizeD (exD e) + 0)) ≤ 250 * 1
      omega
  | @jump d w hw =>
    have hw' : smallD (.str w) = true := sw w (by revert hw; revert w; decide +kernel)
    refine ⟨?_, by show 1 + (1 + 0) ≤ 250 * 1; decide⟩
    show (smallD (.str w) && true) = true
    rw [hw']; rfl
  | @make d l b n es hb hn he =>
    obtain ⟨a1, a2⟩ := small_exs bn q4 he
    have := m3 _ hn
    refine ⟨?_, ?_⟩
    · show (smallD (.str "make") && (smallD (.str b) && (smallD (.str n) && (smallL (es.map exD) && true)))) = true
      rw [sw _ (by decide +kernel), small_nm (bn b hb), small_nm (mn _ hn), a1]; rfl
    · show 1 + (1 + (1 + (1 + ((1 + sizeL (es.map exD)) + 0)))) ≤ 250 * 1
      have h3 : es.length ≤ 3 := this
      omega
  | @ifs d l e x y he hx hy i1 i2 =>
    obtain ⟨a1, a2⟩ := sx he
    obtain ⟨b1, b2⟩ := small_sms i1
    obtain ⟨c1, c2⟩ := small_sms i2
    refine ⟨?_, ?_⟩
    · show (smallD (.str "if") && (smallD (exD e) && (smallL (smsD x) && (smallL (smsD y) && true)))) = true
      rw [sw _ (by decide +kernel), a1, b1, c1]; rfl
    · show 1 + (1 + (sizeD (exD e) + ((1 + sizeL (smsD x)) + ((1 + sizeL (smsD y)) + 0)))) ≤ 250 * (1 + cnts x + cnts y)
      omega
  | @whl d l e x he hx i1 =>
    obtain ⟨a1, a2⟩ := sx he
    obtain ⟨b1, b2⟩ := small_sms i1
    refine ⟨?_, ?_⟩
    · show (smallD (.str "while") && (smallD (exD e) && (smallL (smsD x) && true))) = true
      rw [sw _ (by decide +kernel), a1, b1]; rfl
    · show 1 + (1 + (sizeD (exD e) + ((1 + sizeL (smsD x)) + 0))) ≤ 250 * (1 + cnts x)
      omega
  | @pull d l b w e f x hb hw he hf hx i1 =>
    obtain ⟨a1, a2⟩ := sx he
    obtain ⟨f1, f2⟩ := sx hf
    obtain ⟨b1, b2⟩ := small_sms i1
    have hw' : smallD (.str w) = true := sw w (by revert hw; revert w; decide +kernel)
    refine ⟨?_, ?_⟩
    · show (smallD (.str "pull") && (smallD (.str b) && (smallD (.str w) && (smallD (exD e) && (smallD (exD f) && (smallL (smsD x) && true)))))) = true
      rw [sw _ (by decide +kernel), small_nm (bn b hb), hw', a1, f1, b1]; rfl
    · show 1 + (1 + (1 + (1 + (sizeD (exD e) + (sizeD (exD f) + ((1 + sizeL (smsD x)) + 0)))))) ≤ 250 * (1 + cnts x)
      omega
  | @fin d l x z hx hz hn i1 i2 =>
    obtain ⟨a1, a2⟩ := small_sms i1
    obtain ⟨b1, b2⟩ := small_sms i2
    refine ⟨?_, ?_⟩
    · show (smallD (.str "try") && (smallL (smsD x) && (true && (true && (smallL (smsD z) && true))))) = true
      rw [sw _ (by decide +kernel), a1, b1]; rfl
    · show 1 + (1 + ((1 + sizeL (smsD x)) + (1 + ((1 + 0) + ((1 + sizeL (smsD z)) + 0))))) ≤ 250 * (1 + cnts x + 0 + cnts z)
      omega
  | @tri d l x y z c hc hx hy hz i1 i2 i3 =>
    obtain ⟨a1, a2⟩ := small_sms i1
    obtain ⟨b1, b2⟩ := small_sms i2
    obtain ⟨c1, c2⟩ := small_sms i3
    refine ⟨?_, ?_⟩
    · show (smallD (.str "try") && (smallL (smsD x) && (smallD (.str c) && (smallL (smsD y) && (smallL (smsD z) && true))))) = true
      rw [sw _ (by decide +kernel), a1, small_nm (bn c hc), b1, c1]; rfl
    · show 1 + (1 + ((1 + sizeL (smsD x)) + (1 + ((1 + sizeL (smsD y)) + ((1 + sizeL (smsD z)) + 0))))) ≤ 250 * (1 + cnts x + cnts y + cnts z)
      omega
theorem fnS_fu {most q d L : Nat} {fs : List Fu} (h : OkB most q d L fs) (q4 : q ≤ 4) (L30 : L ≤ 70) {f : Fu} (hf : f ∈ fs) : FnS (fuF f) := by
  have ok := h.ok f hf
  obtain ⟨bs, _, _, bn, _, os⟩ := ok.bs
  have mn : ∀ u ∈ fs.map fuM, Nm u.1 := fun u hu => by
    obtain ⟨g, hg, rfl⟩ := List.mem_map.mp hu
    exact (h.ok g hg).n
  have m3 : ∀ u ∈ fs.map fuM, u.2 ≤ 3 := fun u hu => by
    obtain ⟨g, hg, rfl⟩ := List.mem_map.mp hu
    exact (h.ok g hg).p3
  obtain ⟨b1, b2⟩ := small_sms (x := f.b) fun s hs => small_sm bn mn m3 q4 (os s hs)
  have := ok.c
  refine ⟨small_nm ok.n, small_nms ok.pn, b1, ?_, ?_⟩
  · show 1 + sizeL (smsD f.b) ≤ 20000
    omega
  · show (f.ps.map PyData.str).length ≤ 1000
    rw [List.length_map]
    exact Nat.le_trans ok.p3 (by decide)
/-! the text of a tuple of names -/
theorem shown_strs (zs : List Str) : (PyData.tuple (zs.map PyData.str)).shown = tupleText (zs.map reprText) := by
  have e : ∀ l : List Str, PyData.shownAll (l.map PyData.str) = l.map reprText := by
    intro l
    induction l with
    | nil => rfl
    | cons z l ih => show reprText z :: PyData.shownAll (l.map PyData.str) = _; rw [ih]; rfl
  show tupleText (PyData.shownAll (zs.map PyData.str)) = _
  rw [e]
theorem cost_nms : ∀ {zs : List Str}, (∀ z ∈ zs, Nm z) → fmtCost zs ≤ 84 * zs.length
  | [], _ => Nat.le_refl _
  | z :: zs, h => by
    have h1 := (h z List.mem_cons_self).l8
    have h2 := cost_nms fun y hy => h y (List.mem_cons_of_mem _ hy)
    rw [fmtCost_cons, List.length_cons]
    omega
theorem shown_len {zs : List Str} (h : ∀ z ∈ zs, Nm z) : (PyData.tuple (zs.map PyData.str)).shown.length ≤ 84 * zs.length + 2 := by
  rw [shown_strs]
  have h1 := fmt_text (zs.map reprText)
  have h2 := fmt_piled zs fun y hy c hc => Nat.lt_trans ((h y hy).c128 c hc) (by decide)
  have h3 := cost_nms h
  omega
theorem showable_strs (zs : List Str) : (PyData.tuple (zs.map PyData.str)).showable = true := by
  show PyData.showableAll (zs.map PyData.str) = true
  induction zs with
  | nil => rfl
  | cons z zs ih => show (true && PyData.showableAll (zs.map PyData.str)) = true; rw [ih]; rfl
theorem depth_strs (zs : List Str) : (PyData.tuple (zs.map PyData.str)).depth ≤ 60 := by
  have e : ∀ l : List Str, PyData.depthAll (l.map PyData.str) = 0 := by
    intro l
    induction l with
    | nil => rfl
    | cons z l ih => show max 0 (PyData.depthAll (l.map PyData.str)) = 0; rw [ih]; rfl
  show PyData.depthAll (zs.map PyData.str) + 1 ≤ 60
  rw [e]; decide
theorem shaped_nms {zs : List Str} (h : ∀ z ∈ zs, Nm z) : SeqAt.shaped (.tuple (zs.map PyData.str)) = true := by
  have e := shaped_strs (l := zs) fun z hz => (h z hz).tx.lay
  exact e
theorem ded_mem {z : Str} : ∀ {zs acc : List Str}, z ∈ ded acc zs → z ∈ acc ∨ z ∈ zs
  | [], acc, h => .inl h
  | y :: zs, acc, h => by
    have h' : z ∈ ded (addS acc y) zs := h
    rcases ded_mem h' with m | m
    · unfold addS at m
      split at m
      · exact .inl m
      · rcases List.mem_append.mp m with m | m
        · exact .inl m
        · exact .inr (by rw [List.mem_singleton.mp m]; exact List.mem_cons_self)
    · exact .inr (List.mem_cons_of_mem _ m)
theorem ded_len : ∀ (zs acc : List Str), (ded acc zs).length ≤ acc.length + zs.length
  | [], acc => Nat.le_refl _
  | y :: zs, acc => by
    have h1 := ded_len zs (addS acc y)
    have h2 := addS_len acc y
    show (ded (addS acc y) zs).length ≤ acc.length + (zs.length + 1)
    omega
end LK
namespace LK
open PySem PySem.Spec PyProof.Rows L2 Evl
theorem bE_mem {bs : List Str} {d : Nat} {e : Ex} (h : OkE bs d e) : ∀ z ∈ boxesE e, z ∈ bs := by
  induction h with
  | num _ _ => exact fun z m => nomatch m
  | non => exact fun z m => nomatch m
  | box hb =>
    intro z m
    rw [List.mem_singleton.mp m]
    exact hb
  | op _ _ _ i1 i2 =>
    intro z m
    rcases List.mem_append.mp m with m | m
    · exact i1 z m
    · exact i2 z m
theorem bB_mem {bs : List Str} {x : List Sm} (h : ∀ s ∈ x, ∀ z ∈ boxesS s, z ∈ bs) : ∀ z ∈ boxesB x, z ∈ bs := by
  induction x with
  | nil => exact fun z m => nomatch m
  | cons s r ih =>
    intro z m
    rcases List.mem_append.mp m with m | m
    · exact h s List.mem_cons_self z m
    · exact ih (fun y hy => h y (List.mem_cons_of_mem _ hy)) z m
theorem bS_mem {bs : List Str} {ms : List (Str × Nat)} {q d : Nat} {l : Bool} {s : Sm} (h : OkS bs ms q d l s) : ∀ z ∈ boxesS s, z ∈ bs := by
  induction h with
  | set3 hw hb he =>
    intro z m
    rcases List.mem_cons.mp m with rfl | m
    · exact hb
    · exact bE_mem he z m
  | one hw he => exact bE_mem he
  | jump hw => exact fun z m => nomatch m
  | make hb hn he =>
    intro z m
    rcases List.mem_cons.mp m with rfl | m
    · exact hb
    · obtain ⟨l, hl, hz⟩ := List.mem_flatten.mp m
      obtain ⟨e, h1, rfl⟩ := List.mem_map.mp hl
      exact bE_mem (he e h1) z hz
  | ifs he hx hy i1 i2 =>
    intro z m
    rcases List.mem_append.mp m with m | m
    · rcases List.mem_append.mp m with m | m
      · exact bE_mem he z m
      · exact bB_mem i1 z m
    · exact bB_mem i2 z m
  | whl he hx i1 =>
    intro z m
    rcases List.mem_append.mp m with m | m
    · exact bE_mem he z m
    · exact bB_mem i1 z m
  | pull hb hw he hf hx i1 =>
    intro z m
    rcases List.mem_append.mp m with m | m
    · rcases List.mem_cons.mp m with rfl | m
      · exact hb
      · exact bE_mem he z m
    · rcases List.mem_append.mp m with m | m
      · exact bE_mem hf z m
      · exact bB_mem i1 z m
  | fin hx hz hn i1 i2 =>
    intro z m
    rcases List.mem_append.mp m with m | m
    · rcases List.mem_append.mp m with m | m
      · exact bB_mem i1 z m
      · cases m
    · rcases List.mem_append.mp m with m | m
      · cases m
      · exact bB_mem i2 z m
  | tri hc hx hy hz i1 i2 i3 =>
    intro z m
    rcases List.mem_append.mp m with m | m
    · rcases List.mem_append.mp m with m | m
      · exact bB_mem i1 z m
      · rw [show z = _ from List.mem_singleton.mp m]; exact hc
    · rcases List.mem_append.mp m with m | m
      · exact bB_mem i2 z m
      · exact bB_mem i3 z m
/-- the names that stand in a drawn function -/
theorem OkF.boxes {ms : List (Str × Nat)} {q d L : Nat} {f : Fu} (h : OkF ms q d L f) : ∀ z ∈ f.ps ++ boxesB f.b, Nm z := by
  obtain ⟨bs, _, _, bn, ⟨r, eb⟩, ok⟩ := h.bs
  intro z m
  rcases List.mem_append.mp m with m | m
  · exact h.pn z m
  · exact bn z (bB_mem (fun s hs => bS_mem (ok s hs)) z m)
theorem OkF.bx {ms : List (Str × Nat)} {q d L : Nat} {f : Fu} (h : OkF ms q d L f) : bxD "body" (bodyD f.b) = boxesB f.b := by
  obtain ⟨bs, _, _, bn, ⟨r, eb⟩, ok⟩ := h.bs
  exact bx_sms fun s hs => bx_sm (ok s hs)
end LK
set_option Elab.async false
set_option linter.all false
set_option maxRecDepth 100000
set_option maxHeartbeats 2000000
namespace LK
open PySem PySem.Spec PyProof.Rows L2 Evl
/-! ### texts put together -/
theorem ap_assoc (x y z : Str) : x ++ y ++ z = x ++ (y ++ z) := str_ext (by rw [app_list, app_list, app_list, app_list, List.append_assoc])
theorem nil_ap (x : Str) : ("" : Str) ++ x = x := str_ext (by rw [app_list]; rfl)
theorem emp_ap (x : Str) : Str.empty ++ x = x := nil_ap x
theorem ap_nil (x : Str) : x ++ ("" : Str) = x := str_ext (by rw [app_list, show ("" : Str).cps.toList = [] from rfl, List.append_nil])
def catS : List Str → Str
  | [] => ""
  | z :: r => z ++ catS r
theorem cat_app : ∀ a b : List Str, catS (a ++ b) = catS a ++ catS b
  | [], b => (nil_ap _).symm
  | z :: a, b => by show z ++ catS (a ++ b) = (z ++ catS a) ++ catS b; rw [cat_app a b, ap_assoc]
theorem cat_one (z : Str) : catS [z] = z := ap_nil z
theorem cat_list : ∀ zs : List Str, (catS zs).cps.toList = (zs.map fun z => z.cps.toList).flatten
  | [] => rfl
  | z :: zs => by
    show (z ++ catS zs).cps.toList = _
    rw [app_list, cat_list zs]; rfl
theorem join_cat (zs : List Str) : Txt.join "" zs = catS zs := str_ext (by rw [join_nil, cat_list])
theorem cat_len : ∀ zs : List Str, (catS zs).length = (zs.map (·.length)).sum
  | [] => rfl
  | z :: zs => by
    show (z ++ catS zs).length = z.length + (zs.map (·.length)).sum
    rw [app_len, cat_len zs]
/-- rows with their line ends -/
def nlS (rows : List Str) : Str := catS (rows.map (· ++ ("\n" : Str)))
theorem nl_app (a b : List Str) : nlS (a ++ b) = nlS a ++ nlS b := by
  unfold nlS
  rw [List.map_append, cat_app]
theorem nl_one (z : Str) : nlS [z] = z ++ ("\n" : Str) := cat_one _
theorem nl_nil : nlS [] = "" := rfl
theorem nl_cons (z : Str) (r : List Str) : nlS (z :: r) = z ++ ("\n" ++ nlS r) := by
  show (z ++ ("\n" : Str)) ++ nlS r = _
  rw [ap_assoc]
/-! ### expressions and statements as texts -/
def numS (n : Int) : Str := toString n
def sgK : List (Str × Str) := [("plus", "+"), ("less", "-"), ("times", "*"), ("under", "<"), ("same", "=")]
def sgS (w : Str) : Str := (sgK.lookup w).getD ""
def txE : Ex → Str
  | .num n => numS n
  | .non => "none"
  | .box b => b
  | .op w a b => "(" ++ txE a ++ " " ++ sgS w ++ " " ++ txE b ++ ")"
def thT : List Ex → Str
  | [] => ""
  | e :: es => " " ++ txE e ++ catS (es.map fun e => " , " ++ txE e)
def makeR (b n : Str) (es : List Ex) : Str := "make " ++ b ++ " " ++ n ++ thT es
def headR (w : Str) (x : List Sm) (r : List Str) : List Str := match x with
  | [] => []
  | _ :: _ => w :: r
def catR (c : Option Str) (r : List Str) : List Str := match c with
  | none => []
  | some c => ("catch " ++ c) :: r
def endR : List Str := ["end"]
mutual
def rowsS : Sm → List Str
  | .set3 w b e => [w ++ " " ++ b ++ " " ++ txE e]
  | .one w e => [w ++ " " ++ txE e]
  | .jump w => [w]
  | .make b n es => [makeR b n es]
  | .ifs e x y => ("if" ++ " " ++ txE e) :: (rowsB x ++ headR "else" y (rowsB y) ++ endR)
  | .whl e x => ("while" ++ " " ++ txE e) :: (rowsB x ++ endR)
  | .pull b w e f x => (w ++ " " ++ b ++ " " ++ (txE e ++ " , " ++ txE f)) :: (rowsB x ++ endR)
  | .tri x c y z => ("try" : Str) :: (rowsB x ++ catR c (rowsB y) ++ headR "finally" z (rowsB z) ++ endR)
def rowsB : List Sm → List Str
  | [] => []
  | s :: r => rowsS s ++ rowsB r
end
theorem rowsB_app (x y : List Sm) : rowsB (x ++ y) = rowsB x ++ rowsB y := by
  induction x with
  | nil => rfl
  | cons s x ih => show rowsS s ++ rowsB (x ++ y) = rowsS s ++ rowsB x ++ rowsB y; rw [ih, List.append_assoc]
theorem rowsB_snoc (x : List Sm) (s : Sm) : rowsB (x ++ [s]) = rowsB x ++ rowsS s := by
  rw [rowsB_app]
  show rowsB x ++ (rowsS s ++ []) = _
  rw [List.append_nil]
/-! ### the pieces of which a text is written -/
inductive Pc where
  | s (z : Str) | e (x : Ex) | st (x : Sm)
def pcD : Pc → PyData
  | .s z => .str z
  | .e x => exD x
  | .st x => smD x
def txP : Pc → Str
  | .s z => z
  | .e x => txE x
  | .st x => nlS (rowsS x)
def txPs (l : List Pc) : Str := catS (l.map txP)
theorem txPs_app (a b : List Pc) : txPs (a ++ b) = txPs a ++ txPs b := by
  unfold txPs
  rw [List.map_append, cat_app]
theorem txPs_st (x : List Sm) : txPs (x.map Pc.st) = nlS (rowsB x) := by
  induction x with
  | nil => rfl
  | cons s x ih =>
    show nlS (rowsS s) ++ txPs (x.map Pc.st) = nlS (rowsS s ++ rowsB x)
    rw [ih, nl_app]
def thP : Str → List Ex → List Pc
  | _, [] => []
  | sep, e :: es => .s sep :: .e e :: thP " , " es
def tailP (w : Str) (x : List Sm) : List Pc := match x with
  | [] => []
  | s :: r => .s (w ++ "\n") :: (s :: r).map Pc.st
def catchP (c : Option Str) (y : List Sm) : List Pc := match c with
  | none => []
  | some c => .s ("catch " ++ c ++ "\n") :: y.map Pc.st
def pcsE : Ex → List Pc
  | .num n => [.s (numS n)]
  | .non => [.s "none"]
  | .box b => [.s b]
  | .op w a b => [.s "(", .e a, .s (" " ++ sgS w ++ " "), .e b, .s ")"]
def pcsS : Sm → List Pc
  | .set3 w b e => [.s w, .s " ", .s b, .s " ", .e e, .s "\n"]
  | .one w e => [.s w, .s " ", .e e, .s "\n"]
  | .jump w => [.s w, .s "\n"]
  | .make b n es => .s ("make " ++ b ++ " " ++ n) :: (thP " " es ++ [.s "\n"])
  | .ifs e x y => [.s "if ", .e e, .s "\n"] ++ (x.map Pc.st ++ (tailP "else" y ++ [.s "end\n"]))
  | .whl e x => [.s "while ", .e e, .s "\n"] ++ (x.map Pc.st ++ [.s "end\n"])
  | .pull b w e f x => [.s (w ++ " " ++ b ++ " "), .e e, .s " , ", .e f, .s "\n"] ++ (x.map Pc.st ++ [.s "end\n"])
  | .tri x c y z => .s "try\n" :: (x.map Pc.st ++ (catchP c y ++ (tailP "finally" z ++ [.s "end\n"])))
def pcsP : Pc → List Pc
  | .s z => [.s z]
  | .e x => pcsE x
  | .st x => pcsS x
theorem txPs_cons (p : Pc) (l : List Pc) : txPs (p :: l) = txP p ++ txPs l := rfl
theorem txPs_nil : txPs [] = "" := rfl
theorem pcs_ex (x : Ex) : txPs (pcsE x) = txE x := by
  cases x with
  | num n => simp only [pcsE, txPs_cons, txPs_nil, txP, txE, ap_nil]
  | non => simp only [pcsE, txPs_cons, txPs_nil, txP, txE, ap_nil]
  | box b => simp only [pcsE, txPs_cons, txPs_nil, txP, txE, ap_nil]
  | op w a b => simp only [pcsE, txPs_cons, txPs_nil, txP, txE, ap_nil, ap_assoc]
theorem txPs_thC (es : List Ex) : txPs (thP " , " es) = catS (es.map fun e => " , " ++ txE e) := by
  induction es with
  | nil => rfl
  | cons e es ih => simp only [thP, txPs_cons, txP, List.map_cons, catS, ih, ap_assoc]
theorem txPs_th (es : List Ex) : txPs (thP " " es) = thT es := by
  cases es with
  | nil => rfl
  | cons e es => simp only [thP, thT, txPs_cons, txP, txPs_thC, ap_assoc]
theorem txPs_tail (w : Str) (x : List Sm) : txPs (tailP w x) = nlS (headR w x (rowsB x)) := by
  cases x with
  | nil => rfl
  | cons s r => simp only [tailP, headR, txPs_cons, txP, txPs_st, nl_cons, ap_assoc]
theorem txPs_catch (c : Option Str) (y : List Sm) : txPs (catchP c y) = nlS (catR c (rowsB y)) := by
  cases c with
  | none => rfl
  | some c => simp only [catchP, catR, txPs_cons, txP, txPs_st, nl_cons, ap_assoc]
theorem end_nl : ("end" : Str) ++ "\n" = "end\n" := by decide +kernel
theorem if_sp : ("if" : Str) ++ " " = "if " := by decide +kernel
theorem while_sp : ("while" : Str) ++ " " = "while " := by decide +kernel
theorem try_nl : ("try\n" : Str) = "try" ++ "\n" := by decide +kernel
theorem end_r : nlS endR = "end\n" := (nl_one "end").trans end_nl
theorem pcs_sm (x : Sm) : txPs (pcsS x) = nlS (rowsS x) := by
  cases x with
  | set3 w b e => simp only [pcsS, rowsS, txPs_cons, txPs_nil, txP, nl_one, ap_assoc, ap_nil]
  | one w e => simp only [pcsS, rowsS, txPs_cons, txPs_nil, txP, nl_one, ap_assoc, ap_nil]
  | jump w => simp only [pcsS, rowsS, txPs_cons, txPs_nil, txP, nl_one, ap_assoc, ap_nil]
  | make b n es => simp only [pcsS, rowsS, makeR, txPs_cons, txPs_nil, txP, nl_one, ap_assoc, ap_nil, txPs_app, txPs_th]
  | ifs e x y => simp only [pcsS, rowsS, List.cons_append, List.nil_append, txPs_cons, txPs_app, txPs_st, txPs_tail, end_r, txPs_nil, ap_nil, txP, nl_cons, nl_app, if_sp, ap_assoc]
  | whl e x => simp only [pcsS, rowsS, List.cons_append, List.nil_append, txPs_cons, txPs_app, txPs_st, end_r, txPs_nil, ap_nil, txP, nl_cons, nl_app, while_sp, ap_assoc]
  | pull b w e f x => simp only [pcsS, rowsS, List.cons_append, List.nil_append, txPs_cons, txPs_app, txPs_st, end_r, txPs_nil, ap_nil, txP, nl_cons, nl_app, ap_assoc]
  | tri x c y z => simp only [pcsS, rowsS, txPs_cons, txPs_app, txPs_st, txPs_tail, txPs_catch, end_r, txPs_nil, ap_nil, txP, nl_cons, nl_app, try_nl, ap_assoc]
theorem pcs_tx (p : Pc) : txPs (pcsP p) = txP p := by
  cases p with
  | s z => exact ap_nil _
  | e x => exact pcs_ex x
  | st x => exact pcs_sm x
/-! what is still to be written, counted -/
def wE : Ex → Nat
  | .op _ a b => 4 + wE a + wE b
  | _ => 2
mutual
def wS : Sm → Nat
  | .set3 _ _ e => 6 + wE e
  | .one _ e => 4 + wE e
  | .jump _ => 3
  | .make _ _ es => 3 + (es.map fun e => 1 + wE e).sum
  | .ifs e x y => 6 + wE e + wB x + wB y
  | .whl e x => 5 + wE e + wB x
  | .pull _ _ e f x => 5 + wE e + wE f + wB x
  | .tri x _ y z => 5 + wB x + wB y + wB z
def wB : List Sm → Nat
  | [] => 0
  | s :: r => wS s + wB r
end
def wP : Pc → Nat
  | .s _ => 1
  | .e x => wE x
  | .st x => wS x
def wPs (l : List Pc) : Nat := (l.map wP).sum
theorem wPs_app (a b : List Pc) : wPs (a ++ b) = wPs a + wPs b := by
  unfold wPs
  rw [List.map_append, List.sum_append]
theorem wPs_cons (p : Pc) (l : List Pc) : wPs (p :: l) = wP p + wPs l := rfl
theorem wPs_nil : wPs [] = 0 := rfl
theorem wPs_st (x : List Sm) : wPs (x.map Pc.st) = wB x := by
  induction x with
  | nil => rfl
  | cons s x ih => show wS s + wPs (x.map Pc.st) = wS s + wB x; rw [ih]
theorem wPs_th (sep : Str) (es : List Ex) : wPs (thP sep es) = (es.map fun e => 1 + wE e).sum := by
  induction es generalizing sep with
  | nil => rfl
  | cons e es ih =>
    show 1 + (wE e + wPs (thP " , " es)) = (1 + wE e) + (es.map fun e => 1 + wE e).sum
    rw [ih]; omega
theorem wPs_tail (w : Str) (x : List Sm) : wPs (tailP w x) ≤ 1 + wB x := by
  cases x with
  | nil => exact Nat.zero_le _
  | cons s r =>
    show 1 + wPs ((s :: r).map Pc.st) ≤ _
    rw [wPs_st]; exact Nat.le_refl _
theorem wPs_catch (c : Option Str) (y : List Sm) : wPs (catchP c y) ≤ 1 + wB y := by
  cases c with
  | none => exact Nat.zero_le _
  | some c =>
    show 1 + wPs (y.map Pc.st) ≤ _
    rw [wPs_st]; exact Nat.le_refl _
theorem pcs_lessE (x : Ex) : wPs (pcsE x) < wE x := by
  cases x with
  | num n => simp only [pcsE, wPs_cons, wPs_nil, wP, wE]; omega
  | non => simp only [pcsE, wPs_cons, wPs_nil, wP, wE]; omega
  | box b => simp only [pcsE, wPs_cons, wPs_nil, wP, wE]; omega
  | op w a b => simp only [pcsE, wPs_cons, wPs_nil, wP, wE]; omega
theorem pcs_lessS (x : Sm) : wPs (pcsS x) < wS x := by
  cases x with
  | set3 w b e => simp only [pcsS, wPs_cons, wPs_nil, wP, wS]; omega
  | one w e => simp only [pcsS, wPs_cons, wPs_nil, wP, wS]; omega
  | jump w => simp only [pcsS, wPs_cons, wPs_nil, wP, wS]; omega
  | make b n es => simp only [pcsS, wPs_cons, wPs_nil, wP, wS, wPs_app, wPs_th]; omega
  | ifs e x y =>
    have := wPs_tail "else" y
    simp only [pcsS, List.cons_append, List.nil_append, wPs_cons, wPs_nil, wP, wS, wPs_app, wPs_st]; omega
  | whl e x => simp only [pcsS, List.cons_append, List.nil_append, wPs_cons, wPs_nil, wP, wS, wPs_app, wPs_st]; omega
  | pull b w e f x => simp only [pcsS, List.cons_append, List.nil_append, wPs_cons, wPs_nil, wP, wS, wPs_app, wPs_st]; omega
  | tri x c y z =>
    have h1 := wPs_tail "finally" z
    have h2 := wPs_catch c y
    simp only [pcsS, wPs_cons, wPs_nil, wP, wS, wPs_app, wPs_st]; omega
end LK
set_option Elab.async false
set_option linter.all false
set_option maxRecDepth 100000
set_option maxHeartbeats 2000000
namespace LK
open PySem PySem.Spec PyProof.Rows L2 Evl
/-! ### signs at the end; strip -/
def Ends (z : Str) : Prop := ∃ c, z.cps.toList.getLast? = some c ∧ Unicode.isSpace c = false
theorem ends_app {x y : Str} (h : Ends y) : Ends (x ++ y) := by
  obtain ⟨c, h1, h2⟩ := h
  refine ⟨c, ?_, h2⟩
  rw [app_list, List.getLast?_append, h1]; rfl
theorem ends_of {z : Str} (n : z.cps.toList ≠ []) (h : ∀ c ∈ z.cps.toList, Unicode.isSpace c = false) : Ends z := by
  refine ⟨z.cps.toList.getLast n, List.getLast?_eq_some_getLast n, h _ (List.getLast_mem n)⟩
theorem lo_space {c : Nat} (h : lo c = true) : Unicode.isSpace c = false := by
  have := of_decide_eq_true h
  exact PySem.W.KXs.no_space c (by omega) (by omega)
theorem ends_nm {z : Str} (h : Nm z) : Ends z := by
  refine ends_of (fun e => ?_) fun c hc => lo_space (h.lo c hc)
  have h1 := h.l1
  have : z.cps.toList.length = 0 := by rw [e]; rfl
  have h2 : 1 ≤ z.cps.toList.length := h1
  omega
theorem ends_num {n : Int} (h0 : 0 ≤ n) : Ends (numS n) := by
  obtain ⟨m, rfl⟩ := Int.eq_ofNat_of_zero_le h0
  have e : (numS ((m : Nat) : Int)).cps.toList = (Nat.toDigits 10 m).map Char.toNat := PySem.W.KIN.signs_num m
  refine ends_of (fun z => ?_) fun c hc => ?_
  · rw [e] at z
    have := List.map_eq_nil_iff.mp z
    exact absurd this Nat.toDigits_ne_nil
  · rw [e] at hc
    obtain ⟨ch, hch, rfl⟩ := List.mem_map.mp hc
    have r := PyProof.Rows.digit_range (Nat.isDigit_of_mem_toDigits (by decide) (by decide) hch)
    exact PySem.W.KXs.no_space _ (by omega) (by omega)
theorem ends_ex {bs : List Str} (bn : ∀ z ∈ bs, Nm z) {d : Nat} {e : Ex} (h : OkE bs d e) : Ends (txE e) := by
  cases h with
  | num h0 h1 => exact ends_num h0
  | non => exact ⟨101, by decide +kernel, by decide +kernel⟩
  | box hb => exact ends_nm (bn _ hb)
  | op hw ha hb => exact ends_app ⟨41, by decide +kernel, by decide +kernel⟩
theorem rev_space {xs ts : List Nat} {c : Nat} (h1 : xs.getLast? = some c) (h2 : Unicode.isSpace c = false) (h3 : ∀ c ∈ ts, Unicode.isSpace c = true) : ((xs ++ ts).reverse.takeWhile Unicode.isSpace).length = ts.length := by
  have e : xs.reverse.head? = some c := by rw [List.head?_reverse]; exact h1
  have h4 : (xs ++ ts).reverse.takeWhile Unicode.isSpace = ts.reverse := by
    rw [List.reverse_append, List.takeWhile_append_of_pos (fun c hc => h3 c (List.mem_reverse.mp hc))]
    cases hx : xs.reverse with
    | nil => simp
    | cons b l =>
      rw [hx] at e
      obtain rfl : b = c := Option.some.inj e
      simp [List.takeWhile_cons, h2]
  rw [h4, List.length_reverse]
theorem strip_tail {a t : Str} {c0 : Nat} (f : a.cps.toList.head? = some c0) (f0 : Unicode.isSpace c0 = false) (l : Ends a) (ts : ∀ c ∈ t.cps.toList, Unicode.isSpace c = true) : Txt.strip (a ++ t) = a := by
  obtain ⟨c, h1, h2⟩ := l
  have la : (a ++ t).length = a.length + t.length := app_len a t
  have lt : t.cps.toList.length = t.length := rfl
  have lo : stripLo Unicode.isSpace true (a ++ t) = 0 := by
    simp only [stripLo, if_true]
    rw [app_list]
    cases hx : a.cps.toList with
    | nil => rw [hx] at f; cases f
    | cons b r =>
      rw [hx] at f
      obtain rfl : b = c0 := Option.some.inj f
      simp [List.takeWhile_cons, f0]
  have hi : stripHi Unicode.isSpace true (a ++ t) 0 = a.length := by
    simp only [stripHi, if_true, List.drop_zero]
    rw [app_list, rev_space h1 h2 ts, la, lt]
    omega
  unfold Txt.strip Txt.stripBy
  split
  · rename_i hs
    unfold stripSame at hs
    rw [lo, hi] at hs
    have e := eq_of_beq (Bool.and_eq_true_iff.mp hs).2
    have z : t.cps.toList = [] := List.length_eq_zero_iff.mp (by rw [lt]; omega)
    exact str_ext (by rw [app_list, z, List.append_nil])
  · unfold stripped
    rw [lo, hi]
    refine str_ext ?_
    show ((a ++ t).cps.extract 0 a.length).toList = a.cps.toList
    rw [Array.toList_extract, app_list]
    show ((a.cps.toList ++ t.cps.toList).drop 0).take (a.length - 0) = _
    rw [List.drop_zero, Nat.sub_zero, show a.length = a.cps.toList.length from rfl, List.take_left]
theorem join_sep (sep z : Str) : ∀ zs : List Str, Txt.join sep (z :: zs) = z ++ catS (zs.map fun y => sep ++ y)
  | [] => by rw [TL.join_eq]; exact (ap_nil z).symm
  | y :: zs => by
    have ih := join_sep sep y zs
    rw [TL.join_eq] at ih
    rw [TL.join_eq]
    show z ++ sep ++ Str.join sep (y :: zs) = z ++ ((sep ++ y) ++ catS (zs.map fun y => sep ++ y))
    rw [ih]
    simp only [ap_assoc]
theorem strip_make {b n : Str} {es : List Ex} {bs : List Str} {q : Nat} (bn : ∀ z ∈ bs, Nm z) (hn : Nm n) (he : ∀ e ∈ es, OkE bs q e) :
    Txt.strip ("make" ++ " " ++ b ++ " " ++ n ++ " " ++ Txt.join " , " (es.map txE)) = makeR b n es := by
  have f0 : Unicode.isSpace 109 = false := by decide +kernel
  have mk : ("make" : Str) ++ " " = "make " := by decide +kernel
  have hd : ∀ r : Str, (("make " : Str) ++ r).cps.toList.head? = some 109 := fun r => by
    rw [app_list, show ("make " : Str).cps.toList = [109, 97, 107, 101, 32] by decide +kernel]; rfl
  cases es with
  | nil =>
    have e : Txt.join " , " (([] : List Ex).map txE) = "" := by rw [TL.join_eq]; rfl
    rw [e, ap_nil]
    have h : makeR b n [] = "make" ++ " " ++ b ++ " " ++ n := by
      show "make " ++ b ++ " " ++ n ++ ("" : Str) = _
      rw [ap_nil, mk]
    rw [h]
    refine strip_tail (c0 := 109) (by rw [mk]; simp only [ap_assoc]; exact hd _) f0 (ends_app (ends_nm hn)) (by decide +kernel)
  | cons e es =>
    have e2 : "make" ++ " " ++ b ++ " " ++ n ++ " " ++ Txt.join " , " ((e :: es).map txE) = makeR b n (e :: es) := by
      rw [List.map_cons, join_sep, mk]
      show _ = "make " ++ b ++ " " ++ n ++ (" " ++ txE e ++ catS (es.map fun e => " , " ++ txE e))
      rw [List.map_map]
      simp only [ap_assoc]
      rfl
    rw [e2]
    have s := strip_tail (a := makeR b n (e :: es)) (t := "") (c0 := 109) (by
      show ("make " ++ b ++ " " ++ n ++ thT (e :: es)).cps.toList.head? = _
      simp only [ap_assoc]; exact hd _) f0 (by
      refine ends_app ?_
      show Ends (" " ++ txE e ++ catS (es.map fun e => " , " ++ txE e))
      have ce : ∀ (a : Str) (l : List Ex), Ends a → (∀ e ∈ l, OkE bs q e) → Ends (a ++ catS (l.map fun e => " , " ++ txE e)) := by
        intro a l
        induction l generalizing a with
        | nil => intro ha _; show Ends (a ++ ""); rw [ap_nil]; exact ha
        | cons x l ih =>
          intro ha hl
          have h := ih (a ++ (" , " ++ txE x)) (ends_app (ends_app (ends_ex bn (hl x List.mem_cons_self)))) fun y hy => hl y (List.mem_cons_of_mem _ hy)
          show Ends (a ++ ((" , " ++ txE x) ++ catS (l.map fun e => " , " ++ txE e)))
          rw [← ap_assoc]
          exact h
      exact ce _ es (ends_app (ends_ex bn (he e List.mem_cons_self))) fun y hy => he y (List.mem_cons_of_mem _ hy)) (fun c hc => nomatch hc)
    rw [ap_nil] at s
    exact s
/-! ### how long -/
theorem num_len {n : Int} (h0 : 0 ≤ n) (h1 : n < 1000003) : (numS n).length ≤ 10 := PySem.W.KT.len_num h0 (by omega)
def lE : Nat → Nat
  | 0 => 10
  | d + 1 => 5 + 2 * lE d
theorem lE_10 : ∀ d, 10 ≤ lE d
  | 0 => Nat.le_refl _
  | d + 1 => by have := lE_10 d; show 10 ≤ 5 + 2 * lE d; omega
theorem lE_4 {q : Nat} (h : q ≤ 4) : lE q ≤ 235 := by
  match q, h with
  | 0, _ => decide
  | 1, _ => decide
  | 2, _ => decide
  | 3, _ => decide
  | 4, _ => decide
theorem sg_len : ∀ w ∈ opW, (sgS w).length = 1 := by decide +kernel
theorem txE_len {bs : List Str} (bn : ∀ z ∈ bs, Nm z) {d : Nat} {e : Ex} (h : OkE bs d e) : (txE e).length ≤ lE d := by
  induction h with
  | @num d n h0 h1 => exact Nat.le_trans (num_len h0 h1) (lE_10 d)
  | @non d => exact Nat.le_trans (show ("none" : Str).length ≤ 10 by decide +kernel) (lE_10 d)
  | @box d b hb => exact Nat.le_trans (bn b hb).l8 (Nat.le_trans (by decide) (lE_10 d))
  | @op d w a b hw _ _ i1 i2 =>
    show ("(" ++ txE a ++ " " ++ sgS w ++ " " ++ txE b ++ ")" : Str).length ≤ 5 + 2 * lE d
    simp only [app_len]
    rw [sg_len w hw, show ("(" : Str).length = 1 by decide +kernel, show (" " : Str).length = 1 by decide +kernel, show (")" : Str).length = 1 by decide +kernel]
    omega
theorem txE_235 {bs : List Str} (bn : ∀ z ∈ bs, Nm z) {q : Nat} (q4 : q ≤ 4) {e : Ex} (h : OkE bs q e) : (txE e).length ≤ 235 := Nat.le_trans (txE_len bn h) (lE_4 q4)
theorem cat_le {k : Nat} : ∀ {zs : List Str}, (∀ z ∈ zs, z.length ≤ k) → (catS zs).length ≤ k * zs.length
  | [], _ => Nat.zero_le _
  | z :: zs, h => by
    have h1 := h z List.mem_cons_self
    have h2 := cat_le fun y hy => h y (List.mem_cons_of_mem _ hy)
    show (z ++ catS zs).length ≤ k * (zs.length + 1)
    rw [app_len, Nat.mul_add, Nat.mul_one]; omega
theorem nl_len (z : Str) (r : List Str) : (nlS (z :: r)).length = z.length + 1 + (nlS r).length := by
  rw [nl_cons, app_len, app_len, show ("\n" : Str).length = 1 by decide +kernel]; omega
theorem nl_app_len (a b : List Str) : (nlS (a ++ b)).length = (nlS a).length + (nlS b).length := by rw [nl_app, app_len]
theorem nl_rows : ∀ r : List Str, r.length ≤ (nlS r).length
  | [] => Nat.zero_le _
  | z :: r => by
    have := nl_rows r
    rw [nl_len, List.length_cons]; omega
theorem nl_head (w : Str) (x : List Sm) (r : List Str) : (nlS (headR w x r)).length ≤ w.length + 1 + (nlS r).length := by
  cases x with
  | nil => exact Nat.zero_le _
  | cons s x => show (nlS (w :: r)).length ≤ _; rw [nl_len]; exact Nat.le_refl _
theorem rows_small {x : List Sm} (h : ∀ s ∈ x, (nlS (rowsS s)).length ≤ 1000 * cnt s) : (nlS (rowsB x)).length ≤ 1000 * cnts x := by
  induction x with
  | nil => exact Nat.zero_le _
  | cons s r ih =>
    have h1 := h s List.mem_cons_self
    have h2 := ih fun y hy => h y (List.mem_cons_of_mem _ hy)
    show (nlS (rowsS s ++ rowsB r)).length ≤ 1000 * (cnt s + cnts r)
    rw [nl_app_len]; omega
theorem th_len {bs : List Str} (bn : ∀ z ∈ bs, Nm z) {q : Nat} (q4 : q ≤ 4) {es : List Ex} (he : ∀ e ∈ es, OkE bs q e) : (thT es).length ≤ 238 * es.length := by
  cases es with
  | nil => exact Nat.zero_le _
  | cons e es =>
    have h1 := txE_235 bn q4 (he e List.mem_cons_self)
    have h2 : (catS (es.map fun e => " , " ++ txE e)).length ≤ 238 * (es.map fun e => " , " ++ txE e).length := cat_le fun z hz => by
      obtain ⟨y, hy, rfl⟩ := List.mem_map.mp hz
      have := txE_235 bn q4 (he y (List.mem_cons_of_mem _ hy))
      rw [app_len, show (" , " : Str).length = 3 by decide +kernel]; omega
    show (" " ++ txE e ++ catS (es.map fun e => " , " ++ txE e)).length ≤ _
    rw [List.length_map] at h2
    rw [app_len, app_len, show (" " : Str).length = 1 by decide +kernel, List.length_cons]; omega
theorem w_len {l : List Str} (h : ∀ z ∈ l, z.length ≤ 8) {w : Str} (hw : w ∈ l) : w.length ≤ 8 := h w hw
theorem rows_sm {bs : List Str} {ms : List (Str × Nat)} {q d : Nat} {l : Bool} {s : Sm} (bn : ∀ z ∈ bs, Nm z) (mn : ∀ u ∈ ms, Nm u.1) (m3 : ∀ u ∈ ms, u.2 ≤ 3) (q4 : q ≤ 4) (h : OkS bs ms q d l s) : (nlS (rowsS s)).length ≤ 1000 * cnt s := by
  have sx : ∀ {e : Ex}, OkE bs q e → (txE e).length ≤ 235 := fun he => txE_235 bn q4 he
  have l1 : (" " : Str).length = 1 := by decide +kernel
  have lend : (nlS endR).length = 4 := by decide +kernel
  have l3 : (" , " : Str).length = 3 := by decide +kernel
  have nlz : (nlS []).length = 0 := rfl
  induction h with
  | @set3 d l w b e hw hb he =>
    have h1 := sx he
    have h2 := w_len (l := ["set", "give", "all"]) (by decide +kernel) hw
    have h3 := (bn b hb).l8
    simp only [rowsS, cnt, nl_len, nlz, app_len, l1]; omega
  | @one d l w e hw he =>
    have h1 := sx he
    have h2 := w_len (l := ["say", "return", "close", "throw"]) (by decide +kernel) hw
    simp only [rowsS, cnt, nl_len, nlz, app_len, l1]; omega
  | @jump d w hw =>
    have h2 := w_len (l := ["break", "again"]) (by decide +kernel) hw
    simp only [rowsS, cnt, nl_len, nlz]; omega
  | @make d l b n es hb hn he =>
    have h1 := th_len bn q4 he
    have h2 : es.length ≤ 3 := m3 _ hn
    have h3 := (bn b hb).l8
    have h4 : n.length ≤ 8 := (mn _ hn).l8
    simp only [rowsS, cnt, makeR, nl_len, nlz, app_len, l1]
    rw [show ("make " : Str).length = 5 by decide +kernel]; omega
  | @ifs d l e x y he hx hy i1 i2 =>
    have h1 := sx he
    have h2 := rows_small i1
    have h3 := rows_small i2
    have h4 := nl_head "else" y (rowsB y)
    rw [show ("else" : Str).length = 4 by decide +kernel] at h4
    simp only [rowsS, cnt, nl_len, nl_app_len, app_len, l1, lend]
    rw [show ("if" : Str).length = 2 by decide +kernel]; omega
  | @whl d l e x he hx i1 =>
    have h1 := sx he
    have h2 := rows_small i1
    simp only [rowsS, cnt, nl_len, nl_app_len, app_len, l1, lend]
    rw [show ("while" : Str).length = 5 by decide +kernel]; omega
  | @pull d l b w e f x hb hw he hf hx i1 =>
    have h1 := sx he
    have h2 := sx hf
    have h3 := rows_small i1
    have h4 := w_len (l := ["ask", "toss"]) (by decide +kernel) hw
    have h5 := (bn b hb).l8
    simp only [rowsS, cnt, nl_len, nl_app_len, app_len, l1, l3, lend]; omega
  | @fin d l x z hx hz hn i1 i2 =>
    have h1 := rows_small i1
    have h2 := rows_small i2
    have h4 := nl_head "finally" z (rowsB z)
    rw [show ("finally" : Str).length = 7 by decide +kernel] at h4
    simp only [rowsS, cnt, catR, nl_len, nl_app_len, nlz, lend]
    rw [show ("try" : Str).length = 3 by decide +kernel]; omega
  | @tri d l x y z c hc hx hy hz i1 i2 i3 =>
    have h1 := rows_small i1
    have h2 := rows_small i2
    have h3 := rows_small i3
    have h4 := nl_head "finally" z (rowsB z)
    have h5 := (bn c hc).l8
    rw [show ("finally" : Str).length = 7 by decide +kernel] at h4
    simp only [rowsS, cnt, catR, nl_len, nl_app_len, app_len, lend]
    rw [show ("try" : Str).length = 3 by decide +kernel, show ("catch " : Str).length = 6 by decide +kernel]; omega
def wq : Nat → Nat
  | 0 => 2
  | d + 1 => 4 + 2 * wq d
theorem wq_2 : ∀ d, 2 ≤ wq d
  | 0 => Nat.le_refl _
  | d + 1 => by have := wq_2 d; show 2 ≤ 4 + 2 * wq d; omega
theorem wq_4 {q : Nat} (h : q ≤ 4) : wq q ≤ 92 := by
  match q, h with
  | 0, _ => decide
  | 1, _ => decide
  | 2, _ => decide
  | 3, _ => decide
  | 4, _ => decide
theorem wE_le {bs : List Str} {d : Nat} {e : Ex} (h : OkE bs d e) : wE e ≤ wq d := by
  induction h with
  | @num d n h0 h1 => exact wq_2 d
  | @non d => exact wq_2 d
  | @box d b hb => exact wq_2 d
  | @op d w a b hw _ _ i1 i2 => show 4 + wE a + wE b ≤ 4 + 2 * wq d; omega
theorem wB_small {x : List Sm} (h : ∀ s ∈ x, wS s ≤ 600 * cnt s) : wB x ≤ 600 * cnts x := by
  induction x with
  | nil => exact Nat.zero_le _
  | cons s r ih =>
    have h1 := h s List.mem_cons_self
    have h2 := ih fun y hy => h y (List.mem_cons_of_mem _ hy)
    show wS s + wB r ≤ 600 * (cnt s + cnts r)
    omega
theorem wS_le {bs : List Str} {ms : List (Str × Nat)} {q d : Nat} {l : Bool} {s : Sm} (m3 : ∀ u ∈ ms, u.2 ≤ 3) (q4 : q ≤ 4) (h : OkS bs ms q d l s) : wS s ≤ 600 * cnt s := by
  have sx : ∀ {e : Ex}, OkE bs q e → wE e ≤ 92 := fun he => Nat.le_trans (wE_le he) (wq_4 q4)
  induction h with
  | @set3 d l w b e hw hb he => have := sx he; simp only [wS, cnt]; omega
  | @one d l w e hw he => have := sx he; simp only [wS, cnt]; omega
  | @jump d w hw => simp only [wS, cnt]; omega
  | @make d l b n es hb hn he =>
    have h2 : es.length ≤ 3 := m3 _ hn
    have h1 : ∀ {es : List Ex}, (∀ e ∈ es, OkE bs q e) → (es.map fun e => 1 + wE e).sum ≤ 93 * es.length := by
      intro es
      induction es with
      | nil => intro _; exact Nat.zero_le _
      | cons e es ih =>
        intro h
        have a := sx (h e List.mem_cons_self)
        have b := ih fun y hy => h y (List.mem_cons_of_mem _ hy)
        rw [List.map_cons, List.sum_cons, List.length_cons]; omega
    have h3 := h1 he
    simp only [wS, cnt]; omega
  | @ifs d l e x y he hx hy i1 i2 => have := sx he; have := wB_small i1; have := wB_small i2; simp only [wS, cnt]; omega
  | @whl d l e x he hx i1 => have := sx he; have := wB_small i1; simp only [wS, cnt]; omega
  | @pull d l b w e f x hb hw he hf hx i1 => have := sx he; have := sx hf; have := wB_small i1; simp only [wS, cnt]; omega
  | @fin d l x z hx hz hn i1 i2 => have := wB_small i1; have := wB_small i2; simp only [wS, wB, cnt]; omega
  | @tri d l x y z c hc hx hy hz i1 i2 i3 => have := wB_small i1; have := wB_small i2; have := wB_small i3; simp only [wS, cnt]; omega
end LK
set_option Elab.async false
set_option linter.all false
set_option maxRecDepth 100000
set_option maxHeartbeats 2000000
namespace LK
open PySem PySem.Spec PyProof.Rows L2 Evl
/-! ### how long what repr tells of drawn functions is -/
def Tin (d : PyData) (n : Nat) : Prop := d.showable = true ∧ d.shown.length + 2 ≤ 92 * n
def Tins (l : List PyData) (n : Nat) : Prop := PyData.showableAll l = true ∧ piled (PyData.shownAll l) ≤ 92 * n
theorem Tin.mono {d : PyData} {n m : Nat} (h : Tin d n) (e : n ≤ m) : Tin d m := ⟨h.1, by have := h.2; omega⟩
theorem Tins.mono {d : List PyData} {n m : Nat} (h : Tins d n) (e : n ≤ m) : Tins d m := ⟨h.1, by have := h.2; omega⟩
theorem Tins.nil : Tins [] 0 := ⟨rfl, Nat.le_refl _⟩
theorem Tins.cons {d : PyData} {l : List PyData} {n m : Nat} (h : Tin d n) (r : Tins l m) : Tins (d :: l) (n + m) := by
  refine ⟨?_, ?_⟩
  · show (d.showable && PyData.showableAll l) = true
    rw [h.1, r.1]; rfl
  · show piled (d.shown :: PyData.shownAll l) ≤ _
    have h2 := h.2
    have r2 := r.2
    rw [piled_cons]; omega
theorem Tin.tup {l : List PyData} {n : Nat} (h : Tins l n) : Tin (.tuple l) (n + 1) := by
  refine ⟨h.1, ?_⟩
  have h1 := fmt_text (PyData.shownAll l)
  have h2 := h.2
  show (tupleText (PyData.shownAll l)).length + 2 ≤ _
  omega
theorem from_len : ∀ (ts : List Str) (k : Nat) (acc : Str), (textFrom k acc ts).length ≤ acc.length + piled ts
  | [], k, acc => Nat.le_refl _
  | t :: r, k, acc => by
    have h := from_len r (k + 1) (acc ++ (if k > 0 then ", " else "" : String) ++ t)
    have e : (acc ++ (if k > 0 then ", " else "" : String) ++ t).length ≤ acc.length + 2 + t.length := by
      rw [app_len, app_len]
      have : ((if k > 0 then ", " else "" : String) : Str).length ≤ 2 := by split <;> decide +kernel
      omega
    rw [piled_cons]
    show (textFrom (k + 1) (acc ++ (if k > 0 then ", " else "" : String) ++ t) r).length ≤ _
    omega
theorem Tin.lst {l : List PyData} {n : Nat} (h : Tins l n) : Tin (.list l) (n + 1) := by
  refine ⟨h.1, ?_⟩
  have h1 := from_len (PyData.shownAll l) 0 "["
  have h2 := h.2
  have e1 : (("[" : String) : Str).length = 1 := by decide +kernel
  have e2 : (("]" : String) : Str).length = 1 := by decide +kernel
  show (textFrom 0 "[" (PyData.shownAll l) ++ "]" : Str).length + 2 ≤ _
  rw [app_len]
  omega
theorem Tin.str {z : Str} (h8 : z.length ≤ 8) (h : ∀ c ∈ z.cps.toList, c < 128) : Tin (.str z) 1 := by
  refine ⟨rfl, ?_⟩
  have h1 := StrLaws.reprText_len z fun c hc => Nat.lt_trans (h c hc) (by decide)
  show (reprText z).length + 2 ≤ _
  omega
theorem Tin.nm {z : Str} (h : Nm z) : Tin (.str z) 1 := .str h.l8 h.c128
theorem Tin.non : Tin .none 1 := ⟨rfl, by decide +kernel⟩
theorem Tin.int {n : Int} (h0 : 0 ≤ n) (h1 : n < 1000003) : Tin (.int n) 1 := by
  refine ⟨?_, ?_⟩
  · show decide (n.natAbs.log2 < 1920) = true
    refine decide_eq_true ?_
    by_cases e : n.natAbs = 0
    · rw [e]; decide
    · exact Nat.lt_trans ((Nat.log2_lt e).mpr (show n.natAbs < 2 ^ 20 by omega)) (by decide)
  · have := num_len h0 h1
    show (numS n).length + 2 ≤ _
    omega
theorem Tin.word {l : List Str} {w : Str} (h : w ∈ l) (hl : ∀ z ∈ l, z.length ≤ 8 ∧ ∀ c ∈ z.cps.toList, c < 128) : Tin (.str w) 1 := .str (hl w h).1 (hl w h).2
theorem tin_ex {bs : List Str} (bn : ∀ z ∈ bs, Nm z) {d : Nat} {e : Ex} (h : OkE bs d e) : Tin (exD e) (bE d) := by
  induction h with
  | @num d n h0 h1 => exact (Tin.tup (.cons (.word (l := ["number"]) List.mem_cons_self (by decide +kernel)) (.cons (.int h0 h1) .nil))).mono (bE_3 d)
  | @non d => exact (Tin.tup (.cons (.word (l := ["none"]) List.mem_cons_self (by decide +kernel)) .nil)).mono (Nat.le_trans (by decide) (bE_3 d))
  | @box d b hb => exact (Tin.tup (.cons (.word (l := ["box"]) List.mem_cons_self (by decide +kernel)) (.cons (.nm (bn b hb)) .nil))).mono (bE_3 d)
  | @op d w a b hw _ _ i1 i2 => exact (Tin.tup (.cons (.word hw (by decide +kernel)) (.cons i1 (.cons i2 .nil)))).mono (by show 1 + (bE d + (bE d + 0)) + 1 ≤ 2 + 2 * bE d; omega)
theorem tin_exs {bs : List Str} (bn : ∀ z ∈ bs, Nm z) {q : Nat} (q4 : q ≤ 4) : ∀ {es : List Ex}, (∀ e ∈ es, OkE bs q e) → Tins (es.map exD) (78 * es.length)
  | [], _ => .nil
  | e :: es, h => (Tins.cons (tin_ex bn (h e List.mem_cons_self)) (tin_exs bn q4 fun x hx => h x (List.mem_cons_of_mem _ hx))).mono (by have := bE_4 q4; rw [List.length_cons]; omega)
theorem tin_sms {x : List Sm} (h : ∀ s ∈ x, Tin (smD s) (250 * LK.cnt s)) : Tins (smsD x) (250 * cnts x) := by
  induction x with
  | nil => exact .nil
  | cons s r ih => exact (Tins.cons (h s List.mem_cons_self) (ih fun y hy => h y (List.mem_cons_of_mem _ hy))).mono (by show _ ≤ 250 * (LK.cnt s + cnts r); omega)
theorem tin_sm {bs : List Str} {ms : List (Str × Nat)} {q d : Nat} {l : Bool} {s : Sm} (bn : ∀ z ∈ bs, Nm z) (mn : ∀ u ∈ ms, Nm u.1) (m3 : ∀ u ∈ ms, u.2 ≤ 3) (q4 : q ≤ 4) (h : OkS bs ms q d l s) : Tin (smD s) (250 * LK.cnt s) := by
  have sx : ∀ {e : Ex}, OkE bs q e → Tin (exD e) 78 := fun he => (tin_ex bn he).mono (bE_4 q4)
  have wd : ∀ z : Str, z ∈ (["make", "if", "while", "pull", "try"] : List Str) → Tin (.str z) 1 := fun z hz => .word hz (by decide +kernel)
  induction h with
  | @set3 d l w b e hw hb he => exact (Tin.tup (.cons (.word hw (by decide +kernel)) (.cons (.nm (bn b hb)) (.cons (sx he) .nil)))).mono (by show _ ≤ 250 * 1; decide)
  | @one d l w e hw he => exact (Tin.tup (.cons (.word hw (by decide +kernel)) (.cons (sx he) .nil))).mono (by show _ ≤ 250 * 1; decide)
  | @jump d w hw => exact (Tin.tup (.cons (.word hw (by decide +kernel)) .nil)).mono (by show _ ≤ 250 * 1; decide)
  | @make d l b n es hb hn he =>
    have n3 : es.length ≤ 3 := m3 _ hn
    exact (Tin.tup (.cons (wd _ (by decide +kernel)) (.cons (.nm (bn b hb)) (.cons (.nm (mn _ hn)) (.cons (Tin.tup (tin_exs bn q4 he)) .nil))))).mono (by show _ ≤ 250 * 1; omega)
  | @ifs d l e x y he hx hy i1 i2 =>
    exact (Tin.tup (.cons (wd _ (by decide +kernel)) (.cons (sx he) (.cons (Tin.tup (tin_sms i1)) (.cons (Tin.tup (tin_sms i2)) .nil))))).mono (by show _ ≤ 250 * (1 + cnts x + cnts y); omega)
  | @whl d l e x he hx i1 => exact (Tin.tup (.cons (wd _ (by decide +kernel)) (.cons (sx he) (.cons (Tin.tup (tin_sms i1)) .nil)))).mono (by show _ ≤ 250 * (1 + cnts x); omega)
  | @pull d l b w e f x hb hw he hf hx i1 =>
    exact (Tin.tup (.cons (wd _ (by decide +kernel)) (.cons (.nm (bn b hb)) (.cons (.word hw (by decide +kernel)) (.cons (sx he) (.cons (sx hf) (.cons (Tin.tup (tin_sms i1)) .nil))))))).mono (by show _ ≤ 250 * (1 + cnts x); omega)
  | @fin d l x z hx hz hn i1 i2 =>
    exact (Tin.tup (.cons (wd _ (by decide +kernel)) (.cons (Tin.tup (tin_sms i1)) (.cons .non (.cons (Tin.tup Tins.nil) (.cons (Tin.tup (tin_sms i2)) .nil)))))).mono (by show _ ≤ 250 * (1 + cnts x + 0 + cnts z); omega)
  | @tri d l x y z c hc hx hy hz i1 i2 i3 =>
    exact (Tin.tup (.cons (wd _ (by decide +kernel)) (.cons (Tin.tup (tin_sms i1)) (.cons (.nm (bn c hc)) (.cons (Tin.tup (tin_sms i2)) (.cons (Tin.tup (tin_sms i3)) .nil)))))).mono (by show _ ≤ 250 * (1 + cnts x + cnts y + cnts z); omega)
theorem tin_nms : ∀ {zs : List Str}, (∀ z ∈ zs, Nm z) → Tins (zs.map PyData.str) zs.length
  | [], _ => .nil
  | z :: zs, h => (Tins.cons (.nm (h z List.mem_cons_self)) (tin_nms fun y hy => h y (List.mem_cons_of_mem _ hy))).mono (by rw [List.length_cons]; omega)
theorem tin_fu {most q d L : Nat} {fs : List Fu} (h : OkB most q d L fs) (q4 : q ≤ 4) (L30 : L ≤ 30) {f : Fu} (hf : f ∈ fs) : Tin (fuD f) 7600 := by
  have ok := h.ok f hf
  obtain ⟨bs, _, _, bn, _, os⟩ := ok.bs
  have mn : ∀ u ∈ fs.map fuM, Nm u.1 := fun u hu => by
    obtain ⟨g, hg, rfl⟩ := List.mem_map.mp hu
    exact (h.ok g hg).n
  have m3 : ∀ u ∈ fs.map fuM, u.2 ≤ 3 := fun u hu => by
    obtain ⟨g, hg, rfl⟩ := List.mem_map.mp hu
    exact (h.ok g hg).p3
  have p3 := ok.p3
  have c := ok.c
  exact (Tin.tup (.cons (.nm ok.n) (.cons (Tin.tup (tin_nms ok.pn)) (.cons (Tin.tup (tin_sms fun s hs => tin_sm bn mn m3 q4 (os s hs))) .nil)))).mono (by omega)
theorem tin_fus {most q d L : Nat} {fs : List Fu} (h : OkB most q d L fs) (q4 : q ≤ 4) (L30 : L ≤ 30) : ∀ gs : List Fu, (∀ g ∈ gs, g ∈ fs) → Tins (gs.map fuD) (7600 * gs.length)
  | [], _ => .nil
  | g :: gs, hg => (Tins.cons (tin_fu h q4 L30 (hg g List.mem_cons_self)) (tin_fus h q4 L30 gs fun x hx => hg x (List.mem_cons_of_mem _ hx))).mono (by rw [List.length_cons]; omega)
theorem ly_nms : ∀ {zs : List Str}, (∀ z ∈ zs, Nm z) → Lys 0 (zs.map PyData.str)
  | [], _ => .nil
  | z :: zs, h => .cons (.str (h z List.mem_cons_self)) (ly_nms fun y hy => h y (List.mem_cons_of_mem _ hy))
theorem ly_fu {most q d L : Nat} {fs : List Fu} (h : OkB most q d L fs) {f : Fu} (hf : f ∈ fs) : Ly (q + 3 + 2 * d + 2) (fuD f) := by
  have ok := h.ok f hf
  obtain ⟨bs, _, _, bn, _, os⟩ := ok.bs
  have mn : ∀ u ∈ fs.map fuM, Nm u.1 := fun u hu => by
    obtain ⟨g, hg, rfl⟩ := List.mem_map.mp hu
    exact (h.ok g hg).n
  exact Ly.tup (.cons (.str ok.n) (.cons ((Ly.tup (ly_nms ok.pn)).mono (by omega)) (.cons (ly_body fun s hs => ly_sm bn mn (os s hs)) .nil)))
theorem ly_fus {most q d L : Nat} {fs : List Fu} (h : OkB most q d L fs) : ∀ gs : List Fu, (∀ g ∈ gs, g ∈ fs) → Lys (q + 3 + 2 * d + 2) (gs.map fuD)
  | [], _ => .nil
  | g :: gs, hg => .cons (ly_fu h (hg g List.mem_cons_self)) (ly_fus h gs fun x hx => hg x (List.mem_cons_of_mem _ hx))
/-- repr of the functions drawn -/
theorem repr_fus {K : PySem.W.Frag} {H : Hp} {v : V} {most q d L : Nat} {fs : List Fu} (h : OkB most q d L fs) (q4 : q ≤ 4) (d9 : d ≤ 9) (L30 : L ≤ 30) (m6 : most ≤ 6) (dv : Dp K H v (.list (fs.map fuD))) : ReprOf K H v (PyData.list (fs.map fuD)).shown := by
  have t := Tin.lst (tin_fus h q4 L30 fs fun _ h => h)
  have l := ly_fus h fs fun _ h => h
  have fl := h.fl
  refine .inl ⟨_, dv, t.1, ?_, ?_, rfl⟩
  · show PyData.depthAll (fs.map fuD) + 1 ≤ 60
    have := l.2
    omega
  · have := t.2
    exact Nat.le_trans (show _ ≤ 92 * 45601 by omega) (by decide)
end LK
set_option Elab.async false
set_option linter.all false
set_option maxRecDepth 100000
set_option maxHeartbeats 4000000
namespace K26
open PySem PySem.Spec PyProof.Rows L2 Evl LK
/-! drawn rows -/
def bsL : List Str := ["a", "b", "1", "z9"]
def rowShapes (to : Int) (b : Str) : List PyData := [.tuple [.str "set", .str b, .tuple [.str "box", .str "a"], .int to], .tuple [.str "say", .tuple [.str "none"], .int to], .tuple [.str "if", .tuple [.str "box", .str b], .int to, .int 0], .tuple [.str "end"], .tuple [.str "give", .str b, .tuple [.str "number", .int 3], .int to], .tuple [.str "all", .str b, .tuple [.str "box", .str "a"], .int to], .tuple [.str "throw", .tuple [.str "box", .str b]], .tuple [.str "return", .tuple [.str "none"]]]
def RowD (D : PyData) : Prop := ∃ (to : Nat) (b : Str), to < 6 ∧ b ∈ bsL ∧ D ∈ rowShapes to b
def rowsAll : List PyData := (List.range 6).flatMap fun (to : Nat) => bsL.flatMap fun b => rowShapes (to : Int) b
theorem RowD.all {D : PyData} (h : RowD D) : D ∈ rowsAll := by
  obtain ⟨to, b, h1, h2, h3⟩ := h
  exact List.mem_flatMap.mpr ⟨to, List.mem_range.mpr h1, List.mem_flatMap.mpr ⟨b, h2, h3⟩⟩
def say77 : PyData := .tuple [.str "say", .tuple [.str "number", .int 77], .int 0]
def end0 : PyData := .tuple [.str "end"]
def rowB (D : PyData) : Bool := onlyT D && (D.showable && (decide (D.shown.length ≤ 90) && (decide (D.depth ≤ 3) && (D.canLay0 && !PyData.eqv D say77))))
theorem rows_okB : ∀ D ∈ rowsAll, rowB D = true := by decide +kernel
structure RowOk (D : PyData) : Prop where
  o : onlyT D = true
  s : D.showable = true
  l : D.shown.length ≤ 90
  d : D.depth ≤ 3
  c : D.canLay0 = true
  n : PyData.eqv D say77 = false
theorem rows_ok {D : PyData} (h : RowD D) : RowOk D := by
  have e := rows_okB D h.all
  obtain ⟨e1, e⟩ := Bool.and_eq_true_iff.mp e
  obtain ⟨e2, e⟩ := Bool.and_eq_true_iff.mp e
  obtain ⟨e3, e⟩ := Bool.and_eq_true_iff.mp e
  obtain ⟨e4, e⟩ := Bool.and_eq_true_iff.mp e
  obtain ⟨e5, e6⟩ := Bool.and_eq_true_iff.mp e
  exact ⟨e1, e2, of_decide_eq_true e3, of_decide_eq_true e4, e5, by simpa using e6⟩
def spRow (K : PySem.W.Frag) : Sp := fun vs H Q _ => ∃ (d : Dr) (m : Nat) (n : Nat), vs = [.ref d.s, .int m] ∧ StAt H d n ∧ n < 100000000 ∧ 0 < m ∧ m ≤ 6 ∧ ∀ (v : V) (D : PyData) (H' : Hp), RowD D → Dp K H' v D → StAt H' d (n + 3) → LK.Fr d H H' → Q v H'
structure TRo (mg : Str → Option Value) (fT fP : Addr) : Prop where
  take : mg "_law_take" = some (.ref fT)
  pick : mg "_law_pick" = some (.ref fP)
  len : mg "len" = none
section
variable {P : Program} {w : World} {K : PySem.W.Frag} {mg : Str → Option Value} {base : Heap}
theorem scRow : FnScope ["state", "many", "to", "b", "some"] ["state", "many"] (defScope s_law_row) := ⟨rfl, rfl, rfl, by decide +kernel, rfl, by decide +kernel, by decide +kernel⟩
theorem ok_row {f fT fP : Addr} {fd fdT fdP : FuncData} (F : FnP K "_law_row" s_law_row f fd) (FT : FnP K "_law_take" s_law_take fT fdT) (FP : FnP K "_law_pick" s_law_pick fP fdP) (T : TRo mg fT fP) : FnOk P w K mg base CX0 3 f fd ["state", "many"] (spRow K) := by
  have GT : FnOk P w K mg base CX0 1 fT fdT ["state", "many"] spTake := ok_take FT T.len
  have GP : FnOk P w K mg base CX0 2 fP fdP ["state", "some"] (spPick K) := ok_pick FP FT T.take T.len
  have bT : Binds K fdT ["state", "many"] [] := FT.bindsN fun _ _ _ _ _ _ us hl => match us, hl with | [_, _], _ => rfl
  have bP : Binds K fdP ["state", "some"] [] := FP.bindsN fun _ _ _ _ _ _ us hl => match us, hl with | [_, _], _ => rfl
  have nd := scRow.nd
  refine F.ok scRow (fun vs H Q E h => ?_) (fun cdv A outer s H vs Q E hr h => ?_)
  · obtain ⟨d, m, n, rfl, _⟩ := h; rfl
  · obtain ⟨d, m, n, rfl, S, hn, hm0, hm, q⟩ := h
    have hr1 : Room 1 _ := hr.mono (by decide)
    have hr2 : Room 2 _ := hr
    refine ⟨_, PSs.nox (pss_cons (ps_par (i := 2) (j := 3) (by rfl) nd rfl rfl (by decide) rfl rfl (pa_cons (pe_call GT hr1 rfl T.take FT.kp bT .nil pass0 (pa_cons (pv 0) (pa_cons (pv 1) pa_nil))) (pa_cons (pe_call GP hr2 rfl T.pick FP.kp bP .nil pass0 (pa_cons (pv 0) (pa_cons (pe_lst (pa_cons pe_str (pa_cons pe_str (pa_cons pe_str (pa_cons pe_str pa_nil))))) pa_nil))) pa_nil)) (by rfl))
      (pss_cons (ps_set (i := 4) nd rfl (Or.inl rfl) (pe_lst (pa_cons (pe_tup (pa_cons pe_str (pa_cons (pv 3) (pa_cons (pe_tup (pa_cons pe_str (pa_cons pe_str pa_nil))) (pa_cons (pv 2) pa_nil))))) (pa_cons (pe_tup (pa_cons pe_str (pa_cons (pe_tup (pa_cons pe_str pa_nil)) (pa_cons (pv 2) pa_nil)))) (pa_cons (pe_tup (pa_cons pe_str (pa_cons (pe_tup (pa_cons pe_str (pa_cons (pv 3) pa_nil))) (pa_cons (pv 2) (pa_cons pe_int pa_nil))))) (pa_cons (pe_tup (pa_cons pe_str pa_nil)) pa_nil))))))
      (pss_cons (ps_set (i := 4) nd rfl (Or.inl rfl) (pe_op op_cat (pv 4) (pe_lst (pa_cons (pe_tup (pa_cons pe_str (pa_cons (pv 3) (pa_cons (pe_tup (pa_cons pe_str (pa_cons pe_int pa_nil))) (pa_cons (pv 2) pa_nil))))) (pa_cons (pe_tup (pa_cons pe_str (pa_cons (pv 3) (pa_cons (pe_tup (pa_cons pe_str (pa_cons pe_str pa_nil))) (pa_cons (pv 2) pa_nil))))) (pa_cons (pe_tup (pa_cons pe_str (pa_cons (pe_tup (pa_cons pe_str (pa_cons (pv 3) pa_nil))) pa_nil))) pa_nil))))))
      (pss_one (ps_ret (pe_call GP hr2 rfl T.pick FP.kp bP .nil pass0 (pa_cons (pv 0) (pa_cons (pe_op op_cat (pv 4) (pe_lst (pa_cons (pe_tup (pa_cons pe_str (pa_cons (pe_tup (pa_cons pe_str pa_nil)) pa_nil))) pa_nil))) pa_nil)))))))), ?_⟩
    refine ⟨_, rfl, _, rfl, d, m, _, rfl, S, by omega, by omega, by omega, fun r Ha r0 r1 Sa fa => ?_⟩
    refine ⟨_, rfl, by show 4 ≤ sizeLine; decide, fun lb hlb => ?_⟩
    have Sb := Sa.new (o := .lst [.str "a", .str "b", .str "1", .str "z9"]) hlb
    refine ⟨d, .ref lb, _, _, rfl, Sb, by omega, .inl ⟨lb, rfl, .inl (SqL.of upd_same)⟩, (fun z => Sa.ng hlb (V.ref.inj z)), (fun z => nomatch z), (by show 4 ≤ 1000; decide), fun x H0 hx S0 f0 => ?_⟩
    obtain ⟨b, rfl, hb⟩ : ∃ b, x = .str b ∧ b ∈ bsL := by
      simp only [List.mem_cons, List.not_mem_nil, or_false] at hx
      rcases hx with rfl | rfl | rfl | rfl
      · exact ⟨_, rfl, by decide +kernel⟩
      · exact ⟨_, rfl, by decide +kernel⟩
      · exact ⟨_, rfl, by decide +kernel⟩
      · exact ⟨_, rfl, by decide +kernel⟩
    have fr0 : LK.Fr d H H0 := (fa.trans (LK.Fr.new hlb)).trans f0
    obtain ⟨to, rfl⟩ : ∃ to : Nat, r = (to : Int) := ⟨r.toNat, by omega⟩
    have hto : to < 6 := by omega
    clear fa f0 Sb hx hlb Sa r0 r1
    have sm : ∀ {k : Nat}, k ≤ 1000 → k ≤ sizeLine := fun h => Nat.le_trans h (by decide)
    refine ⟨_, _, rfl, ?_⟩
    refine ⟨_, rfl, by show 2 ≤ sizeLine; decide, fun t1 ht1 => ?_⟩
    have s1 : Same H0 (upd H0 t1 (.tup [.str "box", .str "a"])) := same_new ht1
    have kt1 : (upd H0 t1 (.tup [.str "box", .str "a"])) t1 = some (.tup [.str "box", .str "a"]) := upd_same
    generalize upd H0 t1 (.tup [.str "box", .str "a"]) = H1 at s1 kt1
    have S1 := S0.same s1
    refine ⟨_, rfl, by show 4 ≤ sizeLine; decide, fun t2 ht2 => ?_⟩
    have s2 : Same H1 (upd H1 t2 (.tup [.str "set", .str b, .ref t1, .int (to : Int)])) := same_new ht2
    have kt2 : (upd H1 t2 (.tup [.str "set", .str b, .ref t1, .int (to : Int)])) t2 = some (.tup [.str "set", .str b, .ref t1, .int (to : Int)]) := upd_same
    generalize upd H1 t2 (.tup [.str "set", .str b, .ref t1, .int (to : Int)]) = H2 at s2 kt2
    have S2 := S1.same s2
    have kt1 := s2 _ _ kt1
    refine ⟨by show 1 ≤ sizeLine; decide, fun t3 ht3 => ?_⟩
    have s3 : Same H2 (upd H2 t3 (.tup [.str "none"])) := same_new ht3
    have kt3 : (upd H2 t3 (.tup [.str "none"])) t3 = some (.tup [.str "none"]) := upd_same
    generalize upd H2 t3 (.tup [.str "none"]) = H3 at s3 kt3
    have S3 := S2.same s3
    have kt1 := s3 _ _ kt1
    have kt2 := s3 _ _ kt2
    refine ⟨_, rfl, by show 3 ≤ sizeLine; decide, fun t4 ht4 => ?_⟩
    have s4 : Same H3 (upd H3 t4 (.tup [.str "say", .ref t3, .int (to : Int)])) := same_new ht4
    have kt4 : (upd H3 t4 (.tup [.str "say", .ref t3, .int (to : Int)])) t4 = some (.tup [.str "say", .ref t3, .int (to : Int)]) := upd_same
    generalize upd H3 t4 (.tup [.str "say", .ref t3, .int (to : Int)]) = H4 at s4 kt4
    have S4 := S3.same s4
    have kt1 := s4 _ _ kt1
    have kt2 := s4 _ _ kt2
    have kt3 := s4 _ _ kt3
    refine ⟨_, rfl, by show 2 ≤ sizeLine; decide, fun t5 ht5 => ?_⟩
    have s5 : Same H4 (upd H4 t5 (.tup [.str "box", .str b])) := same_new ht5
    have kt5 : (upd H4 t5 (.tup [.str "box", .str b])) t5 = some (.tup [.str "box", .str b]) := upd_same
    generalize upd H4 t5 (.tup [.str "box", .str b]) = H5 at s5 kt5
    have S5 := S4.same s5
    have kt1 := s5 _ _ kt1
    have kt2 := s5 _ _ kt2
    have kt3 := s5 _ _ kt3
    have kt4 := s5 _ _ kt4
    refine ⟨_, rfl, by show 4 ≤ sizeLine; decide, fun t6 ht6 => ?_⟩
    have s6 : Same H5 (upd H5 t6 (.tup [.str "if", .ref t5, .int (to : Int), .int 0])) := same_new ht6
    have kt6 : (upd H5 t6 (.tup [.str "if", .ref t5, .int (to : Int), .int 0])) t6 = some (.tup [.str "if", .ref t5, .int (to : Int), .int 0]) := upd_same
    generalize upd H5 t6 (.tup [.str "if", .ref t5, .int (to : Int), .int 0]) = H6 at s6 kt6
    have S6 := S5.same s6
    have kt1 := s6 _ _ kt1
    have kt2 := s6 _ _ kt2
    have kt3 := s6 _ _ kt3
    have kt4 := s6 _ _ kt4
    have kt5 := s6 _ _ kt5
    refine ⟨by show 1 ≤ sizeLine; decide, fun t7 ht7 => ?_⟩
    have s7 : Same H6 (upd H6 t7 (.tup [.str "end"])) := same_new ht7
    have kt7 : (upd H6 t7 (.tup [.str "end"])) t7 = some (.tup [.str "end"]) := upd_same
    generalize upd H6 t7 (.tup [.str "end"]) = H7 at s7 kt7
    have S7 := S6.same s7
    have kt1 := s7 _ _ kt1
    have kt2 := s7 _ _ kt2
    have kt3 := s7 _ _ kt3
    have kt4 := s7 _ _ kt4
    have kt5 := s7 _ _ kt5
    have kt6 := s7 _ _ kt6
    refine ⟨by show 4 ≤ sizeLine; decide, fun t8 ht8 => ?_⟩
    have s8 : Same H7 (upd H7 t8 (.lst [.ref t2, .ref t4, .ref t6, .ref t7])) := same_new ht8
    have kt8 : (upd H7 t8 (.lst [.ref t2, .ref t4, .ref t6, .ref t7])) t8 = some (.lst [.ref t2, .ref t4, .ref t6, .ref t7]) := upd_same
    generalize upd H7 t8 (.lst [.ref t2, .ref t4, .ref t6, .ref t7]) = H8 at s8 kt8
    have S8 := S7.same s8
    have kt1 := s8 _ _ kt1
    have kt2 := s8 _ _ kt2
    have kt3 := s8 _ _ kt3
    have kt4 := s8 _ _ kt4
    have kt5 := s8 _ _ kt5
    have kt6 := s8 _ _ kt6
    have kt7 := s8 _ _ kt7
    refine ⟨_, rfl, _, rfl, by show 2 ≤ sizeLine; decide, fun t9 ht9 => ?_⟩
    have s9 : Same H8 (upd H8 t9 (.tup [.str "number", .int 3])) := same_new ht9
    have kt9 : (upd H8 t9 (.tup [.str "number", .int 3])) t9 = some (.tup [.str "number", .int 3]) := upd_same
    generalize upd H8 t9 (.tup [.str "number", .int 3]) = H9 at s9 kt9
    have S9 := S8.same s9
    have kt1 := s9 _ _ kt1
    have kt2 := s9 _ _ kt2
    have kt3 := s9 _ _ kt3
    have kt4 := s9 _ _ kt4
    have kt5 := s9 _ _ kt5
    have kt6 := s9 _ _ kt6
    have kt7 := s9 _ _ kt7
    have kt8 := s9 _ _ kt8
    refine ⟨_, rfl, by show 4 ≤ sizeLine; decide, fun t10 ht10 => ?_⟩
    have s10 : Same H9 (upd H9 t10 (.tup [.str "give", .str b, .ref t9, .int (to : Int)])) := same_new ht10
    have kt10 : (upd H9 t10 (.tup [.str "give", .str b, .ref t9, .int (to : Int)])) t10 = some (.tup [.str "give", .str b, .ref t9, .int (to : Int)]) := upd_same
    generalize upd H9 t10 (.tup [.str "give", .str b, .ref t9, .int (to : Int)]) = H10 at s10 kt10
    have S10 := S9.same s10
    have kt1 := s10 _ _ kt1
    have kt2 := s10 _ _ kt2
    have kt3 := s10 _ _ kt3
    have kt4 := s10 _ _ kt4
    have kt5 := s10 _ _ kt5
    have kt6 := s10 _ _ kt6
    have kt7 := s10 _ _ kt7
    have kt8 := s10 _ _ kt8
    have kt9 := s10 _ _ kt9
    refine ⟨_, rfl, by show 2 ≤ sizeLine; decide, fun t11 ht11 => ?_⟩
    have s11 : Same H10 (upd H10 t11 (.tup [.str "box", .str "a"])) := same_new ht11
    have kt11 : (upd H10 t11 (.tup [.str "box", .str "a"])) t11 = some (.tup [.str "box", .str "a"]) := upd_same
    generalize upd H10 t11 (.tup [.str "box", .str "a"]) = H11 at s11 kt11
    have S11 := S10.same s11
    have kt1 := s11 _ _ kt1
    have kt2 := s11 _ _ kt2
    have kt3 := s11 _ _ kt3
    have kt4 := s11 _ _ kt4
    have kt5 := s11 _ _ kt5
    have kt6 := s11 _ _ kt6
    have kt7 := s11 _ _ kt7
    have kt8 := s11 _ _ kt8
    have kt9 := s11 _ _ kt9
    have kt10 := s11 _ _ kt10
    refine ⟨_, rfl, by show 4 ≤ sizeLine; decide, fun t12 ht12 => ?_⟩
    have s12 : Same H11 (upd H11 t12 (.tup [.str "all", .str b, .ref t11, .int (to : Int)])) := same_new ht12
    have kt12 : (upd H11 t12 (.tup [.str "all", .str b, .ref t11, .int (to : Int)])) t12 = some (.tup [.str "all", .str b, .ref t11, .int (to : Int)]) := upd_same
    generalize upd H11 t12 (.tup [.str "all", .str b, .ref t11, .int (to : Int)]) = H12 at s12 kt12
    have S12 := S11.same s12
    have kt1 := s12 _ _ kt1
    have kt2 := s12 _ _ kt2
    have kt3 := s12 _ _ kt3
    have kt4 := s12 _ _ kt4
    have kt5 := s12 _ _ kt5
    have kt6 := s12 _ _ kt6
    have kt7 := s12 _ _ kt7
    have kt8 := s12 _ _ kt8
    have kt9 := s12 _ _ kt9
    have kt10 := s12 _ _ kt10
    have kt11 := s12 _ _ kt11
    refine ⟨_, rfl, by show 2 ≤ sizeLine; decide, fun t13 ht13 => ?_⟩
    have s13 : Same H12 (upd H12 t13 (.tup [.str "box", .str b])) := same_new ht13
    have kt13 : (upd H12 t13 (.tup [.str "box", .str b])) t13 = some (.tup [.str "box", .str b]) := upd_same
    generalize upd H12 t13 (.tup [.str "box", .str b]) = H13 at s13 kt13
    have S13 := S12.same s13
    have kt1 := s13 _ _ kt1
    have kt2 := s13 _ _ kt2
    have kt3 := s13 _ _ kt3
    have kt4 := s13 _ _ kt4
    have kt5 := s13 _ _ kt5
    have kt6 := s13 _ _ kt6
    have kt7 := s13 _ _ kt7
    have kt8 := s13 _ _ kt8
    have kt9 := s13 _ _ kt9
    have kt10 := s13 _ _ kt10
    have kt11 := s13 _ _ kt11
    have kt12 := s13 _ _ kt12
    refine ⟨by show 2 ≤ sizeLine; decide, fun t14 ht14 => ?_⟩
    have s14 : Same H13 (upd H13 t14 (.tup [.str "throw", .ref t13])) := same_new ht14
    have kt14 : (upd H13 t14 (.tup [.str "throw", .ref t13])) t14 = some (.tup [.str "throw", .ref t13]) := upd_same
    generalize upd H13 t14 (.tup [.str "throw", .ref t13]) = H14 at s14 kt14
    have S14 := S13.same s14
    have kt1 := s14 _ _ kt1
    have kt2 := s14 _ _ kt2
    have kt3 := s14 _ _ kt3
    have kt4 := s14 _ _ kt4
    have kt5 := s14 _ _ kt5
    have kt6 := s14 _ _ kt6
    have kt7 := s14 _ _ kt7
    have kt8 := s14 _ _ kt8
    have kt9 := s14 _ _ kt9
    have kt10 := s14 _ _ kt10
    have kt11 := s14 _ _ kt11
    have kt12 := s14 _ _ kt12
    have kt13 := s14 _ _ kt13
    refine ⟨by show 3 ≤ sizeLine; decide, fun t15 ht15 => ?_⟩
    have s15 : Same H14 (upd H14 t15 (.lst [.ref t10, .ref t12, .ref t14])) := same_new ht15
    have kt15 : (upd H14 t15 (.lst [.ref t10, .ref t12, .ref t14])) t15 = some (.lst [.ref t10, .ref t12, .ref t14]) := upd_same
    generalize upd H14 t15 (.lst [.ref t10, .ref t12, .ref t14]) = H15 at s15 kt15
    have S15 := S14.same s15
    have kt1 := s15 _ _ kt1
    have kt2 := s15 _ _ kt2
    have kt3 := s15 _ _ kt3
    have kt4 := s15 _ _ kt4
    have kt5 := s15 _ _ kt5
    have kt6 := s15 _ _ kt6
    have kt7 := s15 _ _ kt7
    have kt8 := s15 _ _ kt8
    have kt9 := s15 _ _ kt9
    have kt10 := s15 _ _ kt10
    have kt11 := s15 _ _ kt11
    have kt12 := s15 _ _ kt12
    have kt13 := s15 _ _ kt13
    have kt14 := s15 _ _ kt14
    refine ⟨t8, t15, _, _, rfl, rfl, kt8, kt15, sm (by simp only [List.length_cons, List.length_nil]; omega), fun t16 ht16 => ?_⟩
    have s16 : Same H15 (upd H15 t16 (.lst ([.ref t2, .ref t4, .ref t6, .ref t7] ++ [.ref t10, .ref t12, .ref t14]))) := same_new ht16
    have kt16 : (upd H15 t16 (.lst ([.ref t2, .ref t4, .ref t6, .ref t7] ++ [.ref t10, .ref t12, .ref t14]))) t16 = some (.lst [.ref t2, .ref t4, .ref t6, .ref t7, .ref t10, .ref t12, .ref t14]) := upd_same
    generalize upd H15 t16 (.lst ([.ref t2, .ref t4, .ref t6, .ref t7] ++ [.ref t10, .ref t12, .ref t14])) = H16 at s16 kt16
    have S16 := S15.same s16
    have kt1 := s16 _ _ kt1
    have kt2 := s16 _ _ kt2
    have kt3 := s16 _ _ kt3
    have kt4 := s16 _ _ kt4
    have kt5 := s16 _ _ kt5
    have kt6 := s16 _ _ kt6
    have kt7 := s16 _ _ kt7
    have kt8 := s16 _ _ kt8
    have kt9 := s16 _ _ kt9
    have kt10 := s16 _ _ kt10
    have kt11 := s16 _ _ kt11
    have kt12 := s16 _ _ kt12
    have kt13 := s16 _ _ kt13
    have kt14 := s16 _ _ kt14
    have kt15 := s16 _ _ kt15
    refine ⟨_, rfl, _, rfl, by show 1 ≤ sizeLine; decide, fun t17 ht17 => ?_⟩
    have s17 : Same H16 (upd H16 t17 (.tup [.str "none"])) := same_new ht17
    have kt17 : (upd H16 t17 (.tup [.str "none"])) t17 = some (.tup [.str "none"]) := upd_same
    generalize upd H16 t17 (.tup [.str "none"]) = H17 at s17 kt17
    have S17 := S16.same s17
    have kt1 := s17 _ _ kt1
    have kt2 := s17 _ _ kt2
    have kt3 := s17 _ _ kt3
    have kt4 := s17 _ _ kt4
    have kt5 := s17 _ _ kt5
    have kt6 := s17 _ _ kt6
    have kt7 := s17 _ _ kt7
    have kt8 := s17 _ _ kt8
    have kt9 := s17 _ _ kt9
    have kt10 := s17 _ _ kt10
    have kt11 := s17 _ _ kt11
    have kt12 := s17 _ _ kt12
    have kt13 := s17 _ _ kt13
    have kt14 := s17 _ _ kt14
    have kt15 := s17 _ _ kt15
    have kt16 := s17 _ _ kt16
    refine ⟨by show 2 ≤ sizeLine; decide, fun t18 ht18 => ?_⟩
    have s18 : Same H17 (upd H17 t18 (.tup [.str "return", .ref t17])) := same_new ht18
    have kt18 : (upd H17 t18 (.tup [.str "return", .ref t17])) t18 = some (.tup [.str "return", .ref t17]) := upd_same
    generalize upd H17 t18 (.tup [.str "return", .ref t17]) = H18 at s18 kt18
    have S18 := S17.same s18
    have kt1 := s18 _ _ kt1
    have kt2 := s18 _ _ kt2
    have kt3 := s18 _ _ kt3
    have kt4 := s18 _ _ kt4
    have kt5 := s18 _ _ kt5
    have kt6 := s18 _ _ kt6
    have kt7 := s18 _ _ kt7
    have kt8 := s18 _ _ kt8
    have kt9 := s18 _ _ kt9
    have kt10 := s18 _ _ kt10
    have kt11 := s18 _ _ kt11
    have kt12 := s18 _ _ kt12
    have kt13 := s18 _ _ kt13
    have kt14 := s18 _ _ kt14
    have kt15 := s18 _ _ kt15
    have kt16 := s18 _ _ kt16
    have kt17 := s18 _ _ kt17
    refine ⟨by show 1 ≤ sizeLine; decide, fun t19 ht19 => ?_⟩
    have s19 : Same H18 (upd H18 t19 (.lst [.ref t18])) := same_new ht19
    have kt19 : (upd H18 t19 (.lst [.ref t18])) t19 = some (.lst [.ref t18]) := upd_same
    generalize upd H18 t19 (.lst [.ref t18]) = H19 at s19 kt19
    have S19 := S18.same s19
    have kt1 := s19 _ _ kt1
    have kt2 := s19 _ _ kt2
    have kt3 := s19 _ _ kt3
    have kt4 := s19 _ _ kt4
    have kt5 := s19 _ _ kt5
    have kt6 := s19 _ _ kt6
    have kt7 := s19 _ _ kt7
    have kt8 := s19 _ _ kt8
    have kt9 := s19 _ _ kt9
    have kt10 := s19 _ _ kt10
    have kt11 := s19 _ _ kt11
    have kt12 := s19 _ _ kt12
    have kt13 := s19 _ _ kt13
    have kt14 := s19 _ _ kt14
    have kt15 := s19 _ _ kt15
    have kt16 := s19 _ _ kt16
    have kt17 := s19 _ _ kt17
    have kt18 := s19 _ _ kt18
    refine ⟨t16, t19, _, _, rfl, rfl, kt16, kt19, sm (by simp only [List.length_cons, List.length_nil]; omega), fun t20 ht20 => ?_⟩
    have s20 : Same H19 (upd H19 t20 (.lst ([.ref t2, .ref t4, .ref t6, .ref t7, .ref t10, .ref t12, .ref t14] ++ [.ref t18]))) := same_new ht20
    have kt20 : (upd H19 t20 (.lst ([.ref t2, .ref t4, .ref t6, .ref t7, .ref t10, .ref t12, .ref t14] ++ [.ref t18]))) t20 = some (.lst [.ref t2, .ref t4, .ref t6, .ref t7, .ref t10, .ref t12, .ref t14, .ref t18]) := upd_same
    generalize upd H19 t20 (.lst ([.ref t2, .ref t4, .ref t6, .ref t7, .ref t10, .ref t12, .ref t14] ++ [.ref t18])) = H20 at s20 kt20
    have S20 := S19.same s20
    have kt1 := s20 _ _ kt1
    have kt2 := s20 _ _ kt2
    have kt3 := s20 _ _ kt3
    have kt4 := s20 _ _ kt4
    have kt5 := s20 _ _ kt5
    have kt6 := s20 _ _ kt6
    have kt7 := s20 _ _ kt7
    have kt8 := s20 _ _ kt8
    have kt9 := s20 _ _ kt9
    have kt10 := s20 _ _ kt10
    have kt11 := s20 _ _ kt11
    have kt12 := s20 _ _ kt12
    have kt13 := s20 _ _ kt13
    have kt14 := s20 _ _ kt14
    have kt15 := s20 _ _ kt15
    have kt16 := s20 _ _ kt16
    have kt17 := s20 _ _ kt17
    have kt18 := s20 _ _ kt18
    have kt19 := s20 _ _ kt19
    refine ⟨d, .ref t20, _, _, rfl, S20, by omega, .inl ⟨t20, rfl, .inl (SqL.of kt20)⟩, (fun z => S19.ng ht20 (V.ref.inj z)), (fun z => nomatch z), (by show 8 ≤ 1000; decide), fun x Hz hx Sz fz => ?_⟩
    have sAll : Same H0 H20 := fun b o e => s20 _ _ (s19 _ _ (s18 _ _ (s17 _ _ (s16 _ _ (s15 _ _ (s14 _ _ (s13 _ _ (s12 _ _ (s11 _ _ (s10 _ _ (s9 _ _ (s8 _ _ (s7 _ _ (s6 _ _ (s5 _ _ (s4 _ _ (s3 _ _ (s2 _ _ (s1 _ _ (e))))))))))))))))))))
    obtain ⟨D, hD, dx⟩ : ∃ D, RowD D ∧ Dp K H20 x D := by
      simp only [List.mem_cons, List.not_mem_nil, or_false] at hx
      rcases hx with rfl | rfl | rfl | rfl | rfl | rfl | rfl | rfl
      · exact ⟨_, ⟨to, b, hto, hb, .head _⟩, (.tup (SqT.of kt2) (.cons (.str _) (.cons (.str _) (.cons (.tup (SqT.of kt1) (.cons (.str _) (.cons (.str _) .nil))) (.cons (.int _) .nil)))))⟩
      · exact ⟨_, ⟨to, b, hto, hb, .tail _ (.head _)⟩, (.tup (SqT.of kt4) (.cons (.str _) (.cons (.tup (SqT.of kt3) (.cons (.str _) .nil)) (.cons (.int _) .nil))))⟩
      · exact ⟨_, ⟨to, b, hto, hb, .tail _ (.tail _ (.head _))⟩, (.tup (SqT.of kt6) (.cons (.str _) (.cons (.tup (SqT.of kt5) (.cons (.str _) (.cons (.str _) .nil))) (.cons (.int _) (.cons (.int _) .nil)))))⟩
      · exact ⟨_, ⟨to, b, hto, hb, .tail _ (.tail _ (.tail _ (.head _)))⟩, (.tup (SqT.of kt7) (.cons (.str _) .nil))⟩
      · exact ⟨_, ⟨to, b, hto, hb, .tail _ (.tail _ (.tail _ (.tail _ (.head _))))⟩, (.tup (SqT.of kt10) (.cons (.str _) (.cons (.str _) (.cons (.tup (SqT.of kt9) (.cons (.str _) (.cons (.int _) .nil))) (.cons (.int _) .nil)))))⟩
      · exact ⟨_, ⟨to, b, hto, hb, .tail _ (.tail _ (.tail _ (.tail _ (.tail _ (.head _)))))⟩, (.tup (SqT.of kt12) (.cons (.str _) (.cons (.str _) (.cons (.tup (SqT.of kt11) (.cons (.str _) (.cons (.str _) .nil))) (.cons (.int _) .nil)))))⟩
      · exact ⟨_, ⟨to, b, hto, hb, .tail _ (.tail _ (.tail _ (.tail _ (.tail _ (.tail _ (.head _))))))⟩, (.tup (SqT.of kt14) (.cons (.str _) (.cons (.tup (SqT.of kt13) (.cons (.str _) (.cons (.str _) .nil))) .nil)))⟩
      · exact ⟨_, ⟨to, b, hto, hb, .tail _ (.tail _ (.tail _ (.tail _ (.tail _ (.tail _ (.tail _ (.head _)))))))⟩, (.tup (SqT.of kt18) (.cons (.str _) (.cons (.tup (SqT.of kt17) (.cons (.str _) .nil)) .nil)))⟩
    exact q x D Hz hD (Dp.tk (fz.tk S20) D dx (rows_ok hD).o) (Sz.mono (by omega)) ((fr0.trans (.same sAll)).trans fz)
end
end K26
set_option Elab.async false
set_option linter.all false
set_option maxRecDepth 100000
set_option maxHeartbeats 4000000
namespace K26
open PySem PySem.Spec PyProof.Rows L2 Evl LK
/-! Tables made in three ways -/
abbrev psT : List Str := ["self", "name", "params", "rows", "lands", "closes"]
abbrev FTi (K : PySem.W.Frag) (f : Addr) (fd : FuncData) : Prop := FunD K "__init__" "Table.__init__" (defArgs sTInit) (defBody sTInit) (defScope sTInit) [] kwT f fd
def gA {α : Type} : List α → List α → List α
  | [s], [c, l, r, p, n] => [s, n, p, r, l, c]
  | _, _ => []
theorem gA_nil {α : Type} {vs zs : List α} (h : ¬ (vs.length = 1 ∧ zs.length = 5)) : gA vs zs = [] := by
  unfold gA
  split
  · exact absurd ⟨rfl, rfl⟩ h
  · rfl
theorem relA {vs : List V} {us : List Value} {zs : List V} {ws : List Value} (h1 : Vals vs us) (h2 : Vals zs ws) : Vals (gA vs zs) (gA us ws) := by
  by_cases h : vs.length = 1 ∧ zs.length = 5
  · obtain ⟨l1, l2⟩ := h
    match vs, us, zs, ws, h1, h2, l1, l2 with
    | _, _, _, _, .cons a .nil, .cons c (.cons l (.cons r (.cons p (.cons n .nil)))), _, _ => exact .cons a (.cons n (.cons p (.cons r (.cons l (.cons c .nil)))))
  · have h' : ¬ (us.length = 1 ∧ ws.length = 5) := by rw [← h1.length, ← h2.length]; exact h
    rw [gA_nil h, gA_nil h']
    exact .nil
theorem bT {K : PySem.W.Frag} {f : Addr} {fd : FuncData} (F : FTi K f fd) : ∃ ds, Vals [V.non, V.non] ds ∧ Binds K fd psT ds :=
  F.binds0 4 (by simp) rfl fun D doc pm an cdv ct us ks l1 l2 => match us, ks, l1, l2 with
    | [a, b, c, e], [k1, k2], _, _ => ⟨_, _, _, _, _, _, rfl, rfl, ⟨_, _, _, _, _, _, rfl, rfl, rfl⟩⟩
theorem kT {K : PySem.W.Frag} {f : Addr} {fd : FuncData} (F : FTi K f fd) : KBn K fd psT 4 ["lands", "closes"] (fun us ws => us ++ ws) (fun vs zs => vs ++ zs) := by
  obtain ⟨mv, h⟩ := F.kbinds0 (ps := psT) 4 ["lands", "closes"] [] (fun us _ ws => us ++ ws) (by simp) (fun _ h => nomatch h) (fun a _ c => Vals.append a c) fun D doc pm an cdv ct us mv ws l1 l2 l3 => match us, mv, ws, l1, l2, l3 with
    | [a, b, c, e], [], [k1, k2], _, _, _ => rfl
  exact h
theorem kA {K : PySem.W.Frag} {f : Addr} {fd : FuncData} (F : FTi K f fd) : KBn K fd psT 1 ["closes", "lands", "rows", "params", "name"] gA gA := by
  obtain ⟨mv, h⟩ := F.kbinds0 (ps := psT) 1 ["closes", "lands", "rows", "params", "name"] [] (fun us _ ws => gA us ws) (by simp) (fun _ h => nomatch h) (fun a _ c => relA a c) fun D doc pm an cdv ct us mv ws l1 l2 l3 => match us, mv, ws, l1, l2, l3 with
    | [a], [], [c, l, r, p, n], _, _, _ => rfl
  exact h
def spMade (C : Addr) : Sp := fun vs H Q _ => ∃ (t hp lp fp ep : Addr) (w : Str) (ps xs : List V) (ms ns : List (Int × V)), vs = [.ref t] ∧ H t = some (.tup [.str w, .ref hp, .ref lp, .ref fp, .ref ep]) ∧ H hp = some (.tup ps) ∧ RowsA H lp xs ∧ Dk H (.ref fp) ms ∧ Dk H (.ref ep) ns ∧
  ∀ (x dx rt la ca : Addr) (H' : Hp) (ms' ns' : List (Int × V)), Same H H' → H x = none → H' x = some (.ins C dx (tfl (.str w) (.ref hp) (.ref rt) (.ref la) (.ref ca))) → H' rt = some (.tup xs) → H la = none → H ca = none → H' la = some (.dK (kvI ms')) → H' ca = some (.dK (kvI ns')) →
    ms'.Perm ms → (ms'.map (·.1)).Pairwise (· ≤ ·) → ns'.Perm ns → (ns'.map (·.1)).Pairwise (· ≤ ·) → Q (.ref x) H'
section
variable {P : Program} {w : World} {K : PySem.W.Frag} {mg : Str → Option Value} {base : Heap} {C : Addr}
theorem Dk.same {H H' : Hp} {v : V} {ms : List (Int × V)} (h : Dk H v ms) (s : Same H H') : Dk H' v ms := ⟨h.1.imp id fun ⟨a, e, z⟩ => ⟨a, e, s _ _ z⟩, h.2⟩
theorem made_free {H : Hp} {x dx b : Addr} {o : HO} (e : H b = some o) (hx : H x = none) (hd : H dx = none) : (upd (upd H dx (.own x)) x (.ins C dx [])) b = some o := by
  rw [upd_ne (ne_of_none e hx), upd_ne (ne_of_none e hd)]; exact e
theorem made_none {H : Hp} {x dx b : Addr} (e : (upd (upd H dx (.own x)) x (.ins C dx [])) b = none) : H b = none := by
  by_cases h1 : b = x
  · rw [h1, upd_same] at e; cases e
  · rw [upd_ne h1] at e
    by_cases h2 : b = dx
    · rw [h2, upd_same] at e; cases e
    · rw [upd_ne h2] at e; exact e
/-- what __init__ is asked when a Table is made -/
theorem ask_tb {H : Hp} {nm : Str} {p r : Addr} {l c : V} {ps xs : List V} {ms ns : List (Int × V)} {Q : VK} {E : XK} (hp : H p = some (.tup ps)) (hR : RowsA H r xs) (hl : Dk H l ms) (hc : Dk H c ns)
    (q : ∀ (x dx rt la ca : Addr) (H' : Hp) (ms' ns' : List (Int × V)), Same H H' → H x = none → H' x = some (.ins C dx (tfl (.str nm) (.ref p) (.ref rt) (.ref la) (.ref ca))) → H' rt = some (.tup xs) → H la = none → H ca = none → H' la = some (.dK (kvI ms')) → H' ca = some (.dK (kvI ns')) →
      ms'.Perm ms → (ms'.map (·.1)).Pairwise (· ≤ ·) → ns'.Perm ns → (ns'.map (·.1)).Pairwise (· ≤ ·) → Q (.ref x) H')
    {x dx : Addr} (hx : H x = none) (hd : H dx = none) (ne : dx ≠ x) : spTInit C [.ref x, .str nm, .ref p, .ref r, l, c] (upd (upd H dx (.own x)) x (.ins C dx [])) (fun v H3 => v = .non ∧ Q (.ref x) H3) E := by
  have s0 : Same H (upd (upd H dx (.own x)) x (.ins C dx [])) := fun b o e => made_free e hx hd
  refine ⟨x, dx, p, r, nm, l, c, ps, xs, ms, ns, rfl, upd_same, s0 _ _ hp, hR.imp (s0 _ _) (s0 _ _), hl.same s0, hc.same s0, fun rt la ca H' ms' ns' o hx' hrt hla hca e1 e2 p1 p2 p3 p4 => ⟨rfl, ?_⟩⟩
  exact q x dx rt la ca H' ms' ns' (fun b o' e => o b o' (ne_of_none e hx) (s0 _ _ e)) hx hx' hrt (made_none hla) (made_none hca) e1 e2 p1 p2 p3 p4
theorem scMade : FnScope ["parts"] ["parts"] (defScope s_law_made) := ⟨rfl, rfl, rfl, by decide +kernel, rfl, by decide +kernel, by decide +kernel⟩
theorem ok_made {f fI : Addr} {fd fdI : FuncData} (F : FnP K "_law_made" s_law_made f fd) (FI : FTi K fI fdI) (MT : Mk K C fI) (TB : TTb K mg C) (GTI : FnOk P w K mg base CX0 2 fI fdI psT (spTInit C)) : FnOk P w K mg base CX0 4 f fd ["parts"] (spMade C) := by
  have kTI := kT FI
  refine F.ok scMade (fun vs H Q E h => ?_) (fun cdv A outer s H vs Q E hr h => ?_)
  · obtain ⟨t, hp, lp, fp, ep, w, ps, xs, ms, ns, rfl, _⟩ := h; rfl
  · obtain ⟨t, hp, lp, fp, ep, w, ps, xs, ms, ns, rfl, ht, h1, h2, h3, h4, q⟩ := h
    have hr3 : Room 3 _ := hr
    refine ⟨_, PSs.nox (pss_one (ps_ret (pe_makeK MT GTI hr3 rfl TB.cT kTI pass0 (pa_cons (pe_ix ix_tup (pv 0) pe_int (fun _ _ => rfl)) (pa_cons (pe_ix ix_tup (pv 0) pe_int (fun _ _ => rfl)) (pa_cons (pe_ix ix_tup (pv 0) pe_int (fun _ _ => rfl)) pa_nil))) (pk_cons (pe_ix ix_tup (pv 0) pe_int (fun _ _ => rfl)) (pk_cons (pe_ix ix_tup (pv 0) pe_int (fun _ _ => rfl)) pk_nil))))), ?_⟩
    have sq := SqT.of (K := K) ht
    refine ⟨_, rfl, t, _, 0, _, rfl, rfl, sq, rfl, _, rfl, t, _, 1, _, rfl, rfl, sq, rfl, _, rfl, t, _, 2, _, rfl, rfl, sq, rfl, _, rfl, t, _, 3, _, rfl, rfl, sq, rfl, _, rfl, t, _, 4, _, rfl, rfl, sq, rfl, rfl, rfl, fun x dx hx hd ne => ?_⟩
    exact ask_tb h1 h2 h3 h4 q hx hd ne
end
end K26
set_option Elab.async false
set_option linter.all false
set_option maxRecDepth 100000
set_option maxHeartbeats 4000000
namespace K26
open PySem PySem.Spec PyProof.Rows L2 Evl LK
/-! what is drawn, as data; when two Tables are equal -/
def fbD : PyData := .tuple [.int 0, .str "b"]
def fqD : PyData := .tuple [.int 0, .str "q"]
def laD (ks : List Int) : List (Int × PyData) := ks.map fun k => (k, fbD)
def clD (ks : List Int) : List (Int × PyData) := ks.map fun k => (k, .int k)
def putI {α : Type} (l : List (Int × α)) (k : Int) (v : α) : List (Int × α) := if l.any (fun m => decide (m.1 = k)) = true then l.map (fun m => if m.1 = k then (m.1, v) else m) else l ++ [(k, v)]
theorem putK_kvI (ms : List (Int × V)) (k : Int) (v : V) : putK (kvI ms) (.inl k : Key) v = kvI (putI ms k v) := by
  have dec : ∀ a : Int, decide ((Sum.inl a : Key) = Sum.inl k) = decide (a = k) := fun a => by rw [key_ll]; rfl
  have e1 : ((kvI ms).any fun kv => decide (kv.1 = (.inl k : Key))) = ms.any fun m => decide (m.1 = k) := by
    unfold kvI
    rw [List.any_map]
    congr 1
    funext m
    exact dec m.1
  unfold putK putI
  rw [e1]
  by_cases h : (ms.any fun m => decide (m.1 = k)) = true
  · rw [if_pos h, if_pos h]
    unfold kvI
    rw [List.map_map, List.map_map]
    refine List.map_congr_left fun m _ => ?_
    show (if (Sum.inl m.1 : Key) = Sum.inl k then ((Sum.inl m.1 : Key), v) else (Sum.inl m.1, m.2)) = (Sum.inl (if m.1 = k then (m.1, v) else m).1, (if m.1 = k then (m.1, v) else m).2)
    by_cases e : m.1 = k
    · rw [if_pos (by rw [e]), if_pos e]
    · rw [if_neg (fun z => e (Sum.inl.inj z)), if_neg e]
  · rw [if_neg h, if_neg h]
    unfold kvI
    rw [List.map_append]
    rfl
theorem putI_keys {α : Type} (l : List (Int × α)) (k : Int) (v : α) : (putI l k v).map (·.1) = if k ∈ l.map (·.1) then l.map (·.1) else l.map (·.1) ++ [k] := by
  have e : (l.any (fun m => decide (m.1 = k)) = true) ↔ k ∈ l.map (·.1) := by
    rw [List.any_eq_true, List.mem_map]
    exact ⟨fun ⟨m, h, d⟩ => ⟨m, h, of_decide_eq_true d⟩, fun ⟨m, h, d⟩ => ⟨m, h, decide_eq_true d⟩⟩
  unfold putI
  by_cases h : k ∈ l.map (·.1)
  · rw [if_pos (e.mpr h), if_pos h, List.map_map]
    refine List.map_congr_left fun m _ => ?_
    show (if m.1 = k then (m.1, v) else m).1 = m.1
    by_cases e : m.1 = k
    · rw [if_pos e]
    · rw [if_neg e]
  · rw [if_neg (fun z => h (e.mp z)), if_neg h, List.map_append]
    rfl
theorem putI_nodup {α : Type} {l : List (Int × α)} (h : (l.map (·.1)).Nodup) (k : Int) (v : α) : ((putI l k v).map (·.1)).Nodup := by
  rw [putI_keys]
  by_cases e : k ∈ l.map (·.1)
  · rw [if_pos e]; exact h
  · rw [if_neg e]
    refine List.nodup_append.mpr ⟨h, by simp, fun a ha b hb => ?_⟩
    rw [List.mem_singleton.mp hb]
    exact fun z => e (by rw [← z]; exact ha)
theorem putI_len {α : Type} (l : List (Int × α)) (k : Int) (v : α) : (putI l k v).length ≤ l.length + 1 := by
  have e := congrArg List.length (putI_keys l k v)
  rw [List.length_map] at e
  rw [e]
  split
  · rw [List.length_map]; omega
  · rw [List.length_append, List.length_map]; simp
theorem putI_mem {α : Type} (l : List (Int × α)) (k : Int) (v : α) : (k, v) ∈ putI l k v := by
  unfold putI
  by_cases h : l.any (fun m => decide (m.1 = k)) = true
  · rw [if_pos h]
    obtain ⟨m, hm, d⟩ := List.any_eq_true.mp h
    have e := of_decide_eq_true d
    refine List.mem_map.mpr ⟨m, hm, ?_⟩
    rw [if_pos e, e]
  · rw [if_neg h]
    exact List.mem_append_right _ (List.mem_singleton.mpr rfl)
def KvI (K : PySem.W.Frag) (H : Hp) (ms : List (Int × V)) (ds : List (Int × PyData)) : Prop := Paired (fun (m : Int × V) (d : Int × PyData) => m.1 = d.1 ∧ Dp K H m.2 d.2 ∧ SeqAt.shaped d.2 = true) ms ds
theorem KvI.kd {K : PySem.W.Frag} {H : Hp} {ms : List (Int × V)} {ds : List (Int × PyData)} (h : KvI K H ms ds) : KvD K H (kvI ms) (kD ds) := by
  unfold KvI at h
  induction h with
  | nil => exact .nil
  | cons g _ ih => exact .cons ⟨by show (Sum.inl _ : Key) = Sum.inl _; rw [g.1], g.2.1, g.2.2⟩ ih
theorem KvI.keys {K : PySem.W.Frag} {H : Hp} {ms : List (Int × V)} {ds : List (Int × PyData)} (h : KvI K H ms ds) : ms.map (·.1) = ds.map (·.1) := by
  unfold KvI at h
  induction h with
  | nil => rfl
  | cons g _ ih => rw [List.map_cons, List.map_cons, ih, g.1]
theorem KvI.put {K : PySem.W.Frag} {H : Hp} {ms : List (Int × V)} {ds : List (Int × PyData)} {v : V} {D : PyData} (h : KvI K H ms ds) (hv : Dp K H v D) (hs : SeqAt.shaped D = true) (k : Int) : KvI K H (putI ms k v) (putI ds k D) := by
  have ek := h.keys
  have ea : (ms.any fun m => decide (m.1 = k)) = ds.any fun m => decide (m.1 = k) := by
    have e1 : (ms.any fun m => decide (m.1 = k)) = (ms.map (·.1)).any fun x => decide (x = k) := by rw [List.any_map]; rfl
    have e2 : (ds.any fun m => decide (m.1 = k)) = (ds.map (·.1)).any fun x => decide (x = k) := by rw [List.any_map]; rfl
    rw [e1, e2, ek]
  unfold putI
  rw [ea]
  by_cases c : (ds.any fun m => decide (m.1 = k)) = true
  · rw [if_pos c, if_pos c]
    clear ea c ek
    unfold KvI at h ⊢
    induction h with
    | nil => exact .nil
    | @cons m d ms ds g _ ih =>
      refine .cons ?_ ih
      by_cases e : m.1 = k
      · have e2 : d.1 = k := g.1.symm.trans e
        simp only [e, e2, if_pos]
        exact ⟨trivial, hv, hs⟩
      · have e2 : ¬ d.1 = k := fun z => e (g.1.trans z)
        simp only [e, e2, if_neg, if_false]
        exact g
  · rw [if_neg c, if_neg c]
    clear ea c ek
    unfold KvI at h ⊢
    induction h with
    | nil => exact .cons ⟨rfl, hv, hs⟩ .nil
    | cons g _ ih => exact .cons g ih
/-- the order changed -/
theorem KvI.perm {K : PySem.W.Frag} {H : Hp} {ms ms' : List (Int × V)} (p : ms'.Perm ms) : ∀ {ds : List (Int × PyData)}, KvI K H ms ds → ∃ ds', ds'.Perm ds ∧ KvI K H ms' ds' := by
  induction p with
  | nil => intro ds h; exact ⟨ds, .refl _, h⟩
  | @cons x l1 l2 _ ih =>
    intro ds h
    unfold KvI at h
    cases h with
    | @cons _ d _ ds g t =>
      obtain ⟨ds', p, k⟩ := ih t
      exact ⟨d :: ds', p.cons _, .cons g k⟩
  | @swap x y l =>
    intro ds h
    unfold KvI at h
    cases h with
    | @cons _ d1 _ ds g1 t =>
      cases t with
      | @cons _ d2 _ ds g2 t => exact ⟨d2 :: d1 :: ds, .swap _ _ _, .cons g2 (.cons g1 t)⟩
  | @trans l1 l2 l3 _ _ ih1 ih2 =>
    intro ds h
    obtain ⟨d2, p2, k2⟩ := ih2 h
    obtain ⟨d1, p1, k1⟩ := ih1 k2
    exact ⟨d1, p1.trans p2, k1⟩
/-! equality -/
theorem valD_mem {ds : List (Int × PyData)} (nd : (ds.map (·.1)).Nodup) {k : Int} {D : PyData} (h : (k, D) ∈ ds) : valD (kD ds) (.inl k) = some D := by
  unfold valD kD
  induction ds with
  | nil => cases h
  | cons d ds ih =>
    rw [List.map_cons, List.nodup_cons] at nd
    rw [List.map_cons]
    rcases List.mem_cons.mp h with e | h
    · rw [List.find?_cons_of_pos (by simp [← e]), ← e]; rfl
    · have ne : ¬ d.1 = k := fun z => nd.1 (by rw [z]; exact List.mem_map.mpr ⟨_, h, rfl⟩)
      rw [List.find?_cons_of_neg (by simpa using ne)]
      exact ih nd.2 h
theorem hits_T {ls : List (Key × PyData)} : ∀ {ks : List (Key × PyData)}, (∀ q ∈ ks, valD ls q.1 = some q.2 ∧ q.2.canLay0 = true) → hitsD ls ks = true
  | [], _ => rfl
  | q :: r, h => by
    obtain ⟨e1, e2⟩ := h q List.mem_cons_self
    show (match valD ls q.1 with | none => false | some e => PyData.eqv q.2 e && hitsD ls r) = true
    rw [e1]
    show (PyData.eqv q.2 q.2 && hitsD ls r) = true
    rw [SeqAt.eqv_refl _ e2, hits_T fun p hp => h p (List.mem_cons_of_mem _ hp)]
    rfl
theorem hits_F {ls : List (Key × PyData)} : ∀ {ks : List (Key × PyData)} {q : Key × PyData} {e : PyData}, q ∈ ks → valD ls q.1 = some e → PyData.eqv q.2 e = false → hitsD ls ks = false
  | p :: r, q, e, h, h1, h2 => by
    show (match valD ls p.1 with | none => false | some e => PyData.eqv p.2 e && hitsD ls r) = false
    rcases List.mem_cons.mp h with rfl | h
    · rw [h1]
      show (PyData.eqv q.2 e && _) = false
      rw [h2]; rfl
    · cases valD ls p.1 with
      | none => rfl
      | some e' =>
        show (PyData.eqv p.2 e' && hitsD ls r) = false
        rw [hits_F h h1 h2, Bool.and_false]
theorem eqvD_perm {ds es : List (Int × PyData)} (p : ds.Perm es) (nd : (es.map (·.1)).Nodup) (cl : ∀ d ∈ es, d.2.canLay0 = true) : eqvD (kD ds) (kD es) = true := by
  unfold eqvD
  have l : ((kD ds).length == (kD es).length) = true := by unfold kD; rw [List.length_map, List.length_map, p.length_eq]; simp
  rw [l, Bool.true_and]
  refine hits_T fun q hq => ?_
  unfold kD at hq
  obtain ⟨d, hd, rfl⟩ := List.mem_map.mp hq
  have hd' := p.mem_iff.mp hd
  exact ⟨valD_mem nd hd', cl d hd'⟩
theorem eqvD_len {ds es : List (Key × PyData)} (h : ds.length ≠ es.length) : eqvD ds es = false := by
  unfold eqvD
  rw [show (ds.length == es.length) = false by simpa using h]
  rfl
/-- a thing put makes it unequal -/
theorem eqvD_put {ds es us : List (Int × PyData)} {k : Int} {D : PyData} (p : es.Perm ds) (q : us.Perm (putI ds k D)) (nd : (ds.map (·.1)).Nodup) (h : ∀ d ∈ ds, d.1 = k → PyData.eqv d.2 D = false) : eqvD (kD es) (kD us) = false := by
  by_cases c : k ∈ ds.map (·.1)
  · obtain ⟨d, hd, ek⟩ := List.mem_map.mp c
    have ndp := putI_nodup nd k D
    have ndu : (us.map (·.1)).Nodup := (q.map (·.1)).nodup_iff.mpr ndp
    have hm : (k, D) ∈ us := q.mem_iff.mpr (putI_mem ds k D)
    unfold eqvD
    have e : hitsD (kD us) (kD es) = false := by
      refine hits_F (q := (Sum.inl d.1, d.2)) (e := D) ?_ ?_ (h d hd ek)
      · unfold kD
        exact List.mem_map.mpr ⟨d, p.mem_iff.mpr hd, rfl⟩
      · rw [ek]
        exact valD_mem ndu hm
    rw [e, Bool.and_false]
  · refine eqvD_len ?_
    unfold kD
    rw [List.length_map, List.length_map, p.length_eq, q.length_eq]
    have e := congrArg List.length (putI_keys ds k D)
    rw [List.length_map, if_neg c, List.length_append, List.length_map] at e
    rw [e]
    simp
theorem all_mid {x y : PyData} (h : PyData.eqv x y = false) : ∀ (a : List PyData) {b b' : List PyData}, PyData.eqvAll (a ++ x :: b) (a ++ y :: b') = false
  | [], b, b' => by
    show PyData.eqvAll (x :: b) (y :: b') = false
    rw [PyData.eqvAll, h]; rfl
  | z :: a, b, b' => by
    show PyData.eqvAll (z :: (a ++ x :: b)) (z :: (a ++ y :: b')) = false
    rw [PyData.eqvAll, all_mid h a, Bool.and_false]
/-- what a Table is made of -/
structure PtD where
  n : Str
  ps : List Str
  rows : List PyData
  la : List (Int × PyData)
  cl : List (Int × PyData)
structure Fits (p : PtD) (t : TbD) : Prop where
  n : t.n = p.n
  ps : t.ps = p.ps
  rows : t.rows = p.rows
  la : t.lands.Perm p.la
  cl : t.closes.Perm p.cl
def Apart (p q : PtD) : Prop := ∀ t u, Fits p t → Fits q u → eqT t u = false
structure OkP (p : PtD) : Prop where
  ps : (PyData.tuple (p.ps.map PyData.str)).canLay0 = true
  rows : (PyData.tuple p.rows).canLay0 = true
  nl : (p.la.map (·.1)).Nodup
  nc : (p.cl.map (·.1)).Nodup
  la : ∀ d ∈ p.la, d.2.canLay0 = true
  cl : ∀ d ∈ p.cl, d.2.canLay0 = true
theorem eqT_T {p : PtD} (k : OkP p) {t u : TbD} (ht : Fits p t) (hu : Fits p u) : eqT t u = true := by
  unfold eqT
  rw [ht.n, hu.n, decide_eq_true rfl, ht.ps, hu.ps, SeqAt.eqv_refl _ k.ps, ht.rows, hu.rows, SeqAt.eqv_refl _ k.rows]
  rw [eqvD_perm (ht.la.trans hu.la.symm) ((hu.la.map (·.1)).nodup_iff.mpr k.nl) (fun d hd => k.la d (hu.la.mem_iff.mp hd)), eqvD_perm (ht.cl.trans hu.cl.symm) ((hu.cl.map (·.1)).nodup_iff.mpr k.nc) (fun d hd => k.cl d (hu.cl.mem_iff.mp hd))]
  rfl
section
variable {n : Str} {ps : List Str} {rows : List PyData} {la cl : List (Int × PyData)}
theorem apart_n {n' : Str} (h : n ≠ n') {ps' : List Str} {rows' : List PyData} {la' cl' : List (Int × PyData)} : Apart ⟨n, ps, rows, la, cl⟩ ⟨n', ps', rows', la', cl'⟩ := fun t u ht hu => by
  unfold eqT
  rw [ht.n, hu.n, decide_eq_false h]; rfl
theorem apart_ps {ps' : List Str} (h : ps.length ≠ ps'.length) {rows' : List PyData} {la' cl' : List (Int × PyData)} {n' : Str} : Apart ⟨n, ps, rows, la, cl⟩ ⟨n', ps', rows', la', cl'⟩ := fun t u ht hu => by
  unfold eqT
  rw [ht.ps, hu.ps, PyData.eqv, SeqAt.eqvAll_other_length (by rw [List.length_map, List.length_map]; exact h)]
  cases decide (t.n = u.n) <;> rfl
theorem apart_rows {rows' : List PyData} (h : PyData.eqvAll rows rows' = false) {ps' : List Str} {la' cl' : List (Int × PyData)} {n' : Str} : Apart ⟨n, ps, rows, la, cl⟩ ⟨n', ps', rows', la', cl'⟩ := fun t u ht hu => by
  unfold eqT
  rw [ht.rows, hu.rows, show PyData.eqv (.tuple rows) (.tuple rows') = false by rw [PyData.eqv]; exact h]
  cases decide (t.n = u.n) <;> cases PyData.eqv (.tuple (t.ps.map PyData.str)) (.tuple (u.ps.map PyData.str)) <;> rfl
theorem apart_la {la' : List (Int × PyData)} (h : ∀ es us, es.Perm la → us.Perm la' → eqvD (kD es) (kD us) = false) {ps' : List Str} {rows' : List PyData} {cl' : List (Int × PyData)} {n' : Str} : Apart ⟨n, ps, rows, la, cl⟩ ⟨n', ps', rows', la', cl'⟩ := fun t u ht hu => by
  unfold eqT
  rw [h _ _ ht.la hu.la]
  cases decide (t.n = u.n) <;> cases PyData.eqv (.tuple (t.ps.map PyData.str)) (.tuple (u.ps.map PyData.str)) <;> cases PyData.eqv (.tuple t.rows) (.tuple u.rows) <;> rfl
theorem apart_cl {cl' : List (Int × PyData)} (h : ∀ es us, es.Perm cl → us.Perm cl' → eqvD (kD es) (kD us) = false) {ps' : List Str} {rows' : List PyData} {la' : List (Int × PyData)} {n' : Str} : Apart ⟨n, ps, rows, la, cl⟩ ⟨n', ps', rows', la', cl'⟩ := fun t u ht hu => by
  unfold eqT
  rw [h _ _ ht.cl hu.cl, Bool.and_false]
  cases decide (t.n = u.n) <;> cases PyData.eqv (.tuple (t.ps.map PyData.str)) (.tuple (u.ps.map PyData.str)) <;> cases PyData.eqv (.tuple t.rows) (.tuple u.rows) <;> rfl
end
end K26
set_option Elab.async false
set_option linter.all false
set_option maxRecDepth 100000
set_option maxHeartbeats 2000000
namespace LK
open PySem PySem.Spec PyProof.Rows L2
/-! t + u of tuples, t empty or not -/
def rCatE (K : PySem.W.Frag) : R2 := fun x y H Q => ∃ a b xs ys, x = .ref a ∧ y = .ref b ∧ SqT K H a xs ∧ SqT K H b ys ∧ ys ≠ [] ∧ xs.length + ys.length ≤ sizeLine ∧ (xs = [] → Q (.ref b) H) ∧ (xs ≠ [] → ∀ p, H p = none → Q (.ref p) (upd H p (.tup (xs ++ ys))))
theorem nil_cat {prog : Program} {w : World} {A : Around} {E : Value → Shared → Prop} {s : Shared} {t b : Addr} {ws : List Value} {Q : Value → Shared → Prop} (ht : s.heap.IsTuple t ([] : List Value).toArray) (hb : s.heap.IsTuple b ws.toArray) (h : Q (.ref b) s) :
    wpAny (model prog w) A (binaryOp .Add (.ref t) (.ref b)) Q E s := by
  obtain ⟨⟨cls, dd, data, sl⟩, ho, hc, n, hd⟩ := id ht
  obtain ⟨⟨cls2, dd2, data2, sl2⟩, ho2, hc2, n2, hd2⟩ := id hb
  simp only at hc hd hc2 hd2
  subst hc hd hc2 hd2
  exact concat_meets ⟨_, ho, rfl⟩ ⟨_, ho2, rfl⟩ noFill_tuple_add seq_tuple_add PySem.F.slot_tuple_add PySem.F.entry_tuple_add (PySem.F.args_tuple_add_2 _ _)
    (tuple_addW0 t b ([] : List Value).toArray ws.toArray n n2 dd dd2 sl sl2 (by simp)) ⟨ho, ho2, h⟩
theorem op_catE {X : Cx} : OpR X (binaryOp .Add) (rCatE X.K) := by
  intro pins s σ H x y v u Q I rx ry h
  obtain ⟨a, b, xs, ys, hx1, hy1, ha, hb, hy, hz, q1, q2⟩ := h
  by_cases hx : xs = []
  · subst hx1; subst hy1
    cases rx
    cases ry
    obtain ⟨its, r1, p1, _⟩ := I.tuple ha
    obtain ⟨its2, r2, p2, _⟩ := I.tuple hb
    subst hx
    cases r1
    exact nil_cat p1 p2 ⟨.ref b, H, I, rfl, q1 rfl⟩
  · exact op_catT pins s σ H x y v u Q I rx ry ⟨a, b, xs, ys, hx1, hy1, ha, hb, hx, hz, fun e => absurd e hy, fun _ => q2 hx⟩
end LK
set_option Elab.async false
set_option linter.all false
set_option maxRecDepth 100000
set_option maxHeartbeats 4000000
namespace K26
open PySem PySem.Spec PyProof.Rows L2 Evl LK
/-! _law_other -/
structure PtsAt (K : PySem.W.Frag) (H : Hp) (t hp lp fp ep : Addr) (xs : List V) (ms ns : List (Int × V)) (p : PtD) : Prop where
  ht : H t = some (.tup [.str p.n, .ref hp, .ref lp, .ref fp, .ref ep])
  hh : H hp = some (.tup (p.ps.map V.str))
  hl : H lp = some (.lst xs)
  dr : DpAll K H xs p.rows
  hf : H fp = some (.dK (kvI ms))
  kl : KvI K H ms p.la
  he : H ep = some (.dK (kvI ns))
  kc : KvI K H ns p.cl
structure ShP (p : PtD) : Prop where
  ps : SeqAt.shaped (.tuple (p.ps.map PyData.str)) = true
  rows : SeqAt.shaped (.tuple p.rows) = true
  nl : (p.la.map (·.1)).Nodup
  nc : (p.cl.map (·.1)).Nodup
  ll : p.la.length ≤ 1000
  lc : p.cl.length ≤ 1000
def psL : List (List Str) := [[], ["a"], ["a", "b"]]
/-- parts as the law draws them -/
structure Drn (p : PtD) (keys : List Int) : Prop where
  n : p.n = "f"
  ps : p.ps ∈ psL
  rows : ∀ D ∈ p.rows, RowD D
  r0 : 0 < p.rows.length
  r6 : p.rows.length ≤ 6
  la : p.la = laD keys
  cl : p.cl = clD keys
  nd : keys.Nodup
  k6 : keys.length ≤ 6
  kb : ∀ k ∈ keys, 0 ≤ k ∧ k < 6
theorem sh_ps : ∀ l ∈ psL, SeqAt.shaped (.tuple (l.map PyData.str)) = true ∧ SeqAt.shaped (.tuple ((l ++ [("q" : Str)]).map PyData.str)) = true ∧ l.length ≤ 2 := by decide +kernel
def MidD (D : PyData) : Prop := D.canLay0 = true ∧ D.depth ≤ 3 ∧ onlyT D = true
theorem lay_mid : ∀ {l : List PyData}, (∀ D ∈ l, MidD D) → PyData.canLayAll0 l = true
  | [], _ => rfl
  | z :: l, h => by
    show (z.canLay0 && PyData.canLayAll0 l) = true
    rw [(h z List.mem_cons_self).1, lay_mid fun D hD => h D (List.mem_cons_of_mem _ hD)]; rfl
theorem deep_mid : ∀ {l : List PyData}, (∀ D ∈ l, MidD D) → PyData.depthAll l ≤ 3
  | [], _ => by decide
  | z :: l, h => by
    have h1 := (h z List.mem_cons_self).2.1
    have h2 := deep_mid fun D hD => h D (List.mem_cons_of_mem _ hD)
    show max z.depth (PyData.depthAll l) ≤ 3
    omega
theorem sh_mid {l : List PyData} (h : ∀ D ∈ l, MidD D) : SeqAt.shaped (.tuple l) = true := by
  show (PyData.canLayAll0 l && decide (PyData.depthAll l + 1 ≤ 64)) = true
  have := deep_mid h
  rw [lay_mid h, decide_eq_true (by omega)]; rfl
theorem only_mid : ∀ {l : List PyData}, (∀ D ∈ l, MidD D) → onlyTs l = true
  | [], _ => rfl
  | z :: l, h => by
    show (onlyT z && onlyTs l) = true
    rw [(h z List.mem_cons_self).2.2, only_mid fun D hD => h D (List.mem_cons_of_mem _ hD)]; rfl
theorem RowD.mid {D : PyData} (h : RowD D) : MidD D := ⟨(rows_ok h).c, (rows_ok h).d, (rows_ok h).o⟩
theorem mid77 : MidD say77 := by unfold MidD; decide +kernel
theorem midEnd : MidD end0 := by unfold MidD; decide +kernel
theorem keys_la (ks : List Int) : (laD ks).map (·.1) = ks := by unfold laD; rw [List.map_map]; exact List.map_id _
theorem keys_cl (ks : List Int) : (clD ks).map (·.1) = ks := by unfold clD; rw [List.map_map]; exact List.map_id _
theorem Drn.sh {p : PtD} {keys : List Int} (h : Drn p keys) : ShP p := by
  refine ⟨(sh_ps _ h.ps).1, sh_mid fun D hD => (h.rows D hD).mid, ?_, ?_, ?_, ?_⟩
  · rw [h.la, keys_la]; exact h.nd
  · rw [h.cl, keys_cl]; exact h.nd
  · rw [h.la]; unfold laD; rw [List.length_map]; have := h.k6; omega
  · rw [h.cl]; unfold clD; rw [List.length_map]; have := h.k6; omega
def onlyK (l : List (Int × PyData)) : Bool := l.all fun d => onlyT d.2
theorem KvI.tk {K : PySem.W.Frag} {H H' : Hp} (t : Tk H H') {ms : List (Int × V)} {ds : List (Int × PyData)} (h : KvI K H ms ds) : onlyK ds = true → KvI K H' ms ds := by
  unfold KvI at h ⊢
  induction h with
  | nil => intro _; exact .nil
  | @cons m d ms ds g _ ih =>
    intro o
    obtain ⟨o1, o2⟩ := Bool.and_eq_true_iff.mp (show (onlyT d.2 && onlyK ds) = true from o)
    exact .cons ⟨g.1, Dp.tk t _ g.2.1 o1, g.2.2⟩ (ih o2)
theorem onlyK_put {ds : List (Int × PyData)} {D : PyData} (h : onlyK ds = true) (hD : onlyT D = true) (k : Int) : onlyK (putI ds k D) = true := by
  unfold onlyK at h ⊢
  rw [List.all_eq_true] at h ⊢
  intro d hd
  unfold putI at hd
  split at hd
  · obtain ⟨e, he, rfl⟩ := List.mem_map.mp hd
    by_cases c : e.1 = k
    · rw [if_pos c]; exact hD
    · rw [if_neg c]; exact h e he
  · rcases List.mem_append.mp hd with hd | hd
    · exact h d hd
    · rw [List.mem_singleton.mp hd]; exact hD
theorem only_la (ks : List Int) : onlyK (laD ks) = true := by
  unfold onlyK laD
  rw [List.all_map, List.all_eq_true]
  intro x _
  rfl
theorem only_cl (ks : List Int) : onlyK (clD ks) = true := by
  unfold onlyK clD
  rw [List.all_map, List.all_eq_true]
  intro x _
  rfl
def spOther (K : PySem.W.Frag) : Sp := fun vs H Q _ => ∃ (d : Dr) (n : Nat) (t hp lp fp ep : Addr) (xs : List V) (ms ns : List (Int × V)) (p : PtD) (keys : List Int), vs = [.ref d.s, .ref t] ∧ StAt H d n ∧ n < 100000000 ∧ PtsAt K H t hp lp fp ep xs ms ns p ∧ Drn p keys ∧ lp ≠ d.g ∧ fp ≠ d.s ∧ ep ≠ d.s ∧
  ∀ (t' hp' lp' fp' ep' : Addr) (xs' : List V) (ms' ns' : List (Int × V)) (p' : PtD) (H' : Hp), LK.Fr d H H' → StAt H' d (n + 2) → PtsAt K H' t' hp' lp' fp' ep' xs' ms' ns' p' → ShP p' → (onlyTs p'.rows = true ∧ onlyK p'.la = true ∧ onlyK p'.cl = true) → Apart p p' → Q (.ref t') H'
theorem PtsAt.fr {K : PySem.W.Frag} {H H' : Hp} {t hp lp fp ep : Addr} {xs : List V} {ms ns : List (Int × V)} {p : PtD} {d : Dr} {n : Nat} (h : PtsAt K H t hp lp fp ep xs ms ns p) (f : LK.Fr d H H') (S : StAt H d n) (lg : lp ≠ d.g) (fs : fp ≠ d.s) (es : ep ≠ d.s)
    (ol : onlyTs p.rows = true) (o1 : onlyK p.la = true) (o2 : onlyK p.cl = true) : PtsAt K H' t hp lp fp ep xs ms ns p := by
  have tk : Tk H H' := f.tk S
  obtain ⟨r, tt, sd, gs, cs, R, _⟩ := S
  have tu : ∀ {a : Addr} {ys : List V}, H a = some (.tup ys) → H' a = some (.tup ys) := fun {a ys} e => f a _ e (ne_of e R.hs (by intro z; cases z)) (ne_of e R.hg (by intro z; cases z))
  exact ⟨tu h.ht, tu h.hh, f _ _ h.hl (ne_of h.hl R.hs (by intro z; cases z)) lg, DpAll.tk tk _ h.dr ol, f _ _ h.hf fs (ne_of h.hf R.hg (by intro z; cases z)), h.kl.tk tk o1, f _ _ h.he es (ne_of h.he R.hg (by intro z; cases z)), h.kc.tk tk o2⟩
theorem PtsAt.same {K : PySem.W.Frag} {H H' : Hp} {t hp lp fp ep : Addr} {xs : List V} {ms ns : List (Int × V)} {p : PtD} (h : PtsAt K H t hp lp fp ep xs ms ns p) (s : Same H H')
    (ol : onlyTs p.rows = true) (o1 : onlyK p.la = true) (o2 : onlyK p.cl = true) : PtsAt K H' t hp lp fp ep xs ms ns p :=
  ⟨s _ _ h.ht, s _ _ h.hh, s _ _ h.hl, DpAll.tk (Tk.same s) _ h.dr ol, s _ _ h.hf, h.kl.tk (Tk.same s) o1, s _ _ h.he, h.kc.tk (Tk.same s) o2⟩
theorem cutV_drop (l : List V) (i : Nat) : cutV l (some ((i : Nat) : Int)) none = l.drop i := by
  unfold cutV
  rw [HT.sIx_nat, HT.sIx_none]
  by_cases h : i ≤ l.length
  · rw [Nat.min_eq_left h, List.take_of_length_le (by rw [List.length_drop]; exact Nat.le_refl _)]
  · rw [Nat.min_eq_right (by omega), List.drop_of_length_le (by omega), List.drop_of_length_le (by omega)]
    simp
theorem DpAll.append {K : PySem.W.Frag} {H : Hp} : ∀ {vs ws : List V} {ds es : List PyData}, DpAll K H vs ds → DpAll K H ws es → DpAll K H (vs ++ ws) (ds ++ es)
  | [], _, [], _, _, h => h
  | _ :: _, _, _ :: _, _, .cons a b, h => .cons a (DpAll.append b h)
theorem DpAll.take {K : PySem.W.Frag} {H : Hp} : ∀ (n : Nat) {vs : List V} {ds : List PyData}, DpAll K H vs ds → DpAll K H (vs.take n) (ds.take n)
  | 0, _, _, _ => .nil
  | _ + 1, [], [], _ => .nil
  | n + 1, _ :: _, _ :: _, .cons a b => .cons a (DpAll.take n b)
theorem DpAll.drop {K : PySem.W.Frag} {H : Hp} : ∀ (n : Nat) {vs : List V} {ds : List PyData}, DpAll K H vs ds → DpAll K H (vs.drop n) (ds.drop n)
  | 0, _, _, h => h
  | _ + 1, [], [], _ => .nil
  | n + 1, _ :: _, _ :: _, .cons _ b => DpAll.drop n b
structure TOt (mg : Str → Option Value) (fT : Addr) : Prop where
  take : mg "_law_take" = some (.ref fT)
  len : mg "len" = none
  dict : mg "dict" = none
section
variable {P : Program} {w : World} {K : PySem.W.Frag} {mg : Str → Option Value} {base : Heap}
theorem scOther : FnScope ["state", "parts", "word", "heads", "lines", "falls", "ends", "way", "at", "more"] ["state", "parts"] (defScope s_law_other) := ⟨rfl, rfl, rfl, by decide +kernel, rfl, by decide +kernel, by decide +kernel⟩
theorem ok_other {f fT : Addr} {fd fdT : FuncData} (F : FnP K "_law_other" s_law_other f fd) (FT : FnP K "_law_take" s_law_take fT fdT) (T : TOt mg fT) : FnOk P w K mg base CX0 2 f fd ["state", "parts"] (spOther K) := by
  have GT : FnOk P w K mg base CX0 1 fT fdT ["state", "many"] spTake := ok_take FT T.len
  have bT : Binds K fdT ["state", "many"] [] := FT.bindsN fun _ _ _ _ _ _ us hl => match us, hl with | [_, _], _ => rfl
  have nd := scOther.nd
  refine F.ok scOther (fun vs H Q E h => ?_) (fun cdv A outer s H vs Q E hr h => ?_)
  · obtain ⟨d, n, t, hp, lp, fp, ep, xs, ms, ns, p, keys, rfl, _⟩ := h; rfl
  · obtain ⟨d, n, t, hp, lp, fp, ep, xs, ms, ns, p, keys, rfl, S, hn, PT, dr, lg, fs, es, q⟩ := h
    have hr1 : Room 1 _ := hr
    have hu := hu_of hr
    refine ⟨_, PSs.nox (pss_cons (ps_asg (pv 1) (pg_tup (by rfl) (pgs_cons (pg_name (i := 2) nd rfl (Or.inl rfl)) (pgs_cons (pg_name (i := 3) nd rfl (Or.inl rfl)) (pgs_cons (pg_name (i := 4) nd rfl (Or.inl rfl)) (pgs_cons (pg_name (i := 5) nd rfl (Or.inl rfl)) (pgs_cons (pg_name (i := 6) nd rfl (Or.inl rfl)) pgs_nil)))))))
      (pss_cons (ps_par (i := 7) (j := 8) (by rfl) nd rfl rfl (by decide) rfl rfl (pa_cons (pe_call GT hr1 rfl T.take FT.kp bT .nil pass0 (pa_cons (pv 0) (pa_cons pe_int pa_nil))) (pa_cons (pe_call GT hr1 rfl T.take FT.kp bT .nil pass0 (pa_cons (pv 0) (pa_cons (pe_callB call_len_seq (by rfl) T.len PySem.boot_len (pa_cons (pv 4) pa_nil)) pa_nil))) pa_nil)) (by rfl))
      (pss_cons (ps_if (pt_cmpR op_eq (pv 7) pe_int (nomark _)) (pss_one (ps_ret (pe_tup (pa_cons (pe_op op_add_str (pv 2) pe_str) (pa_cons (pv 3) (pa_cons (pv 4) (pa_cons (pv 5) (pa_cons (pv 6) pa_nil)))))))) pss_nil)
      (pss_cons (ps_if (pt_cmpR op_eq (pv 7) pe_int (nomark _)) (pss_one (ps_ret (pe_tup (pa_cons (pv 2) (pa_cons (pe_op op_catE (pv 3) (pe_tup (pa_cons pe_str pa_nil))) (pa_cons (pv 4) (pa_cons (pv 5) (pa_cons (pv 6) pa_nil)))))))) pss_nil)
      (pss_cons (ps_if (pt_cmpR op_eq (pv 7) pe_int (nomark _)) (pss_one (ps_ret (pe_tup (pa_cons (pv 2) (pa_cons (pv 3) (pa_cons (pe_op op_cat (pe_op op_cat (pe_slice sl_list (pv 4) po_none (po_some (pv 8))) (pe_lst (pa_cons (pe_tup (pa_cons pe_str (pa_cons (pe_tup (pa_cons pe_str (pa_cons pe_int pa_nil))) (pa_cons pe_int pa_nil)))) pa_nil))) (pe_slice sl_list (pv 4) (po_some (pe_op op_add (pv 8) pe_int)) po_none)) (pa_cons (pv 5) (pa_cons (pv 6) pa_nil)))))))) pss_nil)
      (pss_cons (ps_if (pt_cmpR op_eq (pv 7) pe_int (nomark _)) (pss_one (ps_ret (pe_tup (pa_cons (pv 2) (pa_cons (pv 3) (pa_cons (pe_op op_cat (pv 4) (pe_lst (pa_cons (pe_tup (pa_cons pe_str pa_nil)) pa_nil))) (pa_cons (pv 5) (pa_cons (pv 6) pa_nil)))))))) pss_nil)
      (pss_cons (ps_set (i := 9) nd rfl (Or.inl rfl) (pe_callTy call_dictD (by rfl) T.dict (by decide +kernel) (pa_cons (pe_ifExp (pt_cmpR op_eq (pv 7) pe_int (nomark _)) (pv 5) (pv 6)) pa_nil)))
      (pss_cons (ps_dput hu (pv 9) (pv 8) (pe_ifExp (pt_cmpR op_eq (pv 7) pe_int (nomark _)) (pe_tup (pa_cons pe_int (pa_cons pe_str pa_nil))) (pe_op op_add (pv 8) pe_int)) rfl)
      (pss_one (ps_ret (pe_ifExp (pt_cmpR op_eq (pv 7) pe_int (nomark _)) (pe_tup (pa_cons (pv 2) (pa_cons (pv 3) (pa_cons (pv 4) (pa_cons (pv 9) (pa_cons (pv 6) pa_nil)))))) (pe_tup (pa_cons (pv 2) (pa_cons (pv 3) (pa_cons (pv 4) (pa_cons (pv 5) (pa_cons (pv 9) pa_nil))))))))))))))))), ?_⟩
    have lx : xs.length = p.rows.length := dp_len PT.dr
    refine ⟨_, rfl, t, _, rfl, SqT.of PT.ht, rfl, _, _, rfl, _, _, rfl, _, _, rfl, _, _, rfl, _, _, rfl, rfl, ?_⟩
    refine ⟨_, rfl, d, 6, _, rfl, S, by omega, by decide, by decide, fun way H1 w0 w1 S1 f1 => ?_⟩
    have ol : onlyTs p.rows = true := only_mid fun D hD => (dr.rows D hD).mid
    have o1 : onlyK p.la = true := by rw [dr.la]; exact only_la _
    have o2 : onlyK p.cl = true := by rw [dr.cl]; exact only_cl _
    have P1 := PT.fr f1 S lg fs es ol o1 o2
    refine ⟨_, rfl, _, rfl, lp, xs, rfl, .inl (SqL.of P1.hl), ?_⟩
    have r0 := dr.r0
    have r6 := dr.r6
    refine ⟨d, (xs.length : Int), _, rfl, S1, by omega, by omega, by omega, fun at_ H2 a0 a1 S2 f2 => ?_⟩
    have P2 := P1.fr f2 S1 lg fs es ol o1 o2
    have f12 : LK.Fr d H H2 := f1.trans f2
    clear P1 PT f1 f2
    refine ⟨_, _, rfl, ?_⟩
    obtain ⟨pn, pps, prows, pla, pcl⟩ := p
    -- way == 0
    refine ⟨_, rfl, rfl, _, rfl, ?_⟩
    rw [int_dec]
    by_cases h0 : way = 0
    · rw [decide_eq_true h0]
      refine iteT ?_
      have en : pn = "f" := dr.n
      refine ⟨_, rfl, _, _, rfl, rfl, by show pn.length + ("q" : Str).length ≤ sizeLine; rw [en]; decide +kernel, ?_⟩
      refine ⟨_, rfl, _, rfl, _, rfl, _, rfl, by show 5 ≤ sizeLine; decide, fun t' ht' => ?_⟩
      have s3 := same_new (o := .tup [.str (pn ++ "q"), .ref hp, .ref lp, .ref fp, .ref ep]) ht'
      have P3 := P2.same s3 ol o1 o2
      have sh := dr.sh
      exact q t' hp lp fp ep xs ms ns ⟨pn ++ "q", pps, prows, pla, pcl⟩ _ (f12.trans (.same s3)) (S2.same s3) ⟨upd_same, P3.hh, P3.hl, P3.dr, P3.hf, P3.kl, P3.he, P3.kc⟩ ⟨sh.ps, sh.rows, sh.nl, sh.nc, sh.ll, sh.lc⟩ ⟨ol, o1, o2⟩ (apart_n (by rw [en]; decide +kernel))
    rw [decide_eq_false h0]
    refine iteF ?_
    -- way == 1
    refine ⟨_, rfl, rfl, _, rfl, ?_⟩
    rw [int_dec]
    by_cases h1 : way = 1
    · rw [decide_eq_true h1]
      refine iteT ?_
      refine ⟨_, rfl, _, rfl, by show 1 ≤ sizeLine; decide, fun tq htq => ?_⟩
      have s3 := same_new (o := .tup [.str "q"]) htq
      have eq3 : upd H2 tq (.tup [.str "q"]) tq = some (.tup [.str "q"]) := upd_same
      generalize upd H2 tq (.tup [.str "q"]) = H3 at s3 eq3
      have P3 := P2.same s3 ol o1 o2
      have S3 := S2.same s3
      have sh := dr.sh
      obtain ⟨_, shq, lps⟩ := sh_ps pps dr.ps
      refine ⟨hp, tq, _, _, rfl, rfl, SqT.of P3.hh, SqT.of eq3, by simp, ?_, fun e => ?_, fun ne p4 hp4 => ?_⟩
      · rw [List.length_map]; exact Nat.le_trans (show pps.length + 1 ≤ 3 by omega) (by decide)
      · refine ⟨_, rfl, _, rfl, _, rfl, by show 5 ≤ sizeLine; decide, fun t' ht' => ?_⟩
        have s4 := same_new (o := .tup [.str pn, .ref tq, .ref lp, .ref fp, .ref ep]) ht'
        have P4 := P3.same s4 ol o1 o2
        have e0 : pps = [] := by simpa using e
        exact q t' tq lp fp ep xs ms ns ⟨pn, pps ++ [("q" : Str)], prows, pla, pcl⟩ _ ((f12.trans (.same s3)).trans (.same s4)) (S3.same s4) ⟨upd_same, by rw [e0]; exact s4 _ _ eq3, P4.hl, P4.dr, P4.hf, P4.kl, P4.he, P4.kc⟩ ⟨shq, sh.rows, sh.nl, sh.nc, sh.ll, sh.lc⟩ ⟨ol, o1, o2⟩ (apart_ps (by simp))
      · have s4 := same_new (o := .tup (pps.map V.str ++ [.str "q"])) hp4
        have e4 : upd H3 p4 (.tup (pps.map V.str ++ [.str "q"])) p4 = some (.tup ((pps ++ [("q" : Str)]).map V.str)) := by rw [upd_same, List.map_append]; rfl
        generalize upd H3 p4 (.tup (pps.map V.str ++ [.str "q"])) = H4 at s4 e4
        refine ⟨_, rfl, _, rfl, _, rfl, by show 5 ≤ sizeLine; decide, fun t' ht' => ?_⟩
        have s5 := same_new (o := .tup [.str pn, .ref p4, .ref lp, .ref fp, .ref ep]) ht'
        have P5 := (P3.same s4 ol o1 o2).same s5 ol o1 o2
        exact q t' p4 lp fp ep xs ms ns ⟨pn, pps ++ [("q" : Str)], prows, pla, pcl⟩ _ (((f12.trans (.same s3)).trans (.same s4)).trans (.same s5)) ((S3.same s4).same s5) ⟨upd_same, s5 _ _ e4, P5.hl, P5.dr, P5.hf, P5.kl, P5.he, P5.kc⟩ ⟨shq, sh.rows, sh.nl, sh.nc, sh.ll, sh.lc⟩ ⟨ol, o1, o2⟩ (apart_ps (by simp))
    rw [decide_eq_false h1]
    refine iteF ?_
    obtain ⟨at_, rfl⟩ : ∃ k : Nat, at_ = (k : Int) := ⟨at_.toNat, by omega⟩
    have lpr : prows.length = xs.length := lx.symm
    have hat : at_ < xs.length := by omega
    have big : ∀ {k : Nat}, k ≤ 1000 → k ≤ sizeLine := fun h => Nat.le_trans h (by decide)
    have x6 : xs.length ≤ 6 := by rw [lx]; exact r6
    have sh := dr.sh
    -- way == 2
    refine ⟨_, rfl, rfl, _, rfl, ?_⟩
    rw [int_dec]
    by_cases h2 : way = 2
    · rw [decide_eq_true h2]
      refine iteT ?_
      refine ⟨_, rfl, _, rfl, _, rfl, _, rfl, _, rfl, lp, xs, rfl, SqL.of P2.hl, fun l1 hl1 => ?_⟩
      rw [cutV_take]
      have s3 := same_new (o := .lst (xs.take at_)) hl1
      have e3 : upd H2 l1 (.lst (xs.take at_)) l1 = some (.lst (xs.take at_)) := upd_same
      generalize upd H2 l1 (.lst (xs.take at_)) = H3 at s3 e3
      refine ⟨by show 2 ≤ sizeLine; decide, fun t1 ht1 => ?_⟩
      have s4 := same_new (o := .tup [.str "number", .int 77]) ht1
      have e4 : upd H3 t1 (.tup [.str "number", .int 77]) t1 = some (.tup [.str "number", .int 77]) := upd_same
      generalize upd H3 t1 (.tup [.str "number", .int 77]) = H4 at s4 e4
      refine ⟨by show 3 ≤ sizeLine; decide, fun t2 ht2 => ?_⟩
      have s5 := same_new (o := .tup [.str "say", .ref t1, .int 0]) ht2
      have e5 : upd H4 t2 (.tup [.str "say", .ref t1, .int 0]) t2 = some (.tup [.str "say", .ref t1, .int 0]) := upd_same
      generalize upd H4 t2 (.tup [.str "say", .ref t1, .int 0]) = H5 at s5 e5
      refine ⟨by show 1 ≤ sizeLine; decide, fun l2 hl2 => ?_⟩
      have s6 := same_new (o := .lst [.ref t2]) hl2
      have e6 : upd H5 l2 (.lst [.ref t2]) l2 = some (.lst [.ref t2]) := upd_same
      generalize upd H5 l2 (.lst [.ref t2]) = H6 at s6 e6
      have s36 : Same H3 H6 := fun b o e => s6 _ _ (s5 _ _ (s4 _ _ e))
      have lt : (xs.take at_).length ≤ 6 := by rw [List.length_take]; omega
      refine ⟨l1, l2, _, _, rfl, rfl, s36 _ _ e3, e6, big (by show (xs.take at_).length + 1 ≤ 1000; omega), fun l3 hl3 => ?_⟩
      have s7 := same_new (o := .lst (xs.take at_ ++ [.ref t2])) hl3
      have e7 : upd H6 l3 (.lst (xs.take at_ ++ [.ref t2])) l3 = some (.lst (xs.take at_ ++ [.ref t2])) := upd_same
      generalize upd H6 l3 (.lst (xs.take at_ ++ [.ref t2])) = H7 at s7 e7
      have s27 : Same H2 H7 := fun b o e => s7 _ _ (s36 _ _ (s3 _ _ e))
      refine ⟨_, rfl, _, rfl, _, _, rfl, rfl, _, rfl, lp, xs, rfl, SqL.of (s27 _ _ P2.hl), fun l4 hl4 => ?_⟩
      rw [show ((at_ : Int) + 1) = ((at_ + 1 : Nat) : Int) by omega, cutV_drop]
      have s8 := same_new (o := .lst (xs.drop (at_ + 1))) hl4
      have e8 : upd H7 l4 (.lst (xs.drop (at_ + 1))) l4 = some (.lst (xs.drop (at_ + 1))) := upd_same
      generalize upd H7 l4 (.lst (xs.drop (at_ + 1))) = H8 at s8 e8
      have ld : (xs.drop (at_ + 1)).length ≤ 6 := by rw [List.length_drop]; omega
      refine ⟨l3, l4, _, _, rfl, rfl, s8 _ _ e7, e8, big (by rw [List.length_append]; show (xs.take at_).length + 1 + (xs.drop (at_ + 1)).length ≤ 1000; omega), fun l5 hl5 => ?_⟩
      have s9 := same_new (o := .lst (xs.take at_ ++ [.ref t2] ++ xs.drop (at_ + 1))) hl5
      have e9 : upd H8 l5 (.lst (xs.take at_ ++ [.ref t2] ++ xs.drop (at_ + 1))) l5 = some (.lst (xs.take at_ ++ [.ref t2] ++ xs.drop (at_ + 1))) := upd_same
      generalize upd H8 l5 (.lst (xs.take at_ ++ [.ref t2] ++ xs.drop (at_ + 1))) = H9 at s9 e9
      have s29 : Same H2 H9 := fun b o e => s9 _ _ (s8 _ _ (s27 _ _ e))
      refine ⟨_, rfl, _, rfl, by show 5 ≤ sizeLine; decide, fun t' ht' => ?_⟩
      have s10 := same_new (o := .tup [.str pn, .ref hp, .ref l5, .ref fp, .ref ep]) ht'
      have sA : Same H2 (upd H9 t' (.tup [.str pn, .ref hp, .ref l5, .ref fp, .ref ep])) := fun b o e => s10 _ _ (s29 _ _ e)
      have PA := P2.same sA ol o1 o2
      have k5 := s10 _ _ (s9 _ _ (s8 _ _ (s7 _ _ (s6 _ _ e5))))
      have k4 := s10 _ _ (s9 _ _ (s8 _ _ (s7 _ _ (s6 _ _ (s5 _ _ e4)))))
      have d77 : Dp K (upd H9 t' (.tup [.str pn, .ref hp, .ref l5, .ref fp, .ref ep])) (.ref t2) say77 := .tup (SqT.of k5) (.cons (.str _) (.cons (.tup (SqT.of k4) (.cons (.str _) (.cons (.int _) .nil))) (.cons (.int _) .nil)))
      have mids : ∀ D ∈ prows.take at_ ++ [say77] ++ prows.drop (at_ + 1), MidD D := fun D hD => by
        rcases List.mem_append.mp hD with hD | hD
        · rcases List.mem_append.mp hD with hD | hD
          · exact (dr.rows D (List.mem_of_mem_take hD)).mid
          · rw [List.mem_singleton.mp hD]; exact mid77
        · exact (dr.rows D (List.mem_of_mem_drop hD)).mid
      have hat' : at_ < prows.length := by omega
      refine q t' hp l5 fp ep _ ms ns ⟨pn, pps, prows.take at_ ++ [say77] ++ prows.drop (at_ + 1), pla, pcl⟩ _ (f12.trans (.same sA)) (S2.same sA) ⟨upd_same, PA.hh, s10 _ _ e9, ?_, PA.hf, PA.kl, PA.he, PA.kc⟩ ⟨sh.ps, sh_mid mids, sh.nl, sh.nc, sh.ll, sh.lc⟩ ⟨only_mid mids, o1, o2⟩ (apart_rows ?_)
      · exact DpAll.append (DpAll.append (DpAll.take at_ PA.dr) (.cons d77 .nil)) (DpAll.drop (at_ + 1) PA.dr)
      · have e := List.take_append_drop at_ prows
        have e2 := List.drop_eq_getElem_cons hat'
        rw [e2] at e
        have key := all_mid (rows_ok (dr.rows _ (List.getElem_mem hat'))).n (prows.take at_) (b := prows.drop (at_ + 1)) (b' := prows.drop (at_ + 1))
        rw [e] at key
        rw [List.append_assoc]
        exact key
    rw [decide_eq_false h2]
    refine iteF ?_
    -- way == 3
    refine ⟨_, rfl, rfl, _, rfl, ?_⟩
    rw [int_dec]
    by_cases h3 : way = 3
    · rw [decide_eq_true h3]
      refine iteT ?_
      refine ⟨_, rfl, _, rfl, _, rfl, by show 1 ≤ sizeLine; decide, fun t1 ht1 => ?_⟩
      have s3 := same_new (o := .tup [.str "end"]) ht1
      have e3 : upd H2 t1 (.tup [.str "end"]) t1 = some (.tup [.str "end"]) := upd_same
      generalize upd H2 t1 (.tup [.str "end"]) = H3 at s3 e3
      refine ⟨by show 1 ≤ sizeLine; decide, fun l2 hl2 => ?_⟩
      have s4 := same_new (o := .lst [.ref t1]) hl2
      have e4 : upd H3 l2 (.lst [.ref t1]) l2 = some (.lst [.ref t1]) := upd_same
      generalize upd H3 l2 (.lst [.ref t1]) = H4 at s4 e4
      refine ⟨lp, l2, _, _, rfl, rfl, s4 _ _ (s3 _ _ P2.hl), e4, big (by show xs.length + 1 ≤ 1000; omega), fun l3 hl3 => ?_⟩
      have s5 := same_new (o := .lst (xs ++ [.ref t1])) hl3
      have e5 : upd H4 l3 (.lst (xs ++ [.ref t1])) l3 = some (.lst (xs ++ [.ref t1])) := upd_same
      generalize upd H4 l3 (.lst (xs ++ [.ref t1])) = H5 at s5 e5
      refine ⟨_, rfl, _, rfl, by show 5 ≤ sizeLine; decide, fun t' ht' => ?_⟩
      have s6 := same_new (o := .tup [.str pn, .ref hp, .ref l3, .ref fp, .ref ep]) ht'
      have sA : Same H2 (upd H5 t' (.tup [.str pn, .ref hp, .ref l3, .ref fp, .ref ep])) := fun b o e => s6 _ _ (s5 _ _ (s4 _ _ (s3 _ _ e)))
      have PA := P2.same sA ol o1 o2
      have k3 := s6 _ _ (s5 _ _ (s4 _ _ e3))
      have mids : ∀ D ∈ prows ++ [end0], MidD D := fun D hD => by
        rcases List.mem_append.mp hD with hD | hD
        · exact (dr.rows D hD).mid
        · rw [List.mem_singleton.mp hD]; exact midEnd
      refine q t' hp l3 fp ep _ ms ns ⟨pn, pps, prows ++ [end0], pla, pcl⟩ _ (f12.trans (.same sA)) (S2.same sA) ⟨upd_same, PA.hh, s6 _ _ e5, ?_, PA.hf, PA.kl, PA.he, PA.kc⟩ ⟨sh.ps, sh_mid mids, sh.nl, sh.nc, sh.ll, sh.lc⟩ ⟨only_mid mids, o1, o2⟩ (apart_rows ?_)
      · exact DpAll.append PA.dr (.cons (.tup (SqT.of k3) (.cons (.str _) .nil)) .nil)
      · exact SeqAt.eqvAll_other_length (by simp)
    rw [decide_eq_false h3]
    refine iteF ?_
    -- ways 4 and 5
    have nms : (ms.map (·.1)).Nodup := by rw [P2.kl.keys]; exact sh.nl
    have nns : (ns.map (·.1)).Nodup := by rw [P2.kc.keys]; exact sh.nc
    have k6 := dr.k6
    have lms : ms.length ≤ 6 := by
      have e := congrArg List.length P2.kl.keys
      rw [List.length_map, List.length_map] at e
      have e2 : pla = laD keys := dr.la
      rw [e, e2]; unfold laD; rw [List.length_map]; exact k6
    have lns : ns.length ≤ 6 := by
      have e := congrArg List.length P2.kc.keys
      rw [List.length_map, List.length_map] at e
      have e2 : pcl = clD keys := dr.cl
      rw [e, e2]; unfold clD; rw [List.length_map]; exact k6
    have lll : pla.length ≤ 6 := by
      have e2 : pla = laD keys := dr.la
      rw [e2]; unfold laD; rw [List.length_map]; exact k6
    have llc : pcl.length ≤ 6 := by
      have e2 : pcl = clD keys := dr.cl
      rw [e2]; unfold clD; rw [List.length_map]; exact k6
    have fresh : ∀ {H' : Hp} {a : Addr} {o : HO}, H' a = none → Same H2 H' → ∀ b u, H2 b = some u → b ≠ a := fun h s b u e z => by rw [← z, s _ _ e] at h; cases h
    refine ⟨_, rfl, rfl, _, rfl, ?_⟩
    rw [int_dec]
    by_cases h4 : way = 4
    · rw [decide_eq_true h4]
      refine iteT ⟨_, rfl, fp, _, rfl, .inl P2.hf, fun mo hmo => ?_⟩
      have s3 := same_new (o := .dK (kvI ms)) hmo
      have e3 : upd H2 mo (.dK (kvI ms)) mo = some (.dK (kvI ms)) := upd_same
      generalize hH3 : upd H2 mo (.dK (kvI ms)) = H3 at s3 e3
      refine ⟨_, rfl, rfl, _, rfl, ?_⟩
      rw [int_dec, decide_eq_true h4]
      refine iteT ⟨by show 2 ≤ sizeLine; decide, fun tq htq => ?_⟩
      have s4 := same_new (o := .tup [.int 0, .str "q"]) htq
      have e4 : upd H3 tq (.tup [.int 0, .str "q"]) tq = some (.tup [.int 0, .str "q"]) := upd_same
      have m4 := same_new (o := .tup [.int 0, .str "q"]) htq _ _ e3
      generalize upd H3 tq (.tup [.int 0, .str "q"]) = H4 at s4 e4 m4
      refine ⟨_, rfl, _, rfl, mo, _, rfl, .inl ⟨_, .inl (at_ : Int), m4, rfl, Nat.lt_of_le_of_lt (show (kvI ms).length ≤ 1000 by rw [List.length_map]; omega) (by decide), rfl⟩, ?_⟩
      rw [putK_kvI]
      have s5 : Same H2 (upd H4 mo (.dK (kvI (putI ms (at_ : Int) (.ref tq))))) := fun b o e => by
        rw [upd_ne (ne_of_none e hmo)]; exact s4 _ _ (s3 _ _ e)
      have tqm : tq ≠ mo := fun z => by rw [z, e3] at htq; cases htq
      have e5 : upd H4 mo (.dK (kvI (putI ms (at_ : Int) (.ref tq)))) tq = some (.tup [.int 0, .str "q"]) := by rw [upd_ne tqm]; exact e4
      have m5 : upd H4 mo (.dK (kvI (putI ms (at_ : Int) (.ref tq)))) mo = some (.dK (kvI (putI ms (at_ : Int) (.ref tq)))) := upd_same
      generalize upd H4 mo (.dK (kvI (putI ms (at_ : Int) (.ref tq)))) = H5 at s5 e5 m5
      refine ⟨_, rfl, rfl, _, rfl, ?_⟩
      rw [int_dec, decide_eq_true h4]
      refine iteT ⟨_, rfl, _, rfl, _, rfl, _, rfl, _, rfl, by show 5 ≤ sizeLine; decide, fun t' ht' => ?_⟩
      have s6 := same_new (o := .tup [.str pn, .ref hp, .ref lp, .ref mo, .ref ep]) ht'
      have sA : Same H2 (upd H5 t' (.tup [.str pn, .ref hp, .ref lp, .ref mo, .ref ep])) := fun b o e => s6 _ _ (s5 _ _ e)
      have PA := P2.same sA ol o1 o2
      have dq : Dp K (upd H5 t' (.tup [.str pn, .ref hp, .ref lp, .ref mo, .ref ep])) (.ref tq) fqD := .tup (SqT.of (s6 _ _ e5)) (.cons (.int _) (.cons (.str _) .nil))
      refine q t' hp lp mo ep xs _ ns ⟨pn, pps, prows, putI pla (at_ : Int) fqD, pcl⟩ _ (f12.trans (.same sA)) (S2.same sA) ⟨upd_same, PA.hh, PA.hl, PA.dr, s6 _ _ m5, PA.kl.put dq (by decide +kernel) _, PA.he, PA.kc⟩ ⟨sh.ps, sh.rows, putI_nodup sh.nl _ _, sh.nc, Nat.le_trans (putI_len _ _ _) (by omega), sh.lc⟩ ⟨ol, onlyK_put o1 rfl _, o2⟩
        (apart_la fun es us p1 p2 => eqvD_put p1 p2 sh.nl fun d hd _ => ?_)
      have e2 : pla = laD keys := dr.la
      rw [e2] at hd
      obtain ⟨k, _, rfl⟩ := List.mem_map.mp hd
      show PyData.eqv fbD fqD = false
      decide +kernel
    · rw [decide_eq_false h4]
      refine iteF ⟨_, rfl, ep, _, rfl, .inl P2.he, fun mo hmo => ?_⟩
      have s3 := same_new (o := .dK (kvI ns)) hmo
      have e3 : upd H2 mo (.dK (kvI ns)) mo = some (.dK (kvI ns)) := upd_same
      generalize hH3 : upd H2 mo (.dK (kvI ns)) = H3 at s3 e3
      refine ⟨_, rfl, rfl, _, rfl, ?_⟩
      rw [int_dec, decide_eq_false h4]
      refine iteF ⟨_, rfl, _, _, rfl, rfl, ?_⟩
      refine ⟨_, rfl, _, rfl, mo, _, rfl, .inl ⟨_, .inl (at_ : Int), e3, rfl, Nat.lt_of_le_of_lt (show (kvI ns).length ≤ 1000 by rw [List.length_map]; omega) (by decide), rfl⟩, ?_⟩
      rw [putK_kvI]
      have s5 : Same H2 (upd H3 mo (.dK (kvI (putI ns (at_ : Int) (.int ((at_ : Int) + 50)))))) := fun b o e => by
        rw [upd_ne (ne_of_none e hmo)]; exact s3 _ _ e
      have m5 : upd H3 mo (.dK (kvI (putI ns (at_ : Int) (.int ((at_ : Int) + 50))))) mo = some (.dK (kvI (putI ns (at_ : Int) (.int ((at_ : Int) + 50))))) := upd_same
      generalize upd H3 mo (.dK (kvI (putI ns (at_ : Int) (.int ((at_ : Int) + 50))))) = H5 at s5 m5
      refine ⟨_, rfl, rfl, _, rfl, ?_⟩
      rw [int_dec, decide_eq_false h4]
      refine iteF ⟨_, rfl, _, rfl, _, rfl, _, rfl, _, rfl, by show 5 ≤ sizeLine; decide, fun t' ht' => ?_⟩
      have s6 := same_new (o := .tup [.str pn, .ref hp, .ref lp, .ref fp, .ref mo]) ht'
      have sA : Same H2 (upd H5 t' (.tup [.str pn, .ref hp, .ref lp, .ref fp, .ref mo])) := fun b o e => s6 _ _ (s5 _ _ e)
      have PA := P2.same sA ol o1 o2
      refine q t' hp lp fp mo xs ms _ ⟨pn, pps, prows, pla, putI pcl (at_ : Int) (.int ((at_ : Int) + 50))⟩ _ (f12.trans (.same sA)) (S2.same sA) ⟨upd_same, PA.hh, PA.hl, PA.dr, PA.hf, PA.kl, s6 _ _ m5, PA.kc.put (.int _) rfl _⟩ ⟨sh.ps, sh.rows, sh.nl, putI_nodup sh.nc _ _, sh.ll, Nat.le_trans (putI_len _ _ _) (by omega)⟩ ⟨ol, o1, onlyK_put o2 rfl _⟩
        (apart_cl fun es us p1 p2 => eqvD_put p1 p2 sh.nc fun d hd hk => ?_)
      have e2 : pcl = clD keys := dr.cl
      rw [e2] at hd
      obtain ⟨k, _, rfl⟩ := List.mem_map.mp hd
      have hk' : k = (at_ : Int) := hk
      rw [hk']
      show PyData.eqv (.int (at_ : Int)) (.int ((at_ : Int) + 50)) = false
      rw [PyData.eqv]
      simp
      omega
end
end K26
set_option Elab.async false
set_option linter.all false
set_option maxRecDepth 100000
set_option maxHeartbeats 4000000
namespace K26
open PySem PySem.Spec PyProof.Rows L2 Evl LK
/-! _law_fields_right -/
def entD (ds : List (Int × PyData)) : List PyData := ds.map fun d => .tuple [.int d.1, d.2]
theorem dp_ents {K : PySem.W.Frag} {H : Hp} : ∀ {ts : List Addr} {ms : List (Int × V)} {ds : List (Int × PyData)}, Paired (fun (t : Addr) (m : Int × V) => H t = some (.tup [.int m.1, m.2])) ts ms → KvI K H ms ds → DpAll K H (ts.map V.ref) (entD ds)
  | [], [], [], _, _ => .nil
  | t :: ts, m :: ms, d :: ds, .cons a r, h => by
    unfold KvI at h
    cases h with
    | cons g h =>
      refine .cons ?_ (dp_ents r h)
      refine .tup (SqT.of a) (.cons ?_ (.cons g.2.1 .nil))
      rw [← g.1]
      exact .int _
theorem tin_tins {l : List PyData} {n : Nat} (h : ∀ d ∈ l, Tin d n) : Tins l (n * l.length) := by
  induction l with
  | nil => exact .nil
  | cons d l ih =>
    have e : n * (d :: l).length = n + n * l.length := by rw [List.length_cons, Nat.mul_succ]; omega
    rw [e]
    exact .cons (h d List.mem_cons_self) (ih fun x hx => h x (List.mem_cons_of_mem _ hx))
theorem depth_all {l : List PyData} {n : Nat} (h : ∀ d ∈ l, d.depth ≤ n) : PyData.depthAll l ≤ n := by
  induction l with
  | nil => exact Nat.zero_le _
  | cons d l ih =>
    have h1 := h d List.mem_cons_self
    have h2 := ih fun x hx => h x (List.mem_cons_of_mem _ hx)
    show max d.depth (PyData.depthAll l) ≤ n
    omega
theorem repr_l {K : PySem.W.Frag} {H : Hp} {v : V} {l : List PyData} {n : Nat} (dv : Dp K H v (.list l)) (h : ∀ d ∈ l, Tin d n) (hd : ∀ d ∈ l, d.depth ≤ 10) (n10 : n ≤ 10) (l10 : l.length ≤ 10) : ReprOf K H v (PyData.list l).shown := by
  have t := Tin.lst (tin_tins h)
  have hm : n * l.length ≤ 10 * 10 := Nat.mul_le_mul n10 l10
  refine .inl ⟨_, dv, t.1, ?_, ?_, rfl⟩
  · show PyData.depthAll l + 1 ≤ 60
    have := depth_all hd
    omega
  · have := t.2
    exact Nat.le_trans (show (PyData.list l).shown.length ≤ 10000 by omega) (by decide)
theorem tin_fb : Tin fbD 3 := .tup (.cons (.int (by decide) (by decide)) (.cons (.str (by decide +kernel) (by decide +kernel)) .nil))
theorem tin_la {keys : List Int} (h : ∀ k ∈ keys, 0 ≤ k ∧ k < 6) : ∀ d ∈ entD (laD keys), Tin d 5 ∧ d.depth ≤ 10 := by
  intro d hd
  unfold entD laD at hd
  rw [List.map_map] at hd
  obtain ⟨k, hk, rfl⟩ := List.mem_map.mp hd
  obtain ⟨h0, h1⟩ := h k hk
  refine ⟨.tup (.cons (.int h0 (by omega)) (.cons tin_fb .nil)), ?_⟩
  show max 0 (max (PyData.depth fbD) 0) + 1 ≤ 10
  decide
theorem tin_cl {keys : List Int} (h : ∀ k ∈ keys, 0 ≤ k ∧ k < 6) : ∀ d ∈ entD (clD keys), Tin d 5 ∧ d.depth ≤ 10 := by
  intro d hd
  unfold entD clD at hd
  rw [List.map_map] at hd
  obtain ⟨k, hk, rfl⟩ := List.mem_map.mp hd
  obtain ⟨h0, h1⟩ := h k hk
  refine ⟨(Tin.tup (.cons (.int h0 (by omega)) (.cons (.int h0 (by omega)) .nil))).mono (by decide), ?_⟩
  show max 0 (max 0 0) + 1 ≤ 10
  decide
theorem RowD.tin {D : PyData} (h : RowD D) : Tin D 1 := ⟨(rows_ok h).s, by have := (rows_ok h).l; omega⟩
theorem ps_tin : ∀ l ∈ psL, (PyData.tuple (l.map PyData.str)).showable = true ∧ (PyData.tuple (l.map PyData.str)).shown.length + 2 ≤ 92 * 1 ∧ (PyData.tuple (l.map PyData.str)).depth ≤ 3 := by decide +kernel
/-- two that are in order are the same -/
theorem sorted_same {l1 l2 ms : List (Int × V)} (nd : (ms.map (·.1)).Nodup) (p1 : l1.Perm ms) (p2 : l2.Perm ms) (s1 : (l1.map (·.1)).Pairwise (· ≤ ·)) (s2 : l2.Pairwise fun e f => e.1 ≤ f.1) : l1 = l2 := by
  refine List.Perm.eq_of_pairwise (le := fun e f => e.1 ≤ f.1) (fun a b ha hb h1 h2 => ?_) (List.pairwise_map.mp s1) s2 (p1.trans p2.symm)
  have e : a.1 = b.1 := Int.le_antisymm h1 h2
  have ha' := val_kvI nd (p1.mem_iff.mp ha)
  have hb' := val_kvI nd (p2.mem_iff.mp hb)
  rw [e] at ha'
  have e2 : a.2 = b.2 := Option.some.inj (ha'.symm.trans hb')
  exact Prod.ext e e2
structure TFl (mg : Str → Option Value) : Prop where
  repr : mg "repr" = none
  tuple : mg "tuple" = none
  list : mg "list" = none
  sorted : mg "sorted" = none
def spFlds (K : PySem.W.Frag) (C : Addr) : Sp := fun vs H Q _ => ∃ (x dx rt la ca t hp lp fp ep : Addr) (xs ys : List V) (ms ns m1 n1 : List (Int × V)) (p : PtD) (keys : List Int), vs = [.ref x, .ref t] ∧ PtsAt K H t hp lp fp ep xs ms ns p ∧ Drn p keys ∧
  H x = some (.ins C dx (tfl (.str p.n) (.ref hp) (.ref rt) (.ref la) (.ref ca))) ∧ SqT K H rt ys ∧ DpAll K H ys p.rows ∧ H la = some (.dK (kvI m1)) ∧ H ca = some (.dK (kvI n1)) ∧ m1.Perm ms ∧ (m1.map (·.1)).Pairwise (· ≤ ·) ∧ n1.Perm ns ∧ (n1.map (·.1)).Pairwise (· ≤ ·) ∧
  ∀ H', Same H H' → Q (.bl true) H'
section
variable {P : Program} {w : World} {K : PySem.W.Frag} {mg : Str → Option Value} {base : Heap} {C : Addr}
theorem scFlds : FnScope ["one", "parts", "found", "some"] ["one", "parts"] (defScope s_law_fields_right) := ⟨rfl, rfl, rfl, by decide +kernel, rfl, by decide +kernel, by decide +kernel⟩
theorem ok_flds {f : Addr} {fd : FuncData} (F : FnP K "_law_fields_right" s_law_fields_right f fd) (T : TFl mg) (TB : TTb K mg C) : FnG P w K mg base 1 f fd ["one", "parts"] (spFlds K C) := by
  have nd := scFlds.nd
  refine FnG.of F scFlds (fun vs H Q E h => ?_) (fun cdv A outer s H vs Q E hG hr h => ?_)
  · obtain ⟨x, dx, rt, la, ca, t, hp, lp, fp, ep, xs, ys, ms, ns, m1, n1, p, keys, rfl, _⟩ := h; rfl
  · obtain ⟨x, dx, rt, la, ca, t, hp, lp, fp, ep, xs, ys, ms, ns, m1, n1, p, keys, rfl, PT, dr, hx, hrt, dy, hla, hca, p1, s1, p2, s2, q⟩ := h
    have hu64 := hr.units
    replace hG : (A.deeper (envOfC "_law_fields_right" (defScope s_law_fields_right) s.heap.objs.size f cdv)).guards = some [] := hG
    refine ⟨_, PSs.nox (pss_cons (ps_if (pt_cmpR op_ne (pe_callB (call_reprQ hG hu64) (by rfl) T.repr (by decide +kernel) (pa_cons (pe_tup (pa_cons (pe_fld (pv 0) rfl) (pa_cons (pe_fld (pv 0) rfl) (pa_cons (pe_fld (pv 0) rfl) pa_nil)))) pa_nil)) (pe_callB (call_reprQ hG hu64) (by rfl) T.repr (by decide +kernel) (pa_cons (pe_tup (pa_cons (pe_ix ix_tup (pv 1) pe_int (fun _ _ => rfl)) (pa_cons (pe_ix ix_tup (pv 1) pe_int (fun _ _ => rfl)) (pa_cons (pe_callTy call_tuple_of (by rfl) T.tuple (by decide +kernel) (pa_cons (pe_ix ix_tup (pv 1) pe_int (fun _ _ => rfl)) pa_nil)) pa_nil)))) pa_nil)) (nomark _)) (pss_one (ps_ret pe_bl)) pss_nil)
      (pss_cons (ps_for PassesOwn.never rfl (pi_list (pe_lst (pa_cons (pe_tup (pa_cons (pe_fld (pv 0) rfl) (pa_cons (pe_ix ix_tup (pv 1) pe_int (fun _ _ => rfl)) pa_nil))) (pa_cons (pe_tup (pa_cons (pe_fld (pv 0) rfl) (pa_cons (pe_ix ix_tup (pv 1) pe_int (fun _ _ => rfl)) pa_nil))) pa_nil)))) (pg_tup (by rfl) (pgs_cons (pg_name (i := 2) nd rfl (Or.inl rfl)) (pgs_cons (pg_name (i := 3) nd rfl (Or.inl rfl)) pgs_nil))) (pss_one (ps_if (pt_cmpR op_ne (pe_callB (call_reprQ hG hu64) (by rfl) T.repr (by decide +kernel) (pa_cons (LiI.pe_listItems (by rfl) (pv 2) (by rfl) T.list (by decide +kernel)) pa_nil)) (pe_callB (call_reprQ hG hu64) (by rfl) T.repr (by decide +kernel) (pa_cons (pe_callB (id := "sorted") (cr_sortedItK (by rfl)) (by rfl) T.sorted (by decide +kernel) (pa_cons (pe_bm0 PySem.F.plainAttrs_dict PySem.F.slot_dict_items PySem.F.type_dict_items mt_itemsK (pv 3)) pa_nil)) pa_nil)) (nomark _)) (pss_one (ps_ret pe_bl)) pss_nil)))
      (pss_one (ps_ret pe_bl)))), ?_⟩
    have ol : onlyTs p.rows = true := only_mid fun D hD => (dr.rows D hD).mid
    have o1 : onlyK p.la = true := by rw [dr.la]; exact only_la _
    have o2 : onlyK p.cl = true := by rw [dr.cl]; exact only_cl _
    have r6 := dr.r6
    have rp : ∀ {H' : Hp} {v a b c : Addr} {zs : List V}, H' v = some (.tup [.str p.n, .ref b, .ref c]) → SqT K H' b (p.ps.map V.str) → SqT K H' c zs → DpAll K H' zs p.rows → ReprOf K H' (.ref v) (PyData.tuple [.str p.n, .tuple (p.ps.map PyData.str), .tuple p.rows]).shown := by
      intro H' v a b c zs hv hb hc hd
      have tr : Tin (.tuple p.rows) (1 * p.rows.length + 1) := .tup (tin_tins fun D hD => (dr.rows D hD).tin)
      obtain ⟨a1, a2, a3⟩ := ps_tin p.ps dr.ps
      have tp : Tin (.tuple (p.ps.map PyData.str)) 1 := ⟨a1, a2⟩
      have tn : Tin (.str p.n) 1 := by rw [dr.n]; exact .str (by decide +kernel) (by decide +kernel)
      have tt := Tin.tup (.cons tn (.cons tp (.cons tr .nil)))
      refine .inl ⟨_, .tup (SqT.of hv) (.cons (.str _) (.cons (.tup hb (dp_strs _)) (.cons (.tup hc hd) .nil))), tt.1, ?_, ?_, rfl⟩
      · have d1 : PyData.depthAll p.rows ≤ 3 := depth_all fun D hD => (rows_ok (dr.rows D hD)).d
        show max 0 (max (PyData.tuple (p.ps.map PyData.str)).depth (max (PyData.depthAll p.rows + 1) 0)) + 1 ≤ 60
        omega
      · have := tt.2
        exact Nat.le_trans (show (PyData.tuple [.str p.n, .tuple (p.ps.map PyData.str), .tuple p.rows]).shown.length ≤ 10000 by omega) (by decide)
    have sq := SqT.of (K := K) PT.ht
    -- the three fields
    refine ⟨_, rfl, x, C, dx, _, _, rfl, hx, TB.cl, TB.nN, tfl_n _ _ _ _ _, _, rfl, x, C, dx, _, _, rfl, hx, TB.cl, TB.nP, tfl_p _ _ _ _ _, _, rfl, x, C, dx, _, _, rfl, hx, TB.cl, TB.nR, tfl_r _ _ _ _ _, by show 3 ≤ sizeLine; decide, fun t1 ht1 => ?_⟩
    have e1 := same_new (o := .tup [.str p.n, .ref hp, .ref rt]) ht1
    have k1 : upd H t1 (.tup [.str p.n, .ref hp, .ref rt]) t1 = some (.tup [.str p.n, .ref hp, .ref rt]) := upd_same
    generalize upd H t1 (.tup [.str p.n, .ref hp, .ref rt]) = H1 at e1 k1
    have P1 := PT.same e1 ol o1 o2
    refine ⟨.ref t1, _, rfl, rp (a := t1) k1 (SqT.of P1.hh) ((Tk.same e1).seqT hrt) (DpAll.tk (Tk.same e1) _ dy ol), ?_⟩
    have sq1 := SqT.of (K := K) P1.ht
    refine ⟨_, rfl, t, _, 0, _, rfl, rfl, sq1, rfl, _, rfl, t, _, 1, _, rfl, rfl, sq1, rfl, _, rfl, t, _, 2, _, rfl, rfl, sq1, rfl, lp, xs, rfl, .inl ⟨SqL.of P1.hl, fun t2 ht2 => ?_⟩⟩
    have e2 := same_new (o := .tup xs) ht2
    have k2 : upd H1 t2 (.tup xs) t2 = some (.tup xs) := upd_same
    generalize upd H1 t2 (.tup xs) = H2 at e2 k2
    have P2 := P1.same e2 ol o1 o2
    refine ⟨by show 3 ≤ sizeLine; decide, fun t3 ht3 => ?_⟩
    have e3 := same_new (o := .tup [.str p.n, .ref hp, .ref t2]) ht3
    have k3 : upd H2 t3 (.tup [.str p.n, .ref hp, .ref t2]) t3 = some (.tup [.str p.n, .ref hp, .ref t2]) := upd_same
    generalize upd H2 t3 (.tup [.str p.n, .ref hp, .ref t2]) = H3 at e3 k3
    have P3 := P2.same e3 ol o1 o2
    refine ⟨.ref t3, _, rfl, rp (a := t3) k3 (SqT.of P3.hh) (SqT.of (e3 _ _ k2)) P3.dr, rfl, _, rfl, ?_⟩
    generalize (PyData.tuple [.str p.n, .tuple (p.ps.map PyData.str), .tuple p.rows]).shown = rr
    rw [show (!decide (V.str rr = V.str rr)) = false by rw [decide_eq_true rfl]; rfl]
    refine iteF ?_
    -- the loop
    have s03 : Same H H3 := fun b o e => e3 _ _ (e2 _ _ (e1 _ _ e))
    have hx3 := s03 _ _ hx
    have sq3 := SqT.of (K := K) P3.ht
    clear rp
    refine ⟨_, rfl, x, C, dx, _, _, rfl, hx3, TB.cl, TB.nL, tfl_l _ _ _ _ _, _, rfl, t, _, 3, _, rfl, rfl, sq3, rfl, by show 2 ≤ sizeLine; decide, fun t5 ht5 => ?_⟩
    have e5 := same_new (o := .tup [.ref la, .ref fp]) ht5
    have k5 : upd H3 t5 (.tup [.ref la, .ref fp]) t5 = some (.tup [.ref la, .ref fp]) := upd_same
    generalize upd H3 t5 (.tup [.ref la, .ref fp]) = H5 at e5 k5
    have P5 := P3.same e5 ol o1 o2
    refine ⟨_, rfl, x, C, dx, _, _, rfl, e5 _ _ hx3, TB.cl, TB.nC, tfl_c _ _ _ _ _, _, rfl, t, _, 4, _, rfl, rfl, SqT.of P5.ht, rfl, by show 2 ≤ sizeLine; decide, fun t6 ht6 => ?_⟩
    have e6 := same_new (o := .tup [.ref ca, .ref ep]) ht6
    have k6 : upd H5 t6 (.tup [.ref ca, .ref ep]) t6 = some (.tup [.ref ca, .ref ep]) := upd_same
    generalize upd H5 t6 (.tup [.ref ca, .ref ep]) = H6 at e6 k6
    refine ⟨by show 2 ≤ sizeLine; decide, fun l hl => ?_⟩
    have e7 := same_new (o := .lst [.ref t5, .ref t6]) hl
    have k7 : upd H6 l (.lst [.ref t5, .ref t6]) l = some (.lst [.ref t5, .ref t6]) := upd_same
    generalize upd H6 l (.lst [.ref t5, .ref t6]) = H7 at e7 k7
    have s07 : Same H H7 := fun b o e => e7 _ _ (e6 _ _ (e5 _ _ (s03 _ _ e)))
    have P7 := PT.same s07 ol o1 o2
    have nms : (ms.map (·.1)).Nodup := by rw [P7.kl.keys]; exact dr.sh.nl
    have nns : (ns.map (·.1)).Nodup := by rw [P7.kc.keys]; exact dr.sh.nc
    refine ⟨l, rfl, ⟨_, SqL.of k7⟩, for_list (K := K) (a := l) (xs := [.ref t5, .ref t6]) (fun i σ H' => ∃ w2 w3, σ = [some (.ref x), some (.ref t), w2, w3] ∧ Same H7 H') ⟨_, _, rfl, Same.refl _⟩ (fun i σ H' _ ⟨_, _, _, h⟩ => SqL.of (h _ _ k7)) ?_ ?_⟩
    · rintro i y σ H8 hy ⟨w2, w3, rfl, s8⟩
      have P8 := P7.same s8 ol o1 o2
      obtain ⟨ty, fa, sa, mf, mm, ds, rfl, hty, hfa, hsa, pf, sf, km, nm, lds, tds⟩ : ∃ (ty fa sa : Addr) (mf mm : List (Int × V)) (ds : List (Int × PyData)), y = .ref ty ∧ H8 ty = some (.tup [.ref fa, .ref sa]) ∧ H8 fa = some (.dK (kvI mf)) ∧ H8 sa = some (.dK (kvI mm)) ∧ mf.Perm mm ∧ (mf.map (·.1)).Pairwise (· ≤ ·) ∧ KvI K H8 mm ds ∧ (mm.map (·.1)).Nodup ∧ ds.length ≤ 6 ∧ ((∀ d ∈ entD ds, Tin d 5 ∧ d.depth ≤ 10) ∧ onlyK ds = true) := by
        match i, hy with
        | 0, h => exact ⟨t5, la, fp, m1, ms, _, (Option.some.inj h).symm, s8 _ _ (e7 _ _ (e6 _ _ k5)), s8 _ _ (s07 _ _ hla), P8.hf, p1, s1, P8.kl, nms, by rw [dr.la]; unfold laD; rw [List.length_map]; exact dr.k6, by rw [dr.la]; exact ⟨tin_la dr.kb, only_la _⟩⟩
        | 1, h => exact ⟨t6, ca, ep, n1, ns, _, (Option.some.inj h).symm, s8 _ _ (e7 _ _ k6), s8 _ _ (s07 _ _ hca), P8.he, p2, s2, P8.kc, nns, by rw [dr.cl]; unfold clD; rw [List.length_map]; exact dr.k6, by rw [dr.cl]; exact ⟨tin_cl dr.kb, only_cl _⟩⟩
      obtain ⟨ds', pd, kf⟩ := KvI.perm pf km
      have tds' : ∀ d ∈ entD ds', Tin d 5 ∧ d.depth ≤ 10 := fun d hd => tds.1 d ((pd.map _).mem_iff.mp hd)
      have od' : onlyK ds' = true := by
        unfold onlyK at tds ⊢
        rw [List.all_eq_true]
        intro d hd
        exact List.all_eq_true.mp tds.2 d (pd.mem_iff.mp hd)
      have lds' : (entD ds').length ≤ 10 := by unfold entD; rw [List.length_map, pd.length_eq]; omega
      have lmm : mm.length ≤ 1000 := by
        have e := congrArg List.length km.keys
        rw [List.length_map, List.length_map] at e
        omega
      refine ⟨ty, _, rfl, SqT.of hty, rfl, _, _, rfl, _, _, rfl, rfl, ?_⟩
      refine ⟨_, rfl, fa, kvI mf, rfl, hfa, fun H9 p9 ts s9 n9 u1 u2 h9 pt => ?_⟩
      have pt' : Paired (fun (t : Addr) (m : Int × V) => H9 t = some (.tup [.int m.1, m.2])) ts mf := by
        clear h9 pf sf kf hfa u1 u2
        generalize hk : kvI mf = kk at pt
        induction pt generalizing mf with
        | nil =>
          cases mf with
          | nil => exact .nil
          | cons a b => cases hk
        | cons g _ ih =>
          cases mf with
          | nil => cases hk
          | cons m mf =>
            obtain ⟨e1, e2⟩ := List.cons.inj hk
            subst e1
            exact .cons g (ih mf e2)
      refine ⟨.ref p9, _, rfl, repr_l (.lst (SqL.of h9) (dp_ents pt' (kf.tk (Tk.same s9) od'))) (fun d hd => (tds' d hd).1) (fun d hd => (tds' d hd).2) (by decide) lds', ?_⟩
      refine ⟨_, rfl, .inr (.inr (.inl ⟨rfl, .inl ⟨_, s9 _ _ hsa⟩⟩)), sa, kvI mm, rfl, rfl, s9 _ _ hsa, fun pv hpv => ?_⟩
      have s10 := same_new (o := L2.DX.itemsO pv sa) hpv
      have k10 : upd H9 pv (L2.DX.itemsO pv sa) pv = some (L2.DX.itemsO pv sa) := upd_same
      generalize upd H9 pv (L2.DX.itemsO pv sa) = H10 at s10 k10
      refine ⟨pv, sa, mm, rfl, k10, s10 _ _ (s9 _ _ hsa), nm, lmm, fun H11 l11 ps s11 pp sp h11 t11 => ?_⟩
      have es := sorted_same nm pf pp sf sp
      have s8b : Same H8 H11 := fun b o e => s11 _ _ (s10 _ _ (s9 _ _ e))
      have pq : Paired (fun (t : Addr) (m : Int × V) => H11 t = some (.tup [.int m.1, m.2])) (ps.map (·.1)) mf := by
        rw [es]
        clear h11 pp sp es
        induction ps with
        | nil => exact .nil
        | cons z ps ih => exact .cons (t11 z List.mem_cons_self) (ih fun w hw => t11 w (List.mem_cons_of_mem _ hw))
      refine ⟨.ref l11, _, rfl, repr_l (.lst (xs := (ps.map (·.1)).map V.ref) (SqL.of (by rw [List.map_map]; exact h11)) (dp_ents pq (kf.tk (Tk.same s8b) od'))) (fun d hd => (tds' d hd).1) (fun d hd => (tds' d hd).2) (by decide) lds', rfl, _, rfl, ?_⟩
      generalize (PyData.list (entD ds')).shown = rr
      rw [show (!decide (V.str rr = V.str rr)) = false by rw [decide_eq_true rfl]; rfl]
      refine iteF ?_
      exact ⟨_, _, rfl, fun b o e => s8b _ _ (s8 _ _ e)⟩
    · rintro σ H8 ⟨w2, w3, rfl, s8⟩
      exact q _ fun b o e => s8 _ _ (s07 _ _ e)
end
end K26
set_option Elab.async false
set_option linter.all false
set_option maxRecDepth 100000
set_option maxHeartbeats 8000000
namespace K26
open PySem PySem.Spec PyProof.Rows L2 Evl LK
/-! the law -/
theorem pe_or {X : Cx} {e : Expr} {t1 t2 : TE} (h1 : PE X e t1) (h2 : PE X e t2) : PE X e (fun σ H Q => t1 σ H Q ∨ t2 σ H Q) :=
  ⟨fun pins s σ H Q I h => h.elim (h1.run pins s σ H Q I) (h2.run pins s σ H Q I)⟩
theorem first_self {K : PySem.W.Frag} {C : Addr} : PySem.W.notFirst K C (.ref C) = true := by simp [PySem.W.notFirst]
theorem merge_kvI : ∀ (ms acc : List (Int × V)), ((acc ++ ms).map (·.1)).Nodup → mergeK (kvI acc) (kvI ms) = kvI (acc ++ ms)
  | [], acc, _ => by rw [List.append_nil]; rfl
  | m :: ms, acc, nd => by
    have fresh : m.1 ∉ acc.map (·.1) := by
      intro h
      rw [List.map_append] at nd
      exact (List.nodup_append.mp nd).2.2 m.1 h m.1 (by simp) rfl
    have e : putK (kvI acc) (.inl m.1 : Key) m.2 = kvI (acc ++ [m]) := by
      rw [putK_kvI]
      unfold putI
      rw [if_neg]
      intro h
      obtain ⟨a, ha, d⟩ := List.any_eq_true.mp h
      exact fresh (List.mem_map.mpr ⟨a, ha, of_decide_eq_true d⟩)
    show mergeK (putK (kvI acc) (.inl m.1 : Key) m.2) (kvI ms) = _
    rw [e, merge_kvI ms (acc ++ [m]) (by rw [List.append_assoc]; exact nd), List.append_assoc]
    rfl
theorem pair_app {α β : Type} {R : α → β → Prop} {a : α} {b : β} : ∀ {xs : List α} {ys : List β}, Paired R xs ys → R a b → Paired R (xs ++ [a]) (ys ++ [b])
  | _, _, .nil, h => .cons h .nil
  | _, _, .cons h1 h2, h => .cons h1 (pair_app h2 h)
theorem merge0 {ms : List (Int × V)} (nd : (ms.map (·.1)).Nodup) : mergeK [] (kvI ms) = kvI ms := merge_kvI ms [] nd
theorem lay_la {keys : List Int} : ∀ d ∈ laD keys, d.2.canLay0 = true := fun d hd => by
  obtain ⟨k, _, rfl⟩ := List.mem_map.mp hd
  show fbD.canLay0 = true
  decide +kernel
theorem lay_cl {keys : List Int} : ∀ d ∈ clD keys, d.2.canLay0 = true := fun d hd => by
  obtain ⟨k, _, rfl⟩ := List.mem_map.mp hd
  rfl
theorem tb_at {K : PySem.W.Frag} {C : Addr} {H : Hp} {x dx hp rt la ca : Addr} {xs : List V} {ms ns m1 n1 : List (Int × V)} {p : PtD} (hx : H x = some (.ins C dx (tfl (.str p.n) (.ref hp) (.ref rt) (.ref la) (.ref ca)))) (hh : H hp = some (.tup (p.ps.map V.str))) (hr : SqT K H rt xs) (dr : DpAll K H xs p.rows)
    (hl : H la = some (.dK (kvI m1))) (kl : KvI K H ms p.la) (pl : m1.Perm ms) (hc : H ca = some (.dK (kvI n1))) (kc : KvI K H ns p.cl) (pc : n1.Perm ns) (sh : ShP p) : ∃ u : TbD, IsT K C H x u dx hp rt la ca xs m1 n1 ∧ Fits p u ∧ ShT u := by
  obtain ⟨dl, p1, k1⟩ := KvI.perm pl kl
  obtain ⟨dc, p2, k2⟩ := KvI.perm pc kc
  exact ⟨⟨p.n, p.ps, p.rows, dl, dc⟩, ⟨hx, SqT.of hh, hr, dr, hl, k1.kd, hc, k2.kd⟩, ⟨rfl, rfl, rfl, p1, p2⟩, ⟨sh.ps, sh.rows⟩⟩
theorem ask_tbA {C : Addr} {H : Hp} {nm : Str} {p r : Addr} {l c : V} {ps xs : List V} {ms ns : List (Int × V)} {Q : Addr → Hp → Prop} {E : XK} (hp : H p = some (.tup ps)) (hR : RowsA H r xs) (hl : Dk H l ms) (hc : Dk H c ns)
    (q : ∀ (x dx rt la ca : Addr) (H' : Hp) (ms' ns' : List (Int × V)), Same H H' → H x = none → H' x = some (.ins C dx (tfl (.str nm) (.ref p) (.ref rt) (.ref la) (.ref ca))) → H' rt = some (.tup xs) → H la = none → H ca = none → H' la = some (.dK (kvI ms')) → H' ca = some (.dK (kvI ns')) →
      ms'.Perm ms → (ms'.map (·.1)).Pairwise (· ≤ ·) → ns'.Perm ns → (ns'.map (·.1)).Pairwise (· ≤ ·) → Q x H') : ∀ x dx, H x = none → H dx = none → dx ≠ x → spTInit C [.ref x, .str nm, .ref p, .ref r, l, c] (upd (upd H dx (.own x)) x (.ins C dx [])) (fun v H3 => v = .non ∧ Q x H3) E := by
  intro x dx hx hd ne
  have z := ask_tb (C := C) (nm := nm) (Q := fun v H' => ∃ y, v = .ref y ∧ Q y H') (E := E) hp hR hl hc (fun x dx rt la ca H' ms' ns' a1 a2 a3 a4 a5 a6 a7 a8 a9 b1 b2 b3 => ⟨x, rfl, q x dx rt la ca H' ms' ns' a1 a2 a3 a4 a5 a6 a7 a8 a9 b1 b2 b3⟩) hx hd ne
  obtain ⟨x', dx', p', r', nm', l', c', ps', xs', ms', ns', e, h1, h2, h3, h4, h5, h6⟩ := z
  refine ⟨x', dx', p', r', nm', l', c', ps', xs', ms', ns', e, h1, h2, h3, h4, h5, fun rt la ca H' m2 n2 a1 a2 a3 a4 a5 a6 a7 a8 a9 b1 b2 => ?_⟩
  obtain ⟨e1, y, e2, hq⟩ := h6 rt la ca H' m2 n2 a1 a2 a3 a4 a5 a6 a7 a8 a9 b1 b2
  cases e2
  exact ⟨e1, hq⟩
theorem eqT_bare {p : PtD} {ks : List Int} {t u : TbD} (k : (PyData.tuple (p.ps.map PyData.str)).canLay0 = true ∧ (PyData.tuple p.rows).canLay0 = true) (ht : Fits ⟨p.n, p.ps, p.rows, [], []⟩ t) (hu : Fits p u) (h1 : p.la = laD ks) (h2 : p.cl = clD ks) : eqT t u = decide (ks = []) := by
  unfold eqT
  rw [ht.n, hu.n, decide_eq_true rfl, ht.ps, hu.ps, SeqAt.eqv_refl _ k.1, ht.rows, hu.rows, SeqAt.eqv_refl _ k.2]
  have e1 : t.lands = [] := ht.la.eq_nil
  have e2 : t.closes = [] := ht.cl.eq_nil
  rw [e1, e2]
  have l1 := hu.la
  have l2 := hu.cl
  rw [h1] at l1
  rw [h2] at l2
  cases ks with
  | nil =>
    have a1 : u.lands = [] := l1.eq_nil
    have a2 : u.closes = [] := l2.eq_nil
    rw [a1, a2]; rfl
  | cons z r =>
    have a1 : u.lands ≠ [] := fun e => by rw [e] at l1; have := l1.length_eq; unfold laD at this; simp at this
    rw [eqvD_len (ds := kD []) (es := kD u.lands) (by unfold kD; rw [List.length_map, List.length_map]; intro h; exact a1 (List.length_eq_zero_iff.mp h.symm)), decide_eq_false (fun h => nomatch h)]
    rfl
theorem eqv_nil (ks : List Int) : PyData.eqv (.list (ks.map PyData.int)) (.list []) = decide (ks = []) := by
  cases ks with
  | nil => rfl
  | cons z r => rw [decide_eq_false (fun h => nomatch h)]; rfl
def spLaw (K : PySem.W.Frag) : Sp := fun vs H Q _ => ∃ (a : Addr) (ns : List Int), vs = [.ref a] ∧ SqL K H a (ns.map V.int) ∧ ns.length ≤ 63 ∧ ∀ H', Q (.bl true) H'
structure TLaw (mg : Str → Option Value) (fB fT fR fO fM fF : Addr) : Prop where
  begun : mg "_law_begun" = some (.ref fB)
  take : mg "_law_take" = some (.ref fT)
  row : mg "_law_row" = some (.ref fR)
  other : mg "_law_other" = some (.ref fO)
  made : mg "_law_made" = some (.ref fM)
  fields : mg "_law_fields_right" = some (.ref fF)
  range : mg "range" = none
  list : mg "list" = none
  tuple : mg "tuple" = none
  dict : mg "dict" = none
  len : mg "len" = none
  max : mg "max" = none
  min : mg "min" = none
structure TKn (K : PySem.W.Frag) (C fE : Addr) : Prop where
  hs : PySem.W.findIn K (.ref C) "__eq__" = some (some (.ref fE))
  hf : PySem.W.isFn K (.ref fE) = true
  kn : PySem.W.kitOne K (.type "NoneType") (.ref C) = some false
  ks : PySem.W.kitOne K (.type "str") (.ref C) = some false
  kt : PySem.W.kitOne K (.type "tuple") (.ref C) = some false
  fn : PySem.W.notFirst K C (.type "NoneType") = true
  fs : PySem.W.notFirst K C (.type "str") = true
  ft : PySem.W.notFirst K C (.type "tuple") = true
section
variable {P : Program} {w : World} {K : PySem.W.Frag} {mg : Str → Option Value} {base : Heap} {C : Addr}
theorem scLaw : FnScope ["script", "state", "turn", "many", "lines", "keys", "falls", "ends", "parts", "handed", "one", "thing", "same", "bare", "k"] ["script"] (defScope s_law) := ⟨rfl, rfl, rfl, by decide +kernel, rfl, by decide +kernel, by decide +kernel⟩
theorem ok_law {f fB fT fP fR fO fM fF fI fE : Addr} {fd fdB fdT fdP fdR fdO fdM fdF fdI fdE : FuncData} (F : FnP K "law" s_law f fd) (FB : FnP K "_law_begun" s_law_begun fB fdB) (FT : FnP K "_law_take" s_law_take fT fdT) (FR : FnP K "_law_row" s_law_row fR fdR) (FO : FnP K "_law_other" s_law_other fO fdO)
    (FM : FnP K "_law_made" s_law_made fM fdM) (FF : FnP K "_law_fields_right" s_law_fields_right fF fdF) (FI : FTi K fI fdI) (FE : FunD K "__eq__" "Table.__eq__" (defArgs sTEq) (defBody sTEq) (defScope sTEq) [] [] fE fdE)
    (T : TLaw mg fB fT fR fO fM fF) (MT : Mk K C fI) (TB : TTb K mg C) (TK : TKn K C fE) (GR : FnOk P w K mg base CX0 3 fR fdR ["state", "many"] (spRow K)) (GO : FnOk P w K mg base CX0 2 fO fdO ["state", "parts"] (spOther K))
    (GTI : FnOk P w K mg base CX0 2 fI fdI psT (spTInit C)) (GM : FnOk P w K mg base CX0 4 fM fdM ["parts"] (spMade C)) (GF : FnG P w K mg base 1 fF fdF ["one", "parts"] (spFlds K C)) (GTE : FnOk P w K mg base CX0 1 fE fdE ["self", "other"] (spTEq K C)) :
    FnG P w K mg base 5 f fd ["script"] (spLaw K) := by
  have GB : FnOk P w K mg base CX0 1 fB fdB ["script"] (spBegun K) := ok_begun FB
  have GT : FnOk P w K mg base CX0 1 fT fdT ["state", "many"] spTake := ok_take FT T.len
  have bB : Binds K fdB ["script"] [] := FB.bindsN fun _ _ _ _ _ _ us hl => match us, hl with | [_], _ => rfl
  have bT : Binds K fdT ["state", "many"] [] := FT.bindsN fun _ _ _ _ _ _ us hl => match us, hl with | [_, _], _ => rfl
  have bR : Binds K fdR ["state", "many"] [] := FR.bindsN fun _ _ _ _ _ _ us hl => match us, hl with | [_, _], _ => rfl
  have bO : Binds K fdO ["state", "parts"] [] := FO.bindsN fun _ _ _ _ _ _ us hl => match us, hl with | [_, _], _ => rfl
  have bM : Binds K fdM ["parts"] [] := FM.bindsN fun _ _ _ _ _ _ us hl => match us, hl with | [_], _ => rfl
  have bF : Binds K fdF ["one", "parts"] [] := FF.bindsN fun _ _ _ _ _ _ us hl => match us, hl with | [_, _], _ => rfl
  have bTE : Binds K fdE ["self", "other"] [] := FE.bindsN fun _ _ _ _ _ _ us hl => match us, hl with | [_, _], _ => rfl
  obtain ⟨dsT, vTI, bTI⟩ := K26.bT FI
  have kAI := kA FI
  have hsT := TK.hs
  have hfT := TK.hf
  have nd := scLaw.nd
  refine FnG.of F scLaw (fun vs H Q E h => ?_) (fun cdv A outer s H vs Q E hG hr h => ?_)
  · obtain ⟨a, ns, rfl, _⟩ := h; rfl
  · obtain ⟨a, ns, rfl, hS, hl, q⟩ := h
    have hr1 : Room 1 _ := hr.mono (by decide)
    have hrO : Room 2 _ := hr.mono (by decide)
    have hr3 : Room 3 _ := hr.mono (by decide)
    have hrR : Room 3 _ := hr.mono (by decide)
    have hrM : Room 4 _ := hr
    have hrF : Room 1 _ := hr.mono (by decide)
    have hu64 := hr.units
    have hu := hu_of hr
    have hu65 : (A.deeper (envOfC "law" (defScope s_law) s.heap.objs.size f cdv)).units + 65 < cLine := by have := hr.un; omega
    replace hG : (A.deeper (envOfC "law" (defScope s_law) s.heap.objs.size f cdv)).guards = some [] := hG
    have big : ∀ {k : Nat}, k ≤ 1000 → k ≤ sizeLine := fun h => Nat.le_trans h (by decide)
    have bigL : ∀ {k : Nat}, k ≤ 1000 → k < sizeLine := fun h => Nat.lt_of_le_of_lt h (by decide)
    refine ⟨_, PSs.nox (pss_cons (ps_set (i := 1) nd rfl (Or.inr rfl) (pe_call GB hr1 rfl T.begun FB.kp bB .nil pass0 (pa_cons (pv 0) pa_nil)))
      (pss_cons (ps_for PassesOwn.never rfl (pi_range1 (by rfl) T.range (pa_cons (pe_callB (call_max2 (by rfl)) (by rfl) T.max (by decide +kernel) (pa_cons pe_int (pa_cons (pe_callB (call_min2 (by rfl)) (by rfl) T.min (by decide +kernel) (pa_cons pe_int (pa_cons (pe_callB call_len_seq (by rfl) T.len PySem.boot_len (pa_cons (pv 0) pa_nil)) pa_nil))) pa_nil))) pa_nil)) (pg_name (i := 2) nd rfl (Or.inl rfl)) (pss_cons (ps_set (i := 3) nd rfl (Or.inr rfl) (pe_op op_add pe_int (pe_call GT hr1 rfl T.take FT.kp bT .nil pass0 (pa_cons (pv 1) (pa_cons pe_int pa_nil)))))
      (pss_cons (ps_setLc (i := 4) (own := [("k", 14)]) (g := gName 14) (by rfl) nd rfl rfl (sw_true rfl rfl rfl (by decide +kernel)) (pi_range1 (by rfl) T.range (pa_cons (pv 3) pa_nil)) (blkOk_by (N := ["script", "state", "turn", "many", "lines", "keys", "falls", "ends", "parts", "handed", "one", "thing", "same", "bare", "k"]) (sc := defScope s_law) (by decide +kernel)) (fun _ _ _ _ _ => (pg_name (i := 14) nd rfl (Or.inl rfl))) (fun _ _ _ _ _ => pts_nil) (fun _ _ _ _ _ => (pe_call GR hrR rfl T.row FR.kp bR .nil pass0 (pa_cons (pv 1) (pa_cons (pv 3) pa_nil)))))
      (pss_cons (ps_setLc (i := 5) (own := [("k", 14)]) (g := gName 14) (by rfl) nd rfl rfl (sw_true rfl rfl rfl (by decide +kernel)) (pi_list (pe_revL (pe_listRg (by rfl) (by rfl) T.list (prg_1 (by rfl) T.range (pv 3))))) (blkOk_by (N := ["script", "state", "turn", "many", "lines", "keys", "falls", "ends", "parts", "handed", "one", "thing", "same", "bare", "k"]) (sc := defScope s_law) (by decide +kernel)) (fun _ _ _ _ _ => (pg_name (i := 14) nd rfl (Or.inl rfl))) (fun _ _ _ _ _ => (pts_one (pt_cmpR op_eq (pe_call GT hr1 rfl T.take FT.kp bT .nil pass0 (pa_cons (pv 1) (pa_cons pe_int pa_nil))) pe_int (nomark _)))) (fun _ _ _ _ _ => (pv 14)))
      (pss_cons (ps_par (i := 6) (j := 7) (by rfl) nd rfl rfl (by decide) rfl rfl (pa_cons (pe_callTy (call_dictP (by rfl)) (by rfl) T.dict (by decide +kernel) (pa_cons (pe_lc (own := [("k", 14)]) (g := gName 14) (by rfl) nd (pi_list (pv 5)) (blkOk_by (N := ["script", "state", "turn", "many", "lines", "keys", "falls", "ends", "parts", "handed", "one", "thing", "same", "bare", "k"]) (sc := defScope s_law) (by decide +kernel)) (fun _ _ _ _ _ => (pg_name (i := 14) nd rfl (Or.inl rfl))) (fun _ _ _ _ _ => pts_nil) (fun _ _ _ _ _ => (pe_tup (pa_cons (pv 14) (pa_cons (pe_tup (pa_cons pe_int (pa_cons pe_str pa_nil))) pa_nil))))) pa_nil)) (pa_cons (pe_callTy (call_dictP (by rfl)) (by rfl) T.dict (by decide +kernel) (pa_cons (pe_lc (own := [("k", 14)]) (g := gName 14) (by rfl) nd (pi_list (pv 5)) (blkOk_by (N := ["script", "state", "turn", "many", "lines", "keys", "falls", "ends", "parts", "handed", "one", "thing", "same", "bare", "k"]) (sc := defScope s_law) (by decide +kernel)) (fun _ _ _ _ _ => (pg_name (i := 14) nd rfl (Or.inl rfl))) (fun _ _ _ _ _ => pts_nil) (fun _ _ _ _ _ => (pe_tup (pa_cons (pv 14) (pa_cons (pv 14) pa_nil))))) pa_nil)) pa_nil)) (by rfl))
      (pss_cut (ps_set (i := 8) nd rfl (Or.inl rfl) (pe_tup (pa_cons pe_str (pa_cons (pe_slice sl_tupA (pe_tup (pa_cons pe_str (pa_cons pe_str pa_nil))) po_none (po_some (pe_call GT hr1 rfl T.take FT.kp bT .nil pass0 (pa_cons (pv 1) (pa_cons pe_int pa_nil))))) (pa_cons (pv 4) (pa_cons (pv 6) (pa_cons (pv 7) pa_nil)))))))
      (pss_cons (ps_set (i := 9) nd rfl (Or.inl rfl) (pe_tup (pa_cons (pe_ix ix_tup (pv 8) pe_int (fun _ _ => rfl)) (pa_cons (pe_ix ix_tup (pv 8) pe_int (fun _ _ => rfl)) (pa_cons (pe_callTy call_list_of (by rfl) T.list (by decide +kernel) (pa_cons (pv 4) pa_nil)) (pa_cons (pe_callTy call_dictD (by rfl) T.dict (by decide +kernel) (pa_cons (pv 6) pa_nil)) (pa_cons (pe_callTy call_dictD (by rfl) T.dict (by decide +kernel) (pa_cons (pv 7) pa_nil)) pa_nil)))))))
      (pss_cons (ps_set (i := 10) nd rfl (Or.inl rfl) (pe_call GM hrM rfl T.made FM.kp bM .nil pass0 (pa_cons (pv 9) pa_nil)))
      (pss_cons (ps_for PassesOwn.never rfl (pi_tup (pe_slice sl_tup (pv 9) (po_some pe_int) po_none)) (pg_name (i := 11) nd rfl (Or.inl rfl)) (pss_one (ps_expr (pe_or (pe_bm0 PySem.F.plainAttrs_list PySem.F.slot_list_clear PySem.F.type_list_clear mt_clear (pv 11)) (pe_bm0 PySem.F.plainAttrs_dict PySem.F.slot_dict_clear PySem.F.type_dict_clear mtd_clear (pv 11))))))
      (pss_cons (ps_set (i := 12) nd rfl (Or.inl rfl) (pe_makeK0 MT GTI hr3 rfl TB.cT kAI pass0 (pk_cons (pv 7) (pk_cons (pv 6) (pk_cons (pe_callTy call_tuple_of (by rfl) T.tuple (by decide +kernel) (pa_cons (pv 4) pa_nil)) (pk_cons (pe_ix ix_tup (pv 8) pe_int (fun _ _ => rfl)) (pk_cons pe_str pk_nil)))))))
      (pss_cons (ps_if (PW.pt (pw_or (pt_not (pt_val (pe_callG GF hG hrF rfl T.fields FF.kp bF (pa_cons (pv 10) (pa_cons (pv 8) pa_nil))))) (pw_or1 (pt_not (pt_cmpR (op_ownEq GTE hr1 hsT hfT bTE pass0) (pv 10) (pv 12) (nomark _)))))) (pss_one (ps_ret pe_bl)) pss_nil)
      (pss_cons (ps_for PassesOwn.never rfl (pi_list (pe_lst (pa_cons (pe_call GM hrM rfl T.made FM.kp bM .nil pass0 (pa_cons (pe_call GO hrO rfl T.other FO.kp bO .nil pass0 (pa_cons (pv 1) (pa_cons (pv 8) pa_nil))) pa_nil)) (pa_cons pe_non (pa_cons (pv 8) (pa_cons (pe_ix ix_tup (pv 8) pe_int (fun _ _ => rfl)) (pa_cons (pe_callTy call_tuple_of (by rfl) T.tuple (by decide +kernel) (pa_cons (pv 4) pa_nil)) pa_nil))))))) (pg_name (i := 11) nd rfl (Or.inl rfl)) (pss_one (ps_if (pt_cmpR (op_ownEq GTE hr1 hsT hfT bTE pass0) (pv 10) (pv 11) (nomark _)) (pss_one (ps_ret pe_bl)) pss_nil)))
      (pss_cons (ps_set (i := 13) nd rfl (Or.inl rfl) (pe_make MT GTI hr3 rfl TB.cT bTI vTI pass0 (pa_cons pe_str (pa_cons (pe_ix ix_tup (pv 8) pe_int (fun _ _ => rfl)) (pa_cons (pv 4) pa_nil)))))
      (pss_cons (ps_if (PW.pt (pw_or (pt_cmpR (op_neKD hu65) (pe_fld (pv 13) rfl) pe_dnewK (nomark _)) (pw_or (pt_cmpR (op_neKD hu65) (pe_fld (pv 13) rfl) pe_dnewK (nomark _)) (pw_or1 (pt_cmpR op_ne (pe_cmpR (op_ownEq GTE hr1 hsT hfT bTE pass0) (pv 13) (pv 10) (nomark _)) (pe_cmpR (op_eqD hu64) (pv 5) (pe_lst pa_nil) (nomark _)) (nomark _)))))) (pss_one (ps_ret pe_bl)) pss_nil)
      (pss_cons (ps_dput hu (pe_fld (pv 13) rfl) pe_int (pe_tup (pa_cons pe_int (pa_cons pe_str pa_nil))) rfl)
      (pss_one (ps_if (pt_cmpR (op_neKD hu65) (pe_fld (pe_make MT GTI hr3 rfl TB.cT bTI vTI pass0 (pa_cons pe_str (pa_cons (pe_ix ix_tup (pv 8) pe_int (fun _ _ => rfl)) (pa_cons (pv 4) pa_nil)))) rfl) pe_dnewK (nomark _)) (pss_one (ps_ret pe_bl)) pss_nil)))))))))))))))))
      (pss_one (ps_ret pe_bl)))), ?_⟩
    -- state
    refine ⟨_, rfl, a, ns, rfl, hS, hl, fun d H1 s1 _ _ S1 => ?_⟩
    refine ⟨_, rfl, a, _, rfl, .inl (s1.seq hS), _, _, rfl, _, _, rfl, ?_⟩
    generalize hM : (if (if ((ns.map V.int).length : Int) < 6 then ((ns.map V.int).length : Int) else 6) > 1 then (if ((ns.map V.int).length : Int) < 6 then ((ns.map V.int).length : Int) else 6) else 1 : Int) = mx
    have m0 : 1 ≤ mx := by rw [← hM]; split <;> split <;> omega
    have m6 : mx ≤ 6 := by rw [← hM]; split <;> split <;> omega
    clear hM
    refine ⟨mx, rfl, by omega, by omega, for_range (lo := 0) (n := mx.toNat) (fun i σ H' => ∃ v2 v3 v4 v5 v6 v7 v8 v9 v10 v11 v12 v13 v14, σ = [some (.ref a), some (.ref d.s), v2, v3, v4, v5, v6, v7, v8, v9, v10, v11, v12, v13, v14] ∧ StAt H' d (40 * i))
      ⟨none, none, none, none, none, none, none, none, none, none, none, none, none, rfl, S1⟩ ?_ ?_⟩
    · rintro i σ H2 hi ⟨v2, v3, v4, v5, v6, v7, v8, v9, v10, v11, v12, v13, v14, rfl, S2⟩
      -- many
      refine ⟨_, rfl, d, 6, _, rfl, S2, by omega, by decide, by decide, fun r H3 r0 r1 S3 f3 => ?_⟩
      refine ⟨_, _, rfl, rfl, ?_⟩
      obtain ⟨m, em⟩ : ∃ m : Nat, (1 : Int) + r = (m : Int) := ⟨(1 + r).toNat, by omega⟩
      have hm0 : 0 < m := by omega
      have hm6 : m ≤ 6 := by omega
      show gName 3 (V.int (1 + r)) _ _ _
      rw [em]
      have hi6 : i < 6 := by omega
      have em2 : (m : Int).toNat = m := Int.toNat_natCast m
      clear em r0 r1 f3
      -- lines
      refine ⟨_, rfl, (m : Int), rfl, by omega, by omega, fun L hL => ?_⟩
      have L_s := S3.ns hL
      have L_g := S3.ng hL
      refine lc_range (lo := 0) (n := (m : Int).toNat) (fun j H' => ∃ vs ds, H' L = some (.lst vs) ∧ vs.length = j ∧ DpAll K H' vs ds ∧ (∀ D ∈ ds, RowD D) ∧ StAt H' d (40 * i + 1 + 3 * j)) ⟨[], [], upd_same, rfl, .nil, (fun _ h => nomatch h), S3.new hL⟩ ?_ ?_
      · rintro j H4 hj ⟨vs, ds, hLj, hvl, hd, hrow, S4⟩
        refine ⟨rfl, ?_⟩
        refine ⟨_, rfl, _, rfl, d, m, _, rfl, S4, by omega, hm0, hm6, fun v D H5 hD dv S5 f5 => ?_⟩
        have hL5 := f5 L _ hLj L_s L_g
        have dold := DpAll.tk (f5.tk S4) _ hd (only_mid fun D hD => (hrow D hD).mid)
        have tk : Tk H5 (upd H5 L (.lst (vs ++ [v]))) := .lst hL5
        refine ⟨vs, hL5, bigL (by omega), vs ++ [v], ds ++ [D], upd_same, by rw [List.length_append, hvl]; rfl, ?_, ?_, (S5.mono (by omega)).upd L_s L_g (S3.nc hL)⟩
        · exact DpAll.append (DpAll.tk tk _ dold (only_mid fun D hD => (hrow D hD).mid)) (.cons (Dp.tk tk D dv hD.mid.2.2) .nil)
        · intro D' hD'
          rcases List.mem_append.mp hD' with h | h
          · exact hrow D' h
          · rw [List.mem_singleton.mp h]; exact hD
      rintro H4 ⟨vs, ds, hL4, hvl, hd4, hrow, S4⟩
      rw [em2] at hvl S4
      have hdl : ds.length = m := by rw [← dp_len hd4, hvl]
      have od : onlyTs ds = true := only_mid fun D hD => (hrow D hD).mid
      clear S3 hL S2 hi
      -- keys
      refine ⟨_, rfl, (m : Int), rfl, .of_le (by omega) (by omega) (by omega) (by omega), fun q1 hq1 => ?_⟩
      have s5 := same_new (o := .lst (rgV 0 (m : Int))) hq1
      have e5 : upd H4 q1 (.lst (rgV 0 (m : Int))) q1 = some (.lst (rgV 0 (m : Int))) := upd_same
      generalize upd H4 q1 (.lst (rgV 0 (m : Int))) = H5 at s5 e5
      refine ⟨q1, _, rfl, SqL.of e5, fun q2 hq2 => ?_⟩
      have s6 := same_new (o := .lst (rgV 0 (m : Int)).reverse) hq2
      have e6 : upd H5 q2 (.lst (rgV 0 (m : Int)).reverse) q2 = some (.lst (rgV 0 (m : Int)).reverse) := upd_same
      generalize upd H5 q2 (.lst (rgV 0 (m : Int)).reverse) = H6 at s6 e6
      have S6 := (S4.same s5).same s6
      have q2_s := S6.mono (n := 40 * i + 1 + 3 * m) (Nat.le_refl _)
      have hL6 := s6 _ _ (s5 _ _ hL4)
      have hd6 := DpAll.tk (Tk.same s6) _ (DpAll.tk (Tk.same s5) _ hd4 od) od
      have q2s : q2 ≠ d.s := (S4.same s5).ns hq2
      have q2g : q2 ≠ d.g := (S4.same s5).ng hq2
      have lrev : ((rgV 0 (m : Int)).reverse).length = m := by rw [List.length_reverse, rgV_length]; omega
      have atrev : ∀ {j : Nat} {x : V}, (rgV 0 (m : Int)).reverse[j]? = some x → j < m ∧ x = .int ((m : Int) - 1 - j) := by
        intro j x hx
        have hj : j < m := by rw [← lrev]; exact (List.getElem?_eq_some_iff.mp hx).1
        refine ⟨hj, ?_⟩
        unfold rgV at hx
        rw [← List.map_reverse, List.getElem?_map, List.getElem?_reverse (by rw [List.length_range]; omega), List.length_range, List.getElem?_range (by omega)] at hx
        have := Option.some.inj hx
        rw [← this]
        show V.int (0 + (((m : Int) - 0).toNat - 1 - j : Nat)) = _
        congr 1
        omega
      clear S4 hL4 hd4 s5 s6 e5 hq1
      refine ⟨q2, rfl, ⟨_, SqL.of e6⟩, fun Y hY => ?_⟩
      have Ys := S6.ns hY
      have Yg := S6.ng hY
      have Yc := S6.nc hY
      have YL : L ≠ Y := fun z => by rw [z, hY] at hL6; cases hL6
      have Yq : q2 ≠ Y := fun z => by rw [z, hY] at e6; cases e6
      refine lc_list (K := K) (a := q2) (xs := (rgV 0 (m : Int)).reverse) (fun j H' => ∃ ks : List Int, H' Y = some (.lst (ks.map V.int)) ∧ ks.length ≤ j ∧ (∀ k ∈ ks, (m : Int) - j ≤ k ∧ k < m) ∧ ks.Nodup ∧ H' q2 = some (.lst (rgV 0 (m : Int)).reverse) ∧ H' L = some (.lst vs) ∧ DpAll K H' vs ds ∧ StAt H' d (40 * i + 1 + 3 * m + j))
        ⟨[], upd_same, Nat.le_refl _, (fun _ h => nomatch h), .nil, same_new hY _ _ e6, same_new hY _ _ hL6, DpAll.tk (Tk.new hY) _ hd6 od, S6.new hY⟩ (fun j H' _ ⟨_, _, _, _, _, h, _⟩ => SqL.of h) ?_ ?_
      · rintro j x H7 hx ⟨ks, hYj, hkl, hkb, hkn, e7, hL7, hd7, S7⟩
        obtain ⟨hj, rfl⟩ := atrev hx
        refine ⟨rfl, _, rfl, d, 2, _, rfl, S7, by omega, by decide, by decide, fun r Hb r0 r1 Sb fb => ⟨rfl, _, rfl, ?_⟩⟩
        have hYb := fb Y _ hYj Ys Yg
        have eb := fb q2 _ e7 q2s q2g
        have hLb := fb L _ hL7 L_s L_g
        have hdb := DpAll.tk (fb.tk S7) _ hd7 od
        refine ite2 (fun _ => ?_) (fun _ => ?_)
        · have tk : Tk Hb (upd Hb Y (.lst (ks.map V.int ++ [.int ((m : Int) - 1 - j)]))) := .lst hYb
          refine ⟨_, rfl, _, hYb, bigL (by rw [List.length_map]; omega), ks ++ [(m : Int) - 1 - j], by rw [upd_same, List.map_append]; rfl, by rw [List.length_append]; show ks.length + 1 ≤ j + 1; omega, ?_, ?_, by rw [upd_ne Yq]; exact eb, by rw [upd_ne YL]; exact hLb, DpAll.tk tk _ hdb od, (Sb.mono (by omega)).upd Ys Yg Yc⟩
          · intro k hk
            rcases List.mem_append.mp hk with h | h
            · have := hkb k h; omega
            · have := List.mem_singleton.mp h; omega
          · refine List.nodup_append.mpr ⟨hkn, by simp, fun a ha b hb => ?_⟩
            have h1 := hkb a ha
            have h2 := List.mem_singleton.mp hb
            omega
        · exact ⟨ks, hYb, by omega, fun k hk => by have := hkb k hk; omega, hkn, eb, hLb, hdb, Sb.mono (by omega)⟩
      rintro H7 ⟨ks, hY7, hkl, hkb, hkn, _, hL7, hd7, S7⟩
      rw [lrev] at hkl hkb S7
      have hkb' : ∀ k ∈ ks, 0 ≤ k ∧ k < 6 := fun k hk => by have := hkb k hk; omega
      have hk6 : ks.length ≤ 6 := by omega
      clear hkb hY e6 hL6 hd6 S6 q2_s hq2 atrev lrev Yq
      -- falls
      refine ⟨_, rfl, Y, rfl, ⟨_, SqL.of hY7⟩, fun D6 hD6 => ?_⟩
      have sq7 : Same H7 (upd H7 D6 (.lst [])) := same_new hD6
      refine lc_list (K := K) (a := Y) (xs := ks.map V.int) (fun j H' => ∃ (ts : List Addr) (ms : List (Int × V)), H' D6 = some (.lst (ts.map V.ref)) ∧ ts.length = j ∧ Paired (fun (t : Addr) (m : Int × V) => H' t = some (.tup [.int m.1, m.2])) ts ms ∧ KvI K H' ms (laD (ks.take j)) ∧ Same H7 H')
        ⟨[], [], upd_same, rfl, .nil, .nil, sq7⟩ (fun j H' _ ⟨_, _, _, _, _, _, h⟩ => SqL.of (h _ _ hY7)) ?_ ?_
      · rintro j x H8 hx ⟨ts, ms, h8, tl, pt, kv, s8⟩
        rw [List.getElem?_map] at hx
        cases hk : ks[j]? with
        | none => rw [hk] at hx; cases hx
        | some k =>
        rw [hk] at hx
        obtain rfl : V.int k = x := Option.some.inj hx
        have hjl : j < ks.length := (List.getElem?_eq_some_iff.mp hk).1
        refine ⟨rfl, _, rfl, by show 2 ≤ sizeLine; decide, fun u hu8 => ?_⟩
        have s9 := same_new (o := .tup [.int 0, .str "b"]) hu8
        have e9 : upd H8 u (.tup [.int 0, .str "b"]) u = some (.tup [.int 0, .str "b"]) := upd_same
        generalize upd H8 u (.tup [.int 0, .str "b"]) = H9 at s9 e9
        refine ⟨by show 2 ≤ sizeLine; decide, fun t9 ht9 => ?_⟩
        have s10 := same_new (o := .tup [.int k, .ref u]) ht9
        have e10 : upd H9 t9 (.tup [.int k, .ref u]) t9 = some (.tup [.int k, .ref u]) := upd_same
        generalize upd H9 t9 (.tup [.int k, .ref u]) = H10 at s10 e10
        have s810 : Same H8 H10 := fun b o e => s10 _ _ (s9 _ _ e)
        have h10 := s810 _ _ h8
        have tk : Tk H10 (upd H10 D6 (.lst (ts.map V.ref ++ [.ref t9]))) := .lst h10
        have tu : ∀ {b : Addr} {ys : List V}, H10 b = some (.tup ys) → (upd H10 D6 (.lst (ts.map V.ref ++ [.ref t9]))) b = some (.tup ys) := fun {b ys} e => by rw [upd_ne (ne_of e h10 (by intro z; cases z))]; exact e
        refine ⟨_, h10, bigL (by rw [List.length_map]; omega), ts ++ [t9], ms ++ [(k, .ref u)], by rw [upd_same, List.map_append]; rfl, by rw [List.length_append, tl]; rfl, ?_, ?_, ?_⟩
        · exact pair_app (Paired.mapP pt fun _ _ e => tu (s810 _ _ e)) (tu e10)
        · have e2 : laD (ks.take (j + 1)) = laD (ks.take j) ++ [(k, fbD)] := by
            rw [List.take_add_one, hk]
            unfold laD
            rw [List.map_append]
            rfl
          rw [e2]
          exact pair_app ((kv.tk (Tk.same s810) (only_la _)).tk tk (only_la _)) ⟨rfl, .tup (SqT.of (tu (s10 _ _ e9))) (.cons (.int _) (.cons (.str _) .nil)), by show SeqAt.shaped fbD = true; decide +kernel⟩
        · intro b o e
          rw [upd_ne (ne_of_none e hD6)]
          exact s810 _ _ (s8 _ _ e)
      rintro H8 ⟨ts, ms, h8, tl, pt, kv8, s8⟩
      rw [List.length_map, List.take_length] at kv8
      have nms : (ms.map (·.1)).Nodup := by rw [kv8.keys, keys_la]; exact hkn
      have lms : ms.length ≤ 6 := by
        have e := congrArg List.length kv8.keys
        rw [List.length_map, List.length_map] at e
        rw [e]; unfold laD; rw [List.length_map]; exact hk6
      have pk : Paired (fun p (kv : Key × V) => SqT K H8 p [kV kv.1, kv.2]) ts (kvI ms) := by
        clear kv8 h8 tl nms lms
        induction pt with
        | nil => exact .nil
        | cons g _ ih => exact .cons (SqT.of g) ih
      refine ⟨D6, ts, kvI ms, rfl, SqL.of h8, pk, fun fp hfp => ?_⟩
      rw [merge0 nms]
      have s9 := same_new (o := .dK (kvI ms)) hfp
      have e9 : upd H8 fp (.dK (kvI ms)) fp = some (.dK (kvI ms)) := upd_same
      generalize upd H8 fp (.dK (kvI ms)) = H9 at s9 e9
      have kv9 := kv8.tk (Tk.same s9) (only_la _)
      have s79 : Same H7 H9 := fun b o e => s9 _ _ (s8 _ _ e)
      have fs : fp ≠ d.s := (S7.same s8).ns hfp
      clear pk pt h8 tl kv8 hfp s8 s9 hD6 sq7
      -- ends
      refine ⟨_, rfl, Y, rfl, ⟨_, SqL.of (s79 _ _ hY7)⟩, fun D6 hD6 => ?_⟩
      refine lc_list (K := K) (a := Y) (xs := ks.map V.int) (fun j H' => ∃ (ts : List Addr) (ns : List (Int × V)), H' D6 = some (.lst (ts.map V.ref)) ∧ ts.length = j ∧ Paired (fun (t : Addr) (m : Int × V) => H' t = some (.tup [.int m.1, m.2])) ts ns ∧ KvI K H' ns (clD (ks.take j)) ∧ Same H9 H')
        ⟨[], [], upd_same, rfl, .nil, .nil, same_new hD6⟩ (fun j H' _ ⟨_, _, _, _, _, _, h⟩ => SqL.of (h _ _ (s79 _ _ hY7))) ?_ ?_
      · rintro j x H10 hx ⟨ts, ns2, h10, tl, pt, kv, s10⟩
        rw [List.getElem?_map] at hx
        cases hk : ks[j]? with
        | none => rw [hk] at hx; cases hx
        | some k =>
        rw [hk] at hx
        obtain rfl : V.int k = x := Option.some.inj hx
        have hjl : j < ks.length := (List.getElem?_eq_some_iff.mp hk).1
        refine ⟨rfl, _, rfl, _, rfl, by show 2 ≤ sizeLine; decide, fun t9 ht9 => ?_⟩
        have s11 := same_new (o := .tup [.int k, .int k]) ht9
        have e11 : upd H10 t9 (.tup [.int k, .int k]) t9 = some (.tup [.int k, .int k]) := upd_same
        generalize upd H10 t9 (.tup [.int k, .int k]) = H11 at s11 e11
        have h11 := s11 _ _ h10
        have tk : Tk H11 (upd H11 D6 (.lst (ts.map V.ref ++ [.ref t9]))) := .lst h11
        have tu : ∀ {b : Addr} {ys : List V}, H11 b = some (.tup ys) → (upd H11 D6 (.lst (ts.map V.ref ++ [.ref t9]))) b = some (.tup ys) := fun {b ys} e => by rw [upd_ne (ne_of e h11 (by intro z; cases z))]; exact e
        refine ⟨_, h11, bigL (by rw [List.length_map]; omega), ts ++ [t9], ns2 ++ [(k, .int k)], by rw [upd_same, List.map_append]; rfl, by rw [List.length_append, tl]; rfl, ?_, ?_, ?_⟩
        · exact pair_app (Paired.mapP pt fun _ _ e => tu (s11 _ _ e)) (tu e11)
        · have e2 : clD (ks.take (j + 1)) = clD (ks.take j) ++ [(k, .int k)] := by
            rw [List.take_add_one, hk]
            unfold clD
            rw [List.map_append]
            rfl
          rw [e2]
          exact pair_app ((kv.tk (Tk.same s11) (only_cl _)).tk tk (only_cl _)) ⟨rfl, .int _, rfl⟩
        · intro b o e
          rw [upd_ne (ne_of_none e hD6)]
          exact s11 _ _ (s10 _ _ e)
      rintro H10 ⟨ts, ns2, h10, tl, pt, kc10, s10⟩
      rw [List.length_map, List.take_length] at kc10
      have nns : (ns2.map (·.1)).Nodup := by rw [kc10.keys, keys_cl]; exact hkn
      have lns : ns2.length ≤ 6 := by
        have e := congrArg List.length kc10.keys
        rw [List.length_map, List.length_map] at e
        rw [e]; unfold clD; rw [List.length_map]; exact hk6
      have pk : Paired (fun p (kv : Key × V) => SqT K H10 p [kV kv.1, kv.2]) ts (kvI ns2) := by
        clear kc10 h10 tl nns lns
        induction pt with
        | nil => exact .nil
        | cons g _ ih => exact .cons (SqT.of g) ih
      refine ⟨D6, ts, kvI ns2, rfl, SqL.of h10, pk, fun ep hep => ?_⟩
      rw [merge0 nns]
      have s11 := same_new (o := .dK (kvI ns2)) hep
      have e11 : upd H10 ep (.dK (kvI ns2)) ep = some (.dK (kvI ns2)) := upd_same
      generalize upd H10 ep (.dK (kvI ns2)) = H11 at s11 e11
      have s911 : Same H9 H11 := fun b o e => s11 _ _ (s10 _ _ e)
      have kc11 := kc10.tk (Tk.same s11) (only_cl _)
      have kv11 := kv9.tk (Tk.same s911) (only_la _)
      have f11 := s911 _ _ e9
      have s711 : Same H7 H11 := fun b o e => s911 _ _ (s79 _ _ e)
      have es : ep ≠ d.s := ((S7.same s79).same s10).ns hep
      have S11 := S7.same s711
      have Y11 := s711 _ _ hY7
      have L11 := s711 _ _ hL7
      have d11 := DpAll.tk (Tk.same s711) _ hd7 od
      clear pk pt h10 tl kc10 hep s10 s11 hD6 kv9 e9 s911 s79 s711 hY7 hL7 hd7 S7
      refine ⟨_, _, rfl, ?_⟩
      -- parts
      refine ⟨fun σ' H' => ∃ (t hp : Addr) (p : PtD), σ' = [some (.ref a), some (.ref d.s), some (.int (0 + (i : Int))), some (.int (m : Int)), some (.ref L), some (.ref Y), some (.ref fp), some (.ref ep), some (.ref t), v9, v10, v11, v12, v13, v14] ∧ PtsAt K H' t hp L fp ep vs ms ns2 p ∧ Drn p ks ∧ H' Y = some (.lst (ks.map V.int)) ∧ StAt H' d (40 * i + 1 + 3 * m + m + 1), ?_, ?_⟩
      · refine ⟨by show 2 ≤ sizeLine; decide, fun t0 ht0 => ?_⟩
        have s12 := same_new (o := .tup [.str "a", .str "b"]) ht0
        have e12 : upd H11 t0 (.tup [.str "a", .str "b"]) t0 = some (.tup [.str "a", .str "b"]) := upd_same
        generalize upd H11 t0 (.tup [.str "a", .str "b"]) = H12 at s12 e12
        have S12 := S11.same s12
        refine ⟨_, rfl, d, 3, _, rfl, S12, by omega, by decide, by decide, fun r H13 r0 r1 S13 f13 => ?_⟩
        have tk13 : Tk H12 H13 := f13.tk S12
        have e13 := tk13.seqT (SqT.of (K := K) e12)
        have t13 : H13 t0 = some (.tup [.str "a", .str "b"]) := f13 t0 _ e12 (S11.ns ht0) (S11.ng ht0)
        have L13 := f13 L _ (s12 _ _ L11) L_s L_g
        have Y13 := f13 Y _ (s12 _ _ Y11) Ys Yg
        have fg : fp ≠ d.g := fun z => by
          obtain ⟨_, _, _, _, _, R, _⟩ := S11
          rw [z, R.hg] at f11; cases f11
        have eg : ep ≠ d.g := fun z => by
          obtain ⟨_, _, _, _, _, R, _⟩ := S11
          rw [z, R.hg] at e11; cases e11
        have ff13 := f13 fp _ (s12 _ _ f11) fs fg
        have ee13 := f13 ep _ (s12 _ _ e11) es eg
        have d13 := DpAll.tk tk13 _ (DpAll.tk (Tk.same s12) _ d11 od) od
        have kv13 := (kv11.tk (Tk.same s12) (only_la _)).tk tk13 (only_la _)
        have kc13 := (kc11.tk (Tk.same s12) (only_cl _)).tk tk13 (only_cl _)
        have done : ∀ (hp : Addr) (ps : List Str) (H' : Hp), ps ∈ psL → Same H13 H' → H' hp = some (.tup (ps.map V.str)) → ∀ t, H' t = none →
            PtsAt K (upd H' t (.tup [.str "f", .ref hp, .ref L, .ref fp, .ref ep])) t hp L fp ep vs ms ns2 ⟨"f", ps, ds, laD ks, clD ks⟩ ∧ Drn ⟨"f", ps, ds, laD ks, clD ks⟩ ks ∧ (upd H' t (.tup [.str "f", .ref hp, .ref L, .ref fp, .ref ep])) Y = some (.lst (ks.map V.int)) ∧ StAt (upd H' t (.tup [.str "f", .ref hp, .ref L, .ref fp, .ref ep])) d (40 * i + 1 + 3 * m + m + 1) := by
          intro hp ps H' hps s' hh t ht
          have sA : Same H13 (upd H' t (.tup [.str "f", .ref hp, .ref L, .ref fp, .ref ep])) := fun b o e => same_new ht _ _ (s' _ _ e)
          exact ⟨⟨upd_same, same_new ht _ _ hh, sA _ _ L13, DpAll.tk (Tk.same sA) _ d13 od, sA _ _ ff13, kv13.tk (Tk.same sA) (only_la _), sA _ _ ee13, kc13.tk (Tk.same sA) (only_cl _)⟩,
            ⟨rfl, hps, hrow, by show 0 < ds.length; omega, by show ds.length ≤ 6; omega, rfl, rfl, hkn, hk6, hkb'⟩, sA _ _ Y13, S13.same sA⟩
        have r3 : r = 0 ∨ r = 1 ∨ r = 2 := by omega
        refine ⟨_, rfl, t0, _, rfl, SqT.of t13, fun hw => ?_, fun hw hp hhp => ?_⟩
        · have e2 : r = 2 := by
            rcases r3 with rfl | rfl | rfl
            · exact absurd hw.2 (by decide)
            · exact absurd hw.2 (by decide)
            · rfl
          refine ⟨_, rfl, _, rfl, _, rfl, by show 5 ≤ sizeLine; decide, fun t ht => ?_⟩
          obtain ⟨a1, a2, a3, a4⟩ := done t0 ["a", "b"] H13 (by decide +kernel) (Same.refl _) t13 t ht
          exact ⟨t, t0, _, rfl, a1, a2, a3, a4⟩
        · obtain ⟨ps, hps, eps⟩ : ∃ ps : List Str, ps ∈ psL ∧ cutV [V.str "a", V.str "b"] none (some r) = ps.map V.str := by
            rcases r3 with rfl | rfl | rfl
            · exact ⟨[], by decide +kernel, rfl⟩
            · exact ⟨["a"], by decide +kernel, rfl⟩
            · exact absurd ⟨by decide, by decide⟩ hw
          rw [eps]
          refine ⟨_, rfl, _, rfl, _, rfl, by show 5 ≤ sizeLine; decide, fun t ht => ?_⟩
          obtain ⟨a1, a2, a3, a4⟩ := done hp ps _ hps (same_new hhp) upd_same t ht
          exact ⟨t, hp, _, rfl, a1, a2, a3, a4⟩
      clear f11 kc11 kv11 Y11 L11 d11 e11 S11 od hdl hrow hvl hkb' hk6 hkn nms nns lms lns em2
      rintro σ' H12 ⟨t, hp, p, rfl, PT, dr, hY, S⟩
      have ol : onlyTs p.rows = true := only_mid fun D hD => (dr.rows D hD).mid
      have o1 : onlyK p.la = true := by rw [dr.la]; exact only_la _
      have o2 : onlyK p.cl = true := by rw [dr.cl]; exact only_cl _
      have sh := dr.sh
      have nms : (ms.map (·.1)).Nodup := by rw [PT.kl.keys]; exact sh.nl
      have nns : (ns2.map (·.1)).Nodup := by rw [PT.kc.keys]; exact sh.nc
      have lms : ms.length ≤ 1000 := by
        have e := congrArg List.length PT.kl.keys
        rw [List.length_map, List.length_map] at e
        rw [e]; exact sh.ll
      have lns : ns2.length ≤ 1000 := by
        have e := congrArg List.length PT.kc.keys
        rw [List.length_map, List.length_map] at e
        rw [e]; exact sh.lc
      clear kAI bB bT bR bO bM bF FB FT FR FO FM FF FI FE
      -- handed
      have sq := SqT.of (K := K) PT.ht
      refine ⟨_, rfl, t, _, 0, _, rfl, rfl, sq, rfl, _, rfl, t, _, 1, _, rfl, rfl, sq, rfl, _, rfl, L, vs, rfl, .inl (SqL.of PT.hl), fun l2 hl2 => ?_⟩
      have s13 := same_new (o := .lst vs) hl2
      have e13 : upd H12 l2 (.lst vs) l2 = some (.lst vs) := upd_same
      generalize upd H12 l2 (.lst vs) = H13 at s13 e13
      refine ⟨_, rfl, fp, _, rfl, .inl (s13 _ _ PT.hf), fun f2 hf2 => ?_⟩
      have s14 := same_new (o := .dK (kvI ms)) hf2
      have e14 : upd H13 f2 (.dK (kvI ms)) f2 = some (.dK (kvI ms)) := upd_same
      generalize upd H13 f2 (.dK (kvI ms)) = H14 at s14 e14
      refine ⟨_, rfl, ep, _, rfl, .inl (s14 _ _ (s13 _ _ PT.he)), fun e2 he2 => ?_⟩
      have s15 := same_new (o := .dK (kvI ns2)) he2
      have e15 : upd H14 e2 (.dK (kvI ns2)) e2 = some (.dK (kvI ns2)) := upd_same
      generalize upd H14 e2 (.dK (kvI ns2)) = H15 at s15 e15
      refine ⟨by show 5 ≤ sizeLine; decide, fun t2 ht2 => ?_⟩
      have s16 := same_new (o := .tup [.str p.n, .ref hp, .ref l2, .ref f2, .ref e2]) ht2
      have e16 : upd H15 t2 (.tup [.str p.n, .ref hp, .ref l2, .ref f2, .ref e2]) t2 = some (.tup [.str p.n, .ref hp, .ref l2, .ref f2, .ref e2]) := upd_same
      generalize upd H15 t2 (.tup [.str p.n, .ref hp, .ref l2, .ref f2, .ref e2]) = H16 at s16 e16
      have s1216 : Same H12 H16 := fun b o e => s16 _ _ (s15 _ _ (s14 _ _ (s13 _ _ e)))
      have l16 := s16 _ _ (s15 _ _ (s14 _ _ e13))
      have f16 := s16 _ _ (s15 _ _ e14)
      have ee16 := s16 _ _ e15
      have P16 := PT.same s1216 ol o1 o2
      have nl2 : ∀ {b : Addr} {o : HO}, H12 b = some o → b ≠ l2 := fun e z => by rw [z, hl2] at e; cases e
      have nf2 : ∀ {b : Addr} {o : HO}, H12 b = some o → b ≠ f2 := fun e z => by rw [z] at e; have e' := s13 _ _ e; rw [hf2] at e'; cases e'
      have ne2 : ∀ {b : Addr} {o : HO}, H12 b = some o → b ≠ e2 := fun e z => by rw [z] at e; have e' := s14 _ _ (s13 _ _ e); rw [he2] at e'; cases e'
      have l2s : l2 ≠ d.s := S.ns hl2
      have l2g : l2 ≠ d.g := S.ng hl2
      have l2c : l2 ≠ d.c := S.nc hl2
      have S13 := S.same s13
      have f2s : f2 ≠ d.s := S13.ns hf2
      have f2g : f2 ≠ d.g := S13.ng hf2
      have f2c : f2 ≠ d.c := S13.nc hf2
      have S14 := S13.same s14
      have e2s : e2 ≠ d.s := S14.ns he2
      have e2g : e2 ≠ d.g := S14.ng he2
      have e2c : e2 ≠ d.c := S14.nc he2
      have S16 := S.same s1216
      have lf : l2 ≠ f2 := fun z => by rw [z, hf2] at e13; cases e13
      have le : l2 ≠ e2 := fun z => by rw [z] at e13; have e' := s14 _ _ e13; rw [he2] at e'; cases e'
      have fe : f2 ≠ e2 := fun z => by rw [z, he2] at e14; cases e14
      clear s13 s14 s15 s16 e13 e14 e15 S13 S14 hl2 hf2 he2 ht2
      -- one
      refine ⟨_, rfl, t2, hp, l2, f2, e2, p.n, p.ps.map V.str, vs, ms, ns2, rfl, e16, P16.hh, .inl l16, ⟨.inr ⟨f2, rfl, f16⟩, nms, lms⟩, ⟨.inr ⟨e2, rfl, ee16⟩, nns, lns⟩, fun x dx rt la ca H17 m1 n1 s17 nx hx hrt nla nca hla hca p1 q1 p2 q2 => ?_⟩
      have xl : x ≠ l2 := fun z => by rw [z, l16] at nx; cases nx
      have xf : x ≠ f2 := fun z => by rw [z, f16] at nx; cases nx
      have xe : x ≠ e2 := fun z => by rw [z, ee16] at nx; cases nx
      have lal : la ≠ l2 := fun z => by rw [z, l16] at nla; cases nla
      have laf : la ≠ f2 := fun z => by rw [z, f16] at nla; cases nla
      have lae : la ≠ e2 := fun z => by rw [z, ee16] at nla; cases nla
      have cal : ca ≠ l2 := fun z => by rw [z, l16] at nca; cases nca
      have caf : ca ≠ f2 := fun z => by rw [z, f16] at nca; cases nca
      have cae : ca ≠ e2 := fun z => by rw [z, ee16] at nca; cases nca
      have l17 := s17 _ _ l16
      have f17 := s17 _ _ f16
      have ee17 := s17 _ _ ee16
      have t17 := s17 _ _ e16
      have tup3 : ∀ {b : Addr} {ys : List V}, H17 b = some (.tup ys) → b ≠ l2 ∧ b ≠ f2 ∧ b ≠ e2 := fun e => ⟨ne_of e l17 (by intro z; cases z), ne_of e f17 (by intro z; cases z), ne_of e ee17 (by intro z; cases z)⟩
      -- the copies are cleared
      refine ⟨_, rfl, 2, rfl, t2, _, rfl, SqT.of t17, (fun h => absurd h.1 (by show ¬ (HT.sIx 5 0 (some 2) = 0); decide)), fun u17 hu17 => ?_⟩
      have s18 := same_new (o := .tup (cutV [V.str p.n, .ref hp, .ref l2, .ref f2, .ref e2] (some 2) none)) hu17
      have e18 : upd H17 u17 (.tup (cutV [V.str p.n, .ref hp, .ref l2, .ref f2, .ref e2] (some 2) none)) u17 = some (.tup [.ref l2, .ref f2, .ref e2]) := upd_same
      generalize upd H17 u17 (.tup (cutV [V.str p.n, .ref hp, .ref l2, .ref f2, .ref e2] (some 2) none)) = H18 at s18 e18
      have ul : u17 ≠ l2 := ne_of e18 (s18 _ _ l17) (by intro z; cases z)
      have uf : u17 ≠ f2 := ne_of e18 (s18 _ _ f17) (by intro z; cases z)
      have ue : u17 ≠ e2 := ne_of e18 (s18 _ _ ee17) (by intro z; cases z)
      refine ⟨u17, rfl, ⟨_, SqT.of e18⟩, for_tup (K := K) (a := u17) (xs := [.ref l2, .ref f2, .ref e2]) (fun k σ H' => ∃ w11, σ = [some (.ref a), some (.ref d.s), some (.int (0 + (i : Int))), some (.int (m : Int)), some (.ref L), some (.ref Y), some (.ref fp), some (.ref ep), some (.ref t), some (.ref t2), some (.ref x), w11, v12, v13, v14] ∧
          (∀ b o, b ≠ l2 → b ≠ f2 → b ≠ e2 → H18 b = some o → H' b = some o) ∧ (∃ xs, H' l2 = some (.lst xs)) ∧ (∃ ks, H' f2 = some (.dK ks)) ∧ (∃ ks, H' e2 = some (.dK ks)) ∧ StAt H' d (40 * i + 1 + 3 * m + m + 1)) ⟨_, rfl, fun _ _ _ _ _ e => e, ⟨_, s18 _ _ l17⟩, ⟨_, s18 _ _ f17⟩, ⟨_, s18 _ _ ee17⟩, (S16.same s17).same s18⟩
          (fun k σ H' _ ⟨_, _, h, _⟩ => SqT.of (h _ _ ul uf ue e18)) ?_ ?_⟩
      · rintro k y σ H19 hy ⟨w11, rfl, hk, ⟨xs, hxl⟩, ⟨kf, hxf⟩, ⟨ke, hxe⟩, S19⟩
        match k, hy with
        | 0, h =>
          obtain rfl : V.ref l2 = y := Option.some.inj h
          refine .inl ⟨_, rfl, .inl ⟨rfl, _, SqL.of hxl⟩, l2, xs, rfl, rfl, hxl, ?_⟩
          exact ⟨_, rfl, fun b o h1 h2 h3 e => by rw [upd_ne h1]; exact hk b o h1 h2 h3 e, ⟨_, upd_same⟩, ⟨_, by rw [upd_ne (Ne.symm lf)]; exact hxf⟩, ⟨_, by rw [upd_ne (Ne.symm le)]; exact hxe⟩, S19.upd l2s l2g l2c⟩
        | 1, h =>
          obtain rfl : V.ref f2 = y := Option.some.inj h
          refine .inr ⟨_, rfl, .inr (.inr (.inl ⟨rfl, .inl ⟨_, hxf⟩⟩)), f2, kf, rfl, rfl, hxf, ?_⟩
          exact ⟨_, rfl, fun b o h1 h2 h3 e => by rw [upd_ne h2]; exact hk b o h1 h2 h3 e, ⟨_, by rw [upd_ne lf]; exact hxl⟩, ⟨_, upd_same⟩, ⟨_, by rw [upd_ne (Ne.symm fe)]; exact hxe⟩, S19.upd f2s f2g f2c⟩
        | 2, h =>
          obtain rfl : V.ref e2 = y := Option.some.inj h
          refine .inr ⟨_, rfl, .inr (.inr (.inl ⟨rfl, .inl ⟨_, hxe⟩⟩)), e2, ke, rfl, rfl, hxe, ?_⟩
          exact ⟨_, rfl, fun b o h1 h2 h3 e => by rw [upd_ne h3]; exact hk b o h1 h2 h3 e, ⟨_, by rw [upd_ne le]; exact hxl⟩, ⟨_, by rw [upd_ne fe]; exact hxf⟩, ⟨_, upd_same⟩, S19.upd e2s e2g e2c⟩
      rintro σ' H19 ⟨w11, rfl, hk, _, _, _, S19⟩
      have las : la ≠ d.s := S16.ns nla
      have cas : ca ≠ d.s := S16.ns nca
      have s1219 : Same H12 H19 := fun b o e => hk b o (nl2 e) (nf2 e) (ne2 e) (s18 _ _ (s17 _ _ (s1216 _ _ e)))
      have P19 := PT.same s1219 ol o1 o2
      have hx19 := hk x _ xl xf xe (s18 _ _ hx)
      have rt19 := hk rt _ (tup3 hrt).1 (tup3 hrt).2.1 (tup3 hrt).2.2 (s18 _ _ hrt)
      have la19 := hk la _ lal laf lae (s18 _ _ hla)
      have ca19 := hk ca _ cal caf cae (s18 _ _ hca)
      have t19 := hk t2 _ (tup3 t17).1 (tup3 t17).2.1 (tup3 t17).2.2 (s18 _ _ t17)
      have Y19 := s1219 _ _ hY
      clear hk e18 s18 hu17 ul uf ue tup3 t17 ee17 f17 l17 cae caf cal lae laf lal xe xf xl hca hla nca nla hrt hx nx s17 e16 P16 S16 ee16 f16 l16 s1216 fe le lf e2c e2g e2s f2c f2g f2s l2c l2g l2s ne2 nf2 nl2
      have en : p.n = "f" := dr.n
      -- same
      refine ⟨_, rfl, _, rfl, _, rfl, L, vs, rfl, .inl ⟨SqL.of P19.hl, fun r2 hr2 => ?_⟩⟩
      have s20 := same_new (o := .tup vs) hr2
      have e20 : upd H19 r2 (.tup vs) r2 = some (.tup vs) := upd_same
      generalize upd H19 r2 (.tup vs) = H20 at s20 e20
      have P20 := P19.same s20 ol o1 o2
      refine ⟨_, rfl, t, _, 1, _, rfl, rfl, SqT.of P20.ht, rfl, rfl, rfl, ?_⟩
      show ∀ xx dxx, _ → _ → _ → spTInit C [.ref xx, .str "f", .ref hp, .ref r2, .ref fp, .ref ep] _ _ _
      refine ask_tbA P20.hh (.inr e20) ⟨.inr ⟨fp, rfl, P20.hf⟩, nms, lms⟩ ⟨.inr ⟨ep, rfl, P20.he⟩, nns, lns⟩ (fun x2 dx2 rt2 la2 ca2 H21 m2 n2 s21 nx2 hx2 hrt2 nla2 nca2 hla2 hca2 pp1 qq1 pp2 qq2 => ?_)
      have s1921 : Same H19 H21 := fun b o e => s21 _ _ (s20 _ _ e)
      have P21 := P19.same s1921 ol o1 o2
      have hx21 := s1921 _ _ hx19
      have rt21 := s1921 _ _ rt19
      have la21 := s1921 _ _ la19
      have ca21 := s1921 _ _ ca19
      -- _law_fields_right
      refine ⟨_, rfl, _, rfl, x, dx, rt, la, ca, t, hp, L, fp, ep, vs, vs, ms, ns2, m1, n1, p, ks, rfl, P21, dr, hx21, SqT.of rt21, P21.dr, la21, ca21, p1, q1, p2, q2, fun H22 s22 => ⟨_, rfl, iteF ?_⟩⟩
      -- one == same
      have P22 := P21.same s22 ol o1 o2
      obtain ⟨u1, T1, F1, sh1⟩ := tb_at (s22 _ _ hx21) P22.hh (SqT.of (s22 _ _ rt21)) P22.dr (s22 _ _ la21) P22.kl p1 (s22 _ _ ca21) P22.kc p2 sh
      rw [← en] at hx2
      obtain ⟨u2, T2, F2, sh2⟩ := tb_at (s22 _ _ hx2) P22.hh (SqT.of (s22 _ _ hrt2)) P22.dr (s22 _ _ hla2) P22.kl pp1 (s22 _ _ hca2) P22.kc pp2 sh
      have okp : OkP p := ⟨(Bool.and_eq_true_iff.mp sh.ps).1, (Bool.and_eq_true_iff.mp sh.rows).1, sh.nl, sh.nc, by rw [dr.la]; exact lay_la, by rw [dr.cl]; exact lay_cl⟩
      refine ⟨_, rfl, _, rfl, x, dx, _, .ref C, rfl, T1.ins, .base (.ins T2.ins TB.cl TB.ca TB.cg TB.ct TB.cm), first_self, .inl ⟨x, x2, u1, u2, _, _, _, _, _, _, _, _, _, _, _, _, _, _, _, _, rfl, T1, T2, sh1, sh2, ⟨_, rfl, ?_⟩⟩⟩
      rw [eqT_T okp F1 F2]
      refine ⟨_, rfl, iteF ?_⟩
      have s1922 : Same H19 H22 := fun b o e => s22 _ _ (s1921 _ _ e)
      have S22 := S19.same s1922
      clear T1 F1 sh1 T2 F2 sh2 P21 P20 e20 s20 hr2 hx2 hrt2 hla2 hca2 nx2 nla2 nca2 pp1 pp2 qq1 qq2 s21 s1921 hx21 rt21 la21 ca21 s22
      -- the others
      have hx22 := s1922 _ _ hx19
      have rt22 := s1922 _ _ rt19
      have la22 := s1922 _ _ la19
      have ca22 := s1922 _ _ ca19
      have Y22 := s1922 _ _ Y19
      have t22 := s1922 _ _ t19
      clear hx19 rt19 la19 ca19 Y19 t19 s1922 P19 S19 S s1219 hY PT sq
      refine ⟨_, rfl, _, rfl, d, _, t, hp, L, fp, ep, vs, ms, ns2, p, ks, rfl, S22, by omega, P22, dr, L_g, fs, es, fun t' hp' lp' fp' ep' xs' ms' ns' p' H23 f23 S23 P23 sh' op' ap => ?_⟩
      have nms' : (ms'.map (·.1)).Nodup := by rw [P23.kl.keys]; exact sh'.nl
      have nns' : (ns'.map (·.1)).Nodup := by rw [P23.kc.keys]; exact sh'.nc
      have lms' : ms'.length ≤ 1000 := by
        have e := congrArg List.length P23.kl.keys
        rw [List.length_map, List.length_map] at e
        rw [e]; exact sh'.ll
      have lns' : ns'.length ≤ 1000 := by
        have e := congrArg List.length P23.kc.keys
        rw [List.length_map, List.length_map] at e
        rw [e]; exact sh'.lc
      have Q23 := P22.fr f23 S22 L_g fs es ol o1 o2
      have hx23 : H23 x = some (.ins C dx (tfl (.str p.n) (.ref hp) (.ref rt) (.ref la) (.ref ca))) := by
        obtain ⟨_, _, _, _, _, R, _⟩ := S22
        exact f23 x _ hx22 (ne_of hx22 R.hs (by intro z; cases z)) (ne_of hx22 R.hg (by intro z; cases z))
      have rt23 : H23 rt = some (.tup vs) := by
        obtain ⟨_, _, _, _, _, R, _⟩ := S22
        exact f23 rt _ rt22 (ne_of rt22 R.hs (by intro z; cases z)) (ne_of rt22 R.hg (by intro z; cases z))
      have la23 : H23 la = some (.dK (kvI m1)) := by
        obtain ⟨_, _, _, _, _, R, _⟩ := S22
        exact f23 la _ la22 las (ne_of la22 R.hg (by intro z; cases z))
      have ca23 : H23 ca = some (.dK (kvI n1)) := by
        obtain ⟨_, _, _, _, _, R, _⟩ := S22
        exact f23 ca _ ca22 cas (ne_of ca22 R.hg (by intro z; cases z))
      have Y23 := f23 Y _ Y22 Ys Yg
      clear hx22 rt22 la22 ca22 Y22 t22 f23 S22 P22
      refine ⟨t', hp', lp', fp', ep', p'.n, p'.ps.map V.str, xs', ms', ns', rfl, P23.ht, P23.hh, .inl P23.hl, ⟨.inr ⟨fp', rfl, P23.hf⟩, nms', lms'⟩, ⟨.inr ⟨ep', rfl, P23.he⟩, nns', lns'⟩, fun x3 dx3 rt3 la3 ca3 H24 m3 n3 s24 nx3 hx3 hrt3 nla3 nca3 hla3 hca3 pp1 qq1 pp2 qq2 => ?_⟩
      have Q24 := Q23.same s24 ol o1 o2
      refine ⟨_, rfl, _, rfl, t, _, 0, _, rfl, rfl, SqT.of Q24.ht, rfl, _, rfl, L, vs, rfl, .inl ⟨SqL.of Q24.hl, fun r5 hr5 => ?_⟩⟩
      have s25 := same_new (o := .tup vs) hr5
      have e25 : upd H24 r5 (.tup vs) r5 = some (.tup vs) := upd_same
      generalize upd H24 r5 (.tup vs) = H25 at s25 e25
      refine ⟨by show 5 ≤ sizeLine; decide, fun l5 hl5 => ?_⟩
      have s26 := same_new (o := .lst [.ref x3, .non, .ref t, .str p.n, .ref r5]) hl5
      have e26 : upd H25 l5 (.lst [.ref x3, .non, .ref t, .str p.n, .ref r5]) l5 = some (.lst [.ref x3, .non, .ref t, .str p.n, .ref r5]) := upd_same
      generalize upd H25 l5 (.lst [.ref x3, .non, .ref t, .str p.n, .ref r5]) = H26 at s26 e26
      have s2426 : Same H24 H26 := fun b o e => s26 _ _ (s25 _ _ e)
      have s2326 : Same H23 H26 := fun b o e => s2426 _ _ (s24 _ _ e)
      have Q26 := Q23.same s2326 ol o1 o2
      have hx26 := s2326 _ _ hx23
      have rt26 := s2326 _ _ rt23
      have la26 := s2326 _ _ la23
      have ca26 := s2326 _ _ ca23
      have Y26 := s2326 _ _ Y23
      have r526 := s26 _ _ e25
      obtain ⟨u1, T1, F1, sh1⟩ := tb_at hx26 Q26.hh (SqT.of rt26) Q26.dr la26 Q26.kl p1 ca26 Q26.kc p2 sh
      obtain ⟨u3, T3, F3, sh3⟩ : ∃ u : TbD, IsT K C H26 x3 u dx3 hp' rt3 la3 ca3 xs' m3 n3 ∧ Fits p' u ∧ ShT u := by
        have tk : Tk H23 H26 := Tk.same s2326
        exact tb_at (s2426 _ _ hx3) (s2326 _ _ P23.hh) (SqT.of (s2426 _ _ hrt3)) (DpAll.tk tk _ P23.dr op'.1) (s2426 _ _ hla3) (P23.kl.tk tk op'.2.1) pp1 (s2426 _ _ hca3) (P23.kc.tk tk op'.2.2) pp2 sh'
      have isT3 : ∀ H27, Same H26 H27 → ∃ w3, IsT K C H27 x3 w3 dx3 hp' rt3 la3 ca3 xs' m3 n3 ∧ Fits p' w3 ∧ ShT w3 := by
        intro H27 s27
        have s3 : Same H23 H27 := fun b o e => s27 _ _ (s2326 _ _ e)
        have tk : Tk H23 H27 := Tk.same s3
        exact tb_at (s27 _ _ (s2426 _ _ hx3)) (s3 _ _ P23.hh) (SqT.of (s27 _ _ (s2426 _ _ hrt3))) (DpAll.tk tk _ P23.dr op'.1) (s27 _ _ (s2426 _ _ hla3)) (P23.kl.tk tk op'.2.1) pp1 (s27 _ _ (s2426 _ _ hca3)) (P23.kc.tk tk op'.2.2) pp2 sh'
      clear T3 F3 sh3
      clear hx3 hrt3 hla3 hca3 nx3 nla3 nca3 pp1 qq1 pp2 qq2 s24 s25 s26 e25 hl5 hr5 Q24 Q23 hx23 rt23 la23 ca23 Y23 P23 s2426 nms' nns' lms' lns'
      have S26 := S23.same s2326
      refine ⟨l5, rfl, ⟨_, SqL.of e26⟩, for_list (K := K) (a := l5) (xs := [.ref x3, .non, .ref t, .str p.n, .ref r5]) (fun k σ H' => ∃ w11, σ = [some (.ref a), some (.ref d.s), some (.int (0 + (i : Int))), some (.int (m : Int)), some (.ref L), some (.ref Y), some (.ref fp), some (.ref ep), some (.ref t), some (.ref t2), some (.ref x), w11, some (.ref x2), v13, v14] ∧ Same H26 H')
        ⟨_, rfl, Same.refl _⟩ (fun k σ H' _ ⟨_, _, h⟩ => SqL.of (h _ _ e26)) ?_ ?_⟩
      · rintro k y σ H27 hy ⟨w11, rfl, s27⟩
        have Q27 := Q26.same s27 ol o1 o2
        match k, hy with
        | 0, h =>
          obtain rfl : V.ref x3 = y := Option.some.inj h
          obtain ⟨w1, T1', F1', sh1'⟩ := tb_at (s27 _ _ hx26) Q27.hh (SqT.of (s27 _ _ rt26)) Q27.dr (s27 _ _ la26) Q27.kl p1 (s27 _ _ ca26) Q27.kc p2 sh
          have T3' : ∃ w3, IsT K C H27 x3 w3 dx3 hp' rt3 la3 ca3 xs' m3 n3 ∧ Fits p' w3 ∧ ShT w3 := isT3 H27 s27
          obtain ⟨w3, T3', F3', sh3'⟩ := T3'
          refine ⟨_, rfl, _, rfl, x, dx, _, .ref C, rfl, T1'.ins, .base (.ins T3'.ins TB.cl TB.ca TB.cg TB.ct TB.cm), first_self, .inl ⟨x, x3, w1, w3, _, _, _, _, _, _, _, _, _, _, _, _, _, _, _, _, rfl, T1', T3', sh1', sh3', ⟨_, rfl, ?_⟩⟩⟩
          rw [ap w1 w3 F1' F3']
          exact ⟨_, rfl, iteF ⟨_, rfl, s27⟩⟩
        | 1, h =>
          obtain rfl : V.non = y := Option.some.inj h
          exact ⟨_, rfl, _, rfl, x, dx, _, .type "NoneType", rfl, s27 _ _ hx26, .base .non, TK.fn, .inr ⟨x, .non, _, rfl, .base .non, TK.kn, ⟨_, rfl, _, rfl, iteF ⟨_, rfl, s27⟩⟩⟩⟩
        | 2, h =>
          obtain rfl : V.ref t = y := Option.some.inj h
          exact ⟨_, rfl, _, rfl, x, dx, _, .type "tuple", rfl, s27 _ _ hx26, .base (.tup Q27.ht), TK.ft, .inr ⟨x, .ref t, _, rfl, .base (.tup Q27.ht), TK.kt, ⟨_, rfl, _, rfl, iteF ⟨_, rfl, s27⟩⟩⟩⟩
        | 3, h =>
          obtain rfl : V.str p.n = y := Option.some.inj h
          exact ⟨_, rfl, _, rfl, x, dx, _, .type "str", rfl, s27 _ _ hx26, .base (.str _), TK.fs, .inr ⟨x, .str p.n, _, rfl, .base (.str _), TK.ks, ⟨_, rfl, _, rfl, iteF ⟨_, rfl, s27⟩⟩⟩⟩
        | 4, h =>
          obtain rfl : V.ref r5 = y := Option.some.inj h
          exact ⟨_, rfl, _, rfl, x, dx, _, .type "tuple", rfl, s27 _ _ hx26, .base (.tup (s27 _ _ r526)), TK.ft, .inr ⟨x, .ref r5, _, rfl, .base (.tup (s27 _ _ r526)), TK.kt, ⟨_, rfl, _, rfl, iteF ⟨_, rfl, s27⟩⟩⟩⟩
      rintro σ' H27 ⟨w11b, rfl, s27⟩
      have Q27 := Q26.same s27 ol o1 o2
      have hx27 := s27 _ _ hx26
      have rt27 := s27 _ _ rt26
      have la27 := s27 _ _ la26
      have ca27 := s27 _ _ ca26
      have Y27 := s27 _ _ Y26
      have S27 := S26.same s27
      clear hx26 rt26 la26 ca26 Y26 S26 s27 Q26 T1 F1 sh1 r526 e26 isT3
      -- bare
      refine ⟨_, rfl, t, _, 1, _, rfl, rfl, SqT.of Q27.ht, rfl, _, rfl, ?_⟩
      show ∀ xx dxx, _ → _ → _ → spTInit C [.ref xx, .str "f", .ref hp, .ref L, .non, .non] _ _ _
      refine ask_tbA Q27.hh (.inl Q27.hl) ⟨.inl ⟨rfl, rfl⟩, .nil, Nat.zero_le _⟩ ⟨.inl ⟨rfl, rfl⟩, .nil, Nat.zero_le _⟩ (fun x4 dx4 rt4 la4 ca4 H28 m4 n4 s28 nx4 hx4 hrt4 nla4 nca4 hla4 hca4 pp3 _ pp4 _ => ?_)
      obtain rfl : m4 = [] := pp3.eq_nil
      obtain rfl : n4 = [] := pp4.eq_nil
      have Q28 := Q27.same s28 ol o1 o2
      have S28 := S27.same s28
      refine ⟨_, rfl, x4, C, dx4, _, _, rfl, hx4, TB.cl, TB.nL, tfl_l _ _ _ _ _, fun pn hpn => ?_⟩
      have s29 := same_new (o := .dK []) hpn
      have e29 : upd H28 pn (.dK []) pn = some (.dK []) := upd_same
      generalize upd H28 pn (.dK []) = H29 at s29 e29
      refine ⟨la4, pn, kvI [], [], [], [], rfl, rfl, .inl (s29 _ _ hla4), .inl e29, .nil, .nil, false, rfl, iteF ?_⟩
      refine ⟨_, rfl, x4, C, dx4, _, _, rfl, s29 _ _ hx4, TB.cl, TB.nC, tfl_c _ _ _ _ _, fun pn2 hpn2 => ?_⟩
      have s30 := same_new (o := .dK []) hpn2
      have e30 : upd H29 pn2 (.dK []) pn2 = some (.dK []) := upd_same
      generalize upd H29 pn2 (.dK []) = H30 at s30 e30
      refine ⟨ca4, pn2, kvI [], [], [], [], rfl, rfl, .inl (s30 _ _ (s29 _ _ hca4)), .inl e30, .nil, .nil, false, rfl, iteF ?_⟩
      have s2830 : Same H28 H30 := fun b o e => s30 _ _ (s29 _ _ e)
      have s2730 : Same H27 H30 := fun b o e => s2830 _ _ (s28 _ _ e)
      have Q30 := Q27.same s2730 ol o1 o2
      obtain ⟨w1, T1, F1, sh1⟩ := tb_at (s2730 _ _ hx27) Q30.hh (SqT.of (s2730 _ _ rt27)) Q30.dr (s2730 _ _ la27) Q30.kl p1 (s2730 _ _ ca27) Q30.kc p2 sh
      rw [← en] at hx4
      obtain ⟨w4, T4, F4, sh4⟩ := tb_at (p := ⟨p.n, p.ps, p.rows, [], []⟩) (ms := []) (ns := []) (s2830 _ _ hx4) Q30.hh (SqT.of (s2830 _ _ hrt4)) Q30.dr (s2830 _ _ hla4) .nil (.refl _) (s2830 _ _ hca4) .nil (.refl _) ⟨sh.ps, sh.rows, .nil, .nil, Nat.zero_le _, Nat.zero_le _⟩
      refine ⟨_, rfl, _, rfl, x4, dx4, _, .ref C, rfl, T4.ins, .base (.ins T1.ins TB.cl TB.ca TB.cg TB.ct TB.cm), first_self, .inl ⟨x4, x, w4, w1, _, _, _, _, _, _, _, _, _, _, _, _, _, _, _, _, rfl, T4, T1, sh4, sh1, ⟨_, rfl, ?_⟩⟩⟩
      rw [eqT_bare ⟨(Bool.and_eq_true_iff.mp sh.ps).1, (Bool.and_eq_true_iff.mp sh.rows).1⟩ F4 F1 dr.la dr.cl]
      refine ⟨_, rfl, by show 0 ≤ sizeLine; exact Nat.zero_le _, fun l6 hl6 => ?_⟩
      have s31 := same_new (o := .lst []) hl6
      have e31 : upd H30 l6 (.lst []) l6 = some (.lst []) := upd_same
      generalize upd H30 l6 (.lst []) = H31 at s31 e31
      refine ⟨.list (ks.map PyData.int), .list [], .lst (SqL.of (s31 _ _ (s2730 _ _ Y27))) (dp_ints ks), .lst (SqL.of e31) .nil, shaped_ints ks, by decide, ?_⟩
      rw [eqv_nil ks]
      refine ⟨rfl, _, rfl, ?_⟩
      generalize decide (ks = []) = bb
      rw [show (!decide (V.bl bb = V.bl bb)) = false by rw [decide_eq_true rfl]; rfl]
      refine iteF ?_
      -- bare.lands[0] = ..
      have s2831 : Same H28 H31 := fun b o e => s31 _ _ (s2830 _ _ e)
      have la4s : la4 ≠ d.s := S27.ns nla4
      have la4g : la4 ≠ d.g := S27.ng nla4
      have la4c : la4 ≠ d.c := S27.nc nla4
      have nH27 : ∀ {b : Addr} {o : HO}, H27 b = some o → b ≠ la4 := fun e z => by rw [z, nla4] at e; cases e
      refine ⟨by show 2 ≤ sizeLine; decide, fun tq htq => ?_⟩
      have s32 := same_new (o := .tup [.int 0, .str "a"]) htq
      generalize upd H31 tq (.tup [.int 0, .str "a"]) = H32 at s32
      have s2832 : Same H28 H32 := fun b o e => s32 _ _ (s2831 _ _ e)
      refine ⟨_, rfl, x4, C, dx4, _, _, rfl, s2832 _ _ hx4, TB.cl, TB.nL, tfl_l _ _ _ _ _, la4, _, rfl, .inl ⟨_, .inl 0, s2832 _ _ hla4, rfl, by decide, rfl⟩, ?_⟩
      have sL : Same H27 (upd H32 la4 (.dK (putK (kvI []) (.inl 0 : Key) (.ref tq)))) := fun b o e => by rw [upd_ne (nH27 e)]; exact s2832 _ _ (s28 _ _ e)
      have S33 := S27.same sL
      generalize upd H32 la4 (.dK (putK (kvI []) (.inl 0 : Key) (.ref tq))) = H33 at sL S33
      have Q33 := Q27.same sL ol o1 o2
      refine ⟨_, rfl, t, _, 1, _, rfl, rfl, SqT.of Q33.ht, rfl, _, rfl, ?_⟩
      show ∀ xx dxx, _ → _ → _ → spTInit C [.ref xx, .str "f", .ref hp, .ref L, .non, .non] _ _ _
      refine ask_tbA Q33.hh (.inl Q33.hl) ⟨.inl ⟨rfl, rfl⟩, .nil, Nat.zero_le _⟩ ⟨.inl ⟨rfl, rfl⟩, .nil, Nat.zero_le _⟩ (fun x5 dx5 rt5 la5 ca5 H34 m5 n5 s34 nx5 hx5 hrt5 nla5 nca5 hla5 hca5 pp5 _ pp6 _ => ?_)
      obtain rfl : m5 = [] := pp5.eq_nil
      refine ⟨x5, C, dx5, _, _, rfl, hx5, TB.cl, TB.nL, tfl_l _ _ _ _ _, fun pn3 hpn3 => ?_⟩
      have s35 := same_new (o := .dK []) hpn3
      have e35 : upd H34 pn3 (.dK []) pn3 = some (.dK []) := upd_same
      refine ⟨la5, pn3, kvI [], [], [], [], rfl, rfl, .inl (s35 _ _ hla5), .inl e35, .nil, .nil, false, rfl, iteF ?_⟩
      exact ⟨_, _, _, _, _, _, _, _, _, _, _, _, _, rfl, ((S33.same s34).same s35).mono (by omega)⟩
    · rintro σ H2 ⟨v2, v3, v4, v5, v6, v7, v8, v9, v10, v11, v12, v13, v14, rfl, S2⟩
      exact q _
end
end K26
set_option Elab.async false
set_option linter.all false
set_option maxRecDepth 100000
/-! LHook: the head's hook whose written part has the interpreter's own statics too (readsIn looks there). -/
namespace LK
open PySem PySem.Spec PyProof.Rows
def reachS (g : Addr → Option Obj) (n : Nat) : List Addr := cStatics :: He.asD g n
def fragS (g : Addr → Option Obj) (n : Nat) : PySem.W.Frag := He.frT g (reachS g n)
def obsS (n : Nat) (fa : List He.Fa) (fn : List He.DefD) (ts : List He.Tab) (ex : PySem.W.Frag → Bool) (g : Addr → Option Obj) : He.AlX := (He.obsT fa fn ts (fragS g n), ex (fragS g n))
theorem obsS_says {n : Nat} {fa : List He.Fa} {fn : List He.DefD} {ts : List He.Tab} {ex : PySem.W.Frag → Bool} {w : World} {h : Heap} (e : obsS n fa fn ts ex h.get? = He.valX fn ts w) :
    ∃ K : PySem.W.Frag, K.In h ∧ He.SaysX fa fn ts [] ex w h K :=
  ⟨_, He.frT_in, ⟨congrArg Prod.fst e, congrArg Prod.snd e, fun _ m => (nomatch m), fun _ m => (nomatch m), fun _ m => (nomatch m)⟩⟩
def hookS (n : Nat) (fa : List He.Fa) (fn : List He.DefD) (ts : List He.Tab) (ex : PySem.W.Frag → Bool) : PySem.W.Hook :=
  { α := He.AlX, obs := fun s => obsS n fa fn ts ex s.heap.get?, val := fun w => He.valX fn ts w, says := fun w h => ∃ K : PySem.W.Frag, K.In h ∧ He.SaysX fa fn ts [] ex w h K,
    of := fun _ _ e => obsS_says e, keeps := fun w h h' ⟨K, inH, sx⟩ kp => ⟨K, inH.keeps kp, ⟨sx.t, sx.more, sx.hd, sx.out, fun _ m => (nomatch m)⟩⟩ }
theorem obsS_hook {n : Nat} {fa : List He.Fa} {fn : List He.DefD} {ts : List He.Tab} {ex : PySem.W.Frag → Bool} {g : Addr → Option Obj} {s : Shared} (h : ∀ a, g a = s.heap.get? a) : obsS n fa fn ts ex g = (hookS n fa fn ts ex).obs s := by
  obtain rfl : g = s.heap.get? := funext h
  rfl
end LK
set_option Elab.async false
set_option linter.all false
set_option maxRecDepth 100000
set_option maxHeartbeats 0
namespace K26
open PySem PySem.Spec PyProof.Rows L2 Evl LK
def dOf (x : Str) (st : Stmt) : He.DefD := ⟨(x, none), x, x, defArgs st, defBody st, defScope st, [], []⟩
def dIn (C m q : Str) (st : Stmt) (ks : List (Str × He.Dv)) : He.DefD := ⟨(C, some m), m, q, defArgs st, defBody st, defScope st, [], ks⟩
def fn : List He.DefD := [dOf "_rising" s_rising, dOf "_law_begun" s_law_begun, dOf "_law_take" s_law_take, dOf "_law_pick" s_law_pick, dOf "_law_row" s_law_row, dOf "_law_other" s_law_other, dOf "_law_made" s_law_made, dOf "_law_fields_right" s_law_fields_right, dOf "law" s_law, dIn "Table" "__init__" "Table.__init__" sTInit [("lands", .non), ("closes", .non)], dIn "Table" "__eq__" "Table.__eq__" sTEq []]
def gls : List Str := ["_rising", "_law_begun", "_law_take", "_law_pick", "_law_row", "_law_other", "_law_made", "_law_fields_right", "law", "Table"]
def frs : List Str := ["isinstance", "dict", "sorted", "type", "int", "list", "tuple", "len", "range", "max", "min", "repr"]
def fa : List He.Fa := gls.map He.Fa.glo ++ frs.map He.Fa.free ++ [.cls "Table", .noat "Table" "name", .noat "Table" "params", .noat "Table" "rows", .noat "Table" "lands", .noat "Table" "closes", .mkr "Table", .meth "Table" "__eq__"]
def ex (K : PySem.W.Frag) : Bool := (((decide (PySem.W.findIn K (.ref (He.ga K "Table")) "__class__" = some (some (.builtin "object.__class__"))) && decide (PySem.W.specialIn K (.builtin "object.__class__") "__get__" = some (some (.builtin "getset_descriptor.__get__")))) &&
  (decide (PySem.W.takesIn K (.builtin "object.__class__") = some true) && decide (PySem.W.mroIn K (He.ga K "Table") (.type "object") = some true))) && decide (PySem.W.kitOne K (.type "tuple") (.type "list") = some false)) &&
  (((decide (PySem.W.kitOne K (.type "NoneType") (.ref (He.ga K "Table")) = some false) && decide (PySem.W.kitOne K (.type "str") (.ref (He.ga K "Table")) = some false)) && decide (PySem.W.kitOne K (.type "tuple") (.ref (He.ga K "Table")) = some false)) &&
  ((PySem.W.notFirst K (He.ga K "Table") (.type "NoneType") && PySem.W.notFirst K (He.ga K "Table") (.type "str")) && PySem.W.notFirst K (He.ga K "Table") (.type "tuple")))
def ts : List He.Tab := []
abbrev R : PySem.W.OpenRow := PySem.W.OpenLaw.row rw_
abbrev hk : PySem.W.Hook := LK.hookS 5 fa fn ts ex
def ob (s : PySem.W.SharedT) : He.AlX := LK.obsS 5 fa fn ts ex (HandSHeadRun.getT s)
theorem ob_eq (s : PySem.W.SharedT) : ob s = hk.obs s.abs := LK.obsS_hook (HandSHeadRun.getT_eq s)
def loose : List Str := ["_rising", "Table", "_law_begun", "_law_take", "_law_pick", "_law_row", "_law_other", "_law_made", "_law_fields_right"]
theorem runF (w : World) : HandSHeadRun.RunEq R (PySem.W.view R.prog [11]) hk ob 8000 loose (w.withFollow "special-get-raises" false) := by
  intro os
  kernel_rfl
theorem runT (w : World) : HandSHeadRun.RunEq R (PySem.W.view R.prog [11]) hk ob 8000 loose (w.withFollow "special-get-raises" true) := by
  intro os
  kernel_rfl
theorem run (w : World) : HandSHeadRun.RunEq R (PySem.W.view R.prog [11]) hk ob 8000 loose w := PySem.W.byRow2 "special-get-raises" runF runT w
end K26
set_option Elab.async false
set_option linter.all false
set_option maxRecDepth 100000
set_option maxHeartbeats 4000000
namespace K26
open PySem PySem.Spec PyProof.Rows L2 Evl LK
theorem facts {P : Program} {w : World} {K : PySem.W.Frag} {h : Heap} {mg : Str → Option Value} {f : Addr} (X : K.In h) (G : h.Ns mainGlobals mg) (hfa : mg ("law" : Str) = some (.ref f)) (c : He.SaysX fa fn ts [] ex w h K) :
    ∃ fd : FuncData, (∀ (s : Shared) (v : Value), BindsTo s fd ⟨[v], []⟩ [("script", v)]) ∧ ∀ base : Heap, K.In base → base.Ns mainGlobals mg → FnG P w K mg base 5 f fd ["script"] (spLaw K) := by
  have cd := c.t.d
  obtain ⟨vRi, FRi⟩ := cd.def_ 0 (d := dOf "_rising" s_rising) rfl
  obtain ⟨vBg, FBg⟩ := cd.def_ 1 (d := dOf "_law_begun" s_law_begun) rfl
  obtain ⟨vTa, FTa⟩ := cd.def_ 2 (d := dOf "_law_take" s_law_take) rfl
  obtain ⟨vPk, FPk⟩ := cd.def_ 3 (d := dOf "_law_pick" s_law_pick) rfl
  obtain ⟨vRo, FRo⟩ := cd.def_ 4 (d := dOf "_law_row" s_law_row) rfl
  obtain ⟨vOt, FOt⟩ := cd.def_ 5 (d := dOf "_law_other" s_law_other) rfl
  obtain ⟨vMa, FMa⟩ := cd.def_ 6 (d := dOf "_law_made" s_law_made) rfl
  obtain ⟨vFl, FFl⟩ := cd.def_ 7 (d := dOf "_law_fields_right" s_law_fields_right) rfl
  obtain ⟨vLa, FLa⟩ := cd.def_ 8 (d := dOf "law" s_law) rfl
  obtain ⟨vTi, FTi0⟩ := cd.def_ 9 (d := dIn "Table" "__init__" "Table.__init__" sTInit [("lands", .non), ("closes", .non)]) rfl
  obtain ⟨vTe, FTe⟩ := cd.def_ 10 (d := dIn "Table" "__eq__" "Table.__eq__" sTEq []) rfl
  have FTi1 : FTi K _ vTi := FTi0
  have gl : ∀ (i : Nat) (x : Str), fa[i]? = some (.glo x) → mg x = some (.ref (He.ga K x)) := fun i x e => He.glo_ok X G (cd.fact i e)
  have fr : ∀ (i : Nat) (x : Str), fa[i]? = some (.free x) → mg x = none := fun i x e => He.free_ok X G (cd.fact i e)
  have gRi := gl 0 "_rising" rfl
  have gBg := gl 1 "_law_begun" rfl
  have gTa := gl 2 "_law_take" rfl
  have gPk := gl 3 "_law_pick" rfl
  have gRo := gl 4 "_law_row" rfl
  have gOt := gl 5 "_law_other" rfl
  have gMa := gl 6 "_law_made" rfl
  have gFl := gl 7 "_law_fields_right" rfl
  have gLa := gl 8 "law" rfl
  have gTable := gl 9 "Table" rfl
  have r_isinstance := fr 10 "isinstance" rfl
  have r_dict := fr 11 "dict" rfl
  have r_sorted := fr 12 "sorted" rfl
  have r_type := fr 13 "type" rfl
  have r_int := fr 14 "int" rfl
  have r_list := fr 15 "list" rfl
  have r_tuple := fr 16 "tuple" rfl
  have r_len := fr 17 "len" rfl
  have r_range := fr 18 "range" rfl
  have r_max := fr 19 "max" rfl
  have r_min := fr 20 "min" rfl
  have r_repr := fr 21 "repr" rfl
  have e := hfa.symm.trans gLa
  cases e
  have b := FunD.bindsA (ps := ["script"]) FLa fun _ _ _ _ _ _ us hl => match us, hl with | [_], _ => rfl
  obtain ⟨x1, x2⟩ := Bool.and_eq_true_iff.mp c.more
  obtain ⟨x3, xtl⟩ := Bool.and_eq_true_iff.mp x1
  obtain ⟨x4, x5⟩ := Bool.and_eq_true_iff.mp x3
  obtain ⟨xa, xg⟩ := Bool.and_eq_true_iff.mp x4
  obtain ⟨xt, xm⟩ := Bool.and_eq_true_iff.mp x5
  obtain ⟨x6, x7⟩ := Bool.and_eq_true_iff.mp x2
  obtain ⟨x8, xkt⟩ := Bool.and_eq_true_iff.mp x6
  obtain ⟨xkn, xks⟩ := Bool.and_eq_true_iff.mp x8
  obtain ⟨x9, xft⟩ := Bool.and_eq_true_iff.mp x7
  obtain ⟨xfn, xfs⟩ := Bool.and_eq_true_iff.mp x9
  have TB : TTb K mg (He.ga K "Table") := ⟨gTable, He.cls_ok (cd.fact 22 (f := .cls "Table") rfl), He.noat_ok (cd.fact 23 (f := .noat "Table" "name") rfl), He.noat_ok (cd.fact 24 (f := .noat "Table" "params") rfl), He.noat_ok (cd.fact 25 (f := .noat "Table" "rows") rfl), He.noat_ok (cd.fact 26 (f := .noat "Table" "lands") rfl), He.noat_ok (cd.fact 27 (f := .noat "Table" "closes") rfl), of_decide_eq_true xa, of_decide_eq_true xg, of_decide_eq_true xt, of_decide_eq_true xm, of_decide_eq_true xtl⟩
  have MT := He.mkr_ok (cd.fact 28 (f := .mkr "Table") rfl)
  have ME := He.meth_ok (cd.fact 29 (f := .meth "Table" "__eq__") rfl)
  have TK : TKn K (He.ga K "Table") _ := ⟨ME.at_, ME.fn, of_decide_eq_true xkn, of_decide_eq_true xks, of_decide_eq_true xkt, xfn, xfs, xft⟩
  refine ⟨vLa, fun s v => b s [v] rfl, fun base _ _ => ?_⟩
  have GTI := ok_tinit (P := P) (w := w) (base := base) FTi1 FRi ⟨r_isinstance, r_dict, r_sorted, r_type, r_int⟩ ⟨r_isinstance, r_list, r_tuple, gRi⟩ TB
  have GTE := ok_teq (P := P) (w := w) (base := base) FTe r_isinstance TB
  have GR := ok_row (P := P) (w := w) (base := base) FRo FTa FPk ⟨gTa, gPk, r_len⟩
  have GO := ok_other (P := P) (w := w) (base := base) FOt FTa ⟨gTa, r_len, r_dict⟩
  have GM := ok_made FMa FTi1 MT TB GTI
  have GF := ok_flds (P := P) (w := w) (base := base) FFl ⟨r_repr, r_tuple, r_list, r_sorted⟩ TB
  exact ok_law (fP := He.ga K "_law_pick") (fdP := vPk) FLa FBg FTa FRo FOt FMa FFl FTi1 FTe ⟨gBg, gTa, gRo, gOt, gMa, gFl, r_range, r_list, r_tuple, r_dict, r_len, r_max, r_min⟩ MT TB TK GR GO GTI GM GF GTE
end K26
open PySem PySem.W PySem.Calls PyProof.Rows
theorem PySem.Challenge.cw_frozenmakers_k26_tables_told_holds : PySem.Challenge.rw_frozenmakers_k26_tables_told.Holds := by
  w_on; o_law
  refine HandSHeadRun.head_any (r := OpenLaw.row PySem.Challenge.rw_frozenmakers_k26_tables_told) (q := view (OpenLaw.row PySem.Challenge.rw_frozenmakers_k26_tables_told).prog [11]) (H := K26.hk) (ob := K26.ob) (M := 8000) (loose := K26.loose) (d := HandSHeadRun.topDef (OpenLaw.row PySem.Challenge.rw_frozenmakers_k26_tables_told).prog 11) (kwd := []) K26.ob_eq
    (by kernel_rfl) (fun s => by kernel_rfl) K26.run (by kernel_rfl) (by kernel_rfl) (by kernel_rfl) (by rfl) (by first | assumption | decide +kernel) (by decide +kernel) ⟨rfl, rfl, rfl, rfl, rfl, by decide +kernel⟩ ?hw ?hc
  case hw => w_witness2
  case hc =>
    refine LK.walkG (l := PySem.Challenge.rw_frozenmakers_k26_tables_told) (n := 63) (k := 5) (x := "script") rfl (by decide) (by kernel_rfl) ⟨rfl, by decide, by decide⟩ ?F
    intro w mg fa h Y G hmg0
    obtain ⟨K, KX, c⟩ := Y
    have hmg : mg ("law" : PySem.Str) = some (.ref fa) := by
      have e : (HandSHeadRun.topDef (OpenLaw.row PySem.Challenge.rw_frozenmakers_k26_tables_told).prog 11).name = ("law" : PySem.Str) := by kernel_rfl
      rw [← e]
      exact hmg0
    obtain ⟨fd, hb, hF⟩ := K26.facts (P := (PySem.Challenge.rw_frozenmakers_k26_tables_told).prog) (w := w) KX G hmg c
    exact ⟨K, fd, K26.spLaw K, KX, hb, fun H a ns hl _ hS => ⟨a, ns, rfl, hS, hl, fun _ => rfl⟩, hF⟩
