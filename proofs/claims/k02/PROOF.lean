import PyProof.Rows.All
import Wide.All
import OpenK.AllK
import Wide.FinOn
import KE.KStateDown
import HandS.Base
import HandS.Call
import HandS.List
import HandS.Comp
import HandS.Ends
import HandS.Words
import HandS.Dict
import HandS.Iter
import HandS.Text
import HandS.StrMore
import HandS.Defaults
import HandS.Head0
import HandS.Head1
import HandS.Head2
import HandS.HeadHook1
import HandS.HeadHook2
import HandS.Evl
import HandS.ForMost
import HandS.Walk
import HandS.IsInst
import HandS.HeadEnd
import HandS.HeadHook3
import HandS.HeadHook4
import PySem.Challenge.RW_frozenmakers_k02_names_known
set_option Elab.async false
set_option linter.all false
set_option maxRecDepth 100000
set_option maxHeartbeats 2000000
/-! LK: what the laws of this program want besides: a def that is entered where no repr is under way, repr of data, a call by keywords alone, type(x). -/
namespace LK
open PySem PySem.Spec PyProof.Rows L2

/-- a promise that is kept where no repr is under way -/
structure FnG (P : Program) (w : World) (K : PySem.W.Frag) (mg : Str → Option Value) (base : Heap) (k : Nat) (f : Addr) (fd : FuncData) (ps : List Str) (sp : Sp) : Prop where
  len : ∀ vs H Q E, sp vs H Q E → vs.length = ps.length
  go : ∀ A outer s H args us vs Q E, A.guards = some [] → Room k A → Env0 P w K mg base A outer s H → BindsTo s fd args (ps.zip us) → Vals vs us →
    sp vs H Q E → codeAny (model P w) A (.call (.ref f) args) (CR CX0 outer P w H s Q E) s

theorem FnG.of {P : Program} {w : World} {K : PySem.W.Frag} {mg : Str → Option Value} {base : Heap} {k : Nat} {f : Addr} {fd : FuncData}
    {x qual : Str} {params : Arguments} {body : List Stmt} {scope : Scope} {dvs : List V} {kws : List (Str × V)} {N ps : List Str} {sp : Sp}
    (F : FunD K x qual params body scope dvs kws f fd) (S : FnScope N ps scope) (len : ∀ vs H Q E, sp vs H Q E → vs.length = ps.length)
    (hb : ∀ cdv A outer s H vs Q E, A.guards = some [] → Room k (A.deeper (envOfC qual scope s.heap.objs.size f cdv)) → sp vs H Q E →
      ∃ t, PSs (cxOf CX0 P w K mg base N qual scope f cdv A outer s H E).nox body t ∧
        t { nx := fun _ H' => Q .non H', rt := Q } (start N vs) H) :
    FnG P w K mg base (k + 1) f fd ps sp := by
  obtain ⟨oc, od, dV, kV, doc, pm, an, cdv, ct, osl, rfl, lk, hcd, _, _⟩ := F.ex
  constructor
  · exact len
  intro A outer s H args us vs Q E hG hR e0 hB hV hP
  have up : ∀ b o, base.get? b = some o → s.heap.get? b = some o := fun b o q => (e0.bs b o q).1
  have kin := e0.mod.kin.keeps up
  have lim := e0.mod.nolimit.keeps up
  refine codeAny_call_function hR.depth (kin _ _ lk) rfl S.co S.gen rfl (PySem.W.codeRec_of kin hcd) (hB _ _ _ _ ?_)
  refine wpAny_newFunctionEnv_cells S.kind ?kinds ?rest
  case kinds =>
    rintro ⟨n, u⟩ hm
    rcases S.par n (List.of_mem_zip hm).1 with q | q
    · left; exact q
    · right; exact ⟨q, PySem.W.cellsFrom_some _ _ _ (.inl q)⟩
  case rest =>
    rintro env rfl s1 hs
    refine ⟨lim.keeps hs.toInCall.keep, codeAny_func ?_⟩
    obtain ⟨t, pt, ht⟩ := hb cdv A outer s H vs Q E hG (hR.deeper _) hP
    have I := inv_start (CX := CX0) (E := E) S hR.hd e0 (len _ _ _ _ hP) hV hs
    have run := pt.nox.run [] s1 (start N vs) H _ I ht
    refine wpAny_mono run ?_ (fun _ _ z => z)
    intro fl s' h
    cases fl with
    | ret u =>
      obtain ⟨v, σ', H', J, rv, q⟩ := h
      exact ⟨v, H', J.os, J.bare, J.base, J.hok, rv, q⟩
    | next =>
      obtain ⟨σ', H', J, q⟩ := h
      exact ⟨.non, H', J.os, J.bare, J.base, J.hok, rfl, q⟩
    | brk => exact h.choose_spec.choose_spec.2.elim
    | cont => exact h.choose_spec.choose_spec.2.elim

/-- every def that keeps its promise anywhere keeps it there -/
theorem FnG.any {P : Program} {w : World} {K : PySem.W.Frag} {mg : Str → Option Value} {base : Heap} {k : Nat} {f : Addr} {fd : FuncData} {ps : List Str} {sp : Sp}
    (F : FnOk P w K mg base CX0 k f fd ps sp) : FnG P w K mg base k f fd ps sp :=
  ⟨F.len, fun A outer s H args us vs Q E _ hr e0 hb hv h => F.run A outer s H args us vs Q E hr e0 hb hv h⟩

section
variable {X : Cx} {k : Nat} {f : Addr} {fd : FuncData} {ps : List Str} {sp : Sp} {x : Str} {p pos : Pos} {e : Expr} {es : List Expr} {t : TA}
/-- a call of such a def -/
theorem pe_callG (F : FnG X.prog X.w X.K X.mg X.base k f fd ps sp) (hG : X.A.guards = some []) (hr : Room k X.A) (hg : Gl X x)
    (hm : X.mg x = some (.ref f)) (hk : PySem.W.keepIn X.K (.ref f) = true) (hb : Binds X.K fd ps []) (ha : PA X (e :: es) t)
    (hdb : (x == ("__debug__" : Str)) = false := by decide)
    (he : starEach (e :: es) X.env = (false, eval e X.env) :: starEach es X.env := by rfl)
    (hpl : (backTo pos (starEach es X.env)).any (·.1) = false := by rfl) :
    PE X (.Call (.Name x p) (e :: es) [] pos) (tCall sp [] E0 t) := by
  constructor
  intro pins s σ H Q I h
  refine wpAny_Call_Name_kw (ld_glob I hg hm ?_ hdb)
  refine PySem.W.callWith_K (h₀ := X.base) I.ok.mod.kin hk (thn (ha.run pos pins s σ H _ I h) ?_) he hpl
  rintro us s1 ⟨vs, H1, I1, r, q⟩
  refine ⟨I1.kIn, wpAny_call ?_⟩
  rw [List.append_nil] at q
  have hl : us.length = ps.length := r.length.symm.trans (F.len _ _ _ _ q)
  have hb' := hb s1 us I1.kIn (by rw [List.append_nil]; exact hl)
  rw [List.append_nil] at hb'
  refine codeAny_mono (F.go X.A X.stack s1 H1 ⟨us, []⟩ us vs Q E0 hG hr I1.env0 hb' r q) ?_
  intro res s' hq
  cases res with
  | error e => exact False.elim hq
  | ok fl =>
    cases fl with
    | ret u => exact I1.after hq
    | next => exact False.elim hq
    | brk => exact False.elim hq
    | cont => exact False.elim hq
end

/-! ### a call by keywords alone -/
section
variable {X : Cx} {CX : CXT} {k : Nat} {f : Addr} {fd : FuncData} {ps ks : List Str} {sp : Sp} {E : XK} {x : Str} {p pos : Pos} {kws : List Keyword} {tk : TA}
  {g : List Value → List Value → List Value} {gV : List V → List V → List V}
theorem pe_callK0 (F : FnOk X.prog X.w X.K X.mg X.base CX k f fd ps sp) (hr : Room k X.A) (hg : Gl X x) (hm : X.mg x = some (.ref f))
    (hk : PySem.W.keepIn X.K (.ref f) = true) (hb : KBinds X.K fd ps ks g gV) (hx : Passes CX X E) (hkw : PK X kws tk)
    (hall : (backToKw pos (keywordEach kws X.env)).all (·.1.isSome) = true := by rfl)
    (hks : (backToKw pos (keywordEach kws X.env)).filterMap (·.1) = ks := by rfl)
    (hdb : (x == ("__debug__" : Str)) = false := by decide)
    (hpl : ((backTo pos (starEach [] X.env)).any (·.1) || (backToKw pos (keywordEach kws X.env)).any (·.1.isNone)) = false := by rfl) :
    PE X (.Call (.Name x p) [] kws pos) (tCallK sp gV E tNil tk) := by
  constructor
  intro pins s σ H Q I h
  refine wpAny_Call_Name_kw (ld_glob I hg hm ?_ hdb)
  refine PySem.W.callWith_KW0 (h₀ := X.base) I.ok.mod.kin hk hall ?_ hpl
  refine thn (hkw.run pos pins s σ H _ I h) ?_
  rintro ws s1 ⟨zs, H1, I1, rz, q⟩
  refine ⟨I1.kIn, ?_⟩
  rw [hks]
  exact run_fnk (us := []) (vs := []) F hr hb hx I1 .nil rz q
end
end LK
set_option Elab.async false
set_option linter.all false
set_option maxRecDepth 100000
set_option maxHeartbeats 2000000
namespace LK
open PySem PySem.Spec PyProof.Rows L2

/-! ### the law's own call -/
section
variable {P : Program} {w : World} {K : PySem.W.Frag} {mg mb : Str → Option Value} {k : Nat} {fa a : Addr} {fd : FuncData} {x : Str} {sp : Sp} {s : Shared} {vs : List Value} {ns : List Int}
/-- from a heap H of which only the script may be told -/
theorem law_at {H : Hp} (kin : K.In s.heap) (gl : s.heap.Ns mainGlobals mg) (bl : s.heap.Ns builtinsNs mb) (bb : ∀ x : Str, x ≠ "__name__" → mb x = bootBuiltins x)
    (nl : s.heap.NoLimit) (gs : s.gens = #[]) (sa : s.heap.get? a = some { cls := .type "list", data := .seq vs.toArray }) (room : Room k callerA)
    (F : ∀ base : Heap, K.In base → base.Ns mainGlobals mg → FnG P w K mg base k fa fd [x] sp) (hb : ∀ (s : Shared) (u : Value), BindsTo s fd ⟨[u], []⟩ [(x, u)])
    (only : Only H) (just : ∀ b, H b ≠ none → b = a) (out : H a ≠ none → K.lookup a = none) (ok : HOk P w H s.heap)
    (hsp : sp [.ref a] H (fun v _ => v = .bl true) E0) :
    codeAny (model P w) callerA (.call (.ref fa) ⟨[.ref a], []⟩) (fun r s' => r = .ok (.ret (.bool true)) ∧ PySem.OldK s.heap s'.heap ∧ s'.os = s.os ∧ AllBare s'.gens) s := by
  have seen : ∀ {b : Addr} {o : Obj}, s.heap.get? b = some o → H b = none → (hidT s.heap H).get? b = some o := fun e n => hidT_get e n
  have bare : ∀ {b : Addr}, b ≠ a → H b = none := by
    intro b hne
    cases q : H b with
    | none => rfl
    | some u => exact absurd (just b (by rw [q]; exact fun z => nomatch z)) hne
  have nsH : ∀ {b : Addr} {m : Str → Option Value}, s.heap.Ns b m → (hidT s.heap H).Ns b m := by
    rintro b m ⟨o, es, ep, e, d, r⟩
    refine ⟨o, es, ep, seen e (bare ?_), d, r⟩
    rintro rfl
    rw [sa] at e
    cases e
    cases d
  have kinH : K.In (hidT s.heap H) := by
    intro b o e
    refine seen (kin b o e) ?_
    cases q : H b with
    | none => rfl
    | some u =>
      have nn : H b ≠ none := by rw [q]; exact fun z => nomatch z
      obtain rfl := just b nn
      rw [out nn] at e
      cases e
  have M : Mod K mg (hidT s.heap H) := by
    refine ⟨kinH, nsH gl, ⟨mb, nsH bl, bb⟩, ?_⟩
    obtain ⟨mc, l1, l2⟩ := nl
    exact ⟨mc, nsH l1, l2⟩
  have env : Env0 P w K mg (hidT s.heap H) callerA [] s H :=
    { frames := rfl, mod := M, bs := fun b o e => of_hidT e, bsz := Nat.le_of_eq (hidT_size _ _), funs := trivial, frf := fun b hm => absurd hm (by show ¬ b ∈ ([] : List Addr); simp), hok := ok, bare := .of_eq gs }
  refine codeAny_mono ((F _ kinH (nsH gl)).go callerA [] s H ⟨[.ref a], []⟩ [.ref a] [.ref a] _ _ rfl room env (hb s (.ref a)) (.cons rfl .nil) hsp) ?_
  intro r s' h
  cases r with
  | error e => exact False.elim h
  | ok fl =>
    cases fl with
    | next => exact False.elim h
    | brk => exact False.elim h
    | cont => exact False.elim h
    | ret u =>
      obtain ⟨v, H', os, bg, un, ok', rv, q⟩ := h
      have ev : v = .bl true := q
      subst ev
      have eu : u = Value.bool true := rv
      subst eu
      refine ⟨rfl, PySem.OldK.of_keep ?_, os, bg⟩
      intro b o e
      cases hq : H b with
      | none => exact un.keep b o e hq (fun z => absurd z (by show ¬ b ∈ ([] : List Addr); simp)) (by simp)
      | some u =>
        rcases only b with z | ⟨ob, xs, z⟩
        · rw [z] at hq; cases hq
        · have e1 := (ok b _ z).1
          have e2 := (ok' b _ (un.frzs b ob _ z)).1
          rw [e] at e1
          cases e1
          exact e2
theorem lawG (kin : K.In s.heap) (gl : s.heap.Ns mainGlobals mg) (bl : s.heap.Ns builtinsNs mb) (bb : ∀ x : Str, x ≠ "__name__" → mb x = bootBuiltins x)
    (nl : s.heap.NoLimit) (gs : s.gens = #[]) (sa : s.heap.get? a = some { cls := .type "list", data := .seq vs.toArray }) (hi : IntsAre vs ns) (hl : ns.length ≤ sizeLine) (room : Room k callerA)
    (F : ∀ base : Heap, K.In base → base.Ns mainGlobals mg → FnG P w K mg base k fa fd [x] sp) (hb : ∀ (s : Shared) (u : Value), BindsTo s fd ⟨[u], []⟩ [(x, u)])
    (hsp : ∀ H : Hp, Only H → SqL K H a (ns.map V.int) → sp [.ref a] H (fun v _ => v = .bl true) E0) :
    codeAny (model P w) callerA (.call (.ref fa) ⟨[.ref a], []⟩) (fun r s' => r = .ok (.ret (.bool true)) ∧ PySem.OldK s.heap s'.heap ∧ s'.os = s.os ∧ AllBare s'.gens) s := by
  have rv := vals_ints hi
  have hlen := hi.length
  cases hk : K.lookup a with
  | some o =>
    have e := kin a o hk
    rw [sa] at e
    cases e
    have S : SqL K (fun _ => none) a (ns.map V.int) := .inr ⟨_, vs.toArray, _, hk, rfl, rfl, rfl, by rw [List.size_toArray, hlen]; exact hl, by simpa using rv⟩
    have on : Only (fun _ => none) := fun _ => .inl rfl
    exact law_at kin gl bl bb nl gs sa room F hb on (fun b z => absurd rfl z) (fun z => absurd rfl z) (fun b u z => nomatch (show (none : Option HO) = some u from z)) (hsp _ on S)
  | none =>
    let o : HO := .frz { cls := .type "list", data := .seq vs.toArray } (.lst (ns.map V.int))
    let H : Hp := upd (fun _ => none) a o
    have at_a : H a = some o := upd_same
    have at_b : ∀ b, b ≠ a → H b = none := fun b hne => upd_ne hne
    have on : Only H := by
      intro b
      by_cases h : b = a
      · right; rw [h]; exact ⟨_, _, at_a⟩
      · left; exact at_b b h
    have S : SqL K H a (ns.map V.int) := .inl (.inr ⟨_, at_a⟩)
    refine law_at kin gl bl bb nl gs sa room F hb on (fun b z => ?_) (fun _ => hk) (fun b u z => ?_) (hsp _ on S)
    · by_cases h : b = a
      · exact h
      · exact absurd (at_b b h) z
    · by_cases h : b = a
      · subst h
        rw [at_a] at z
        cases z
        exact ⟨sa, by rw [List.length_map]; exact hl, vs, _, rv, sa⟩
      · rw [at_b b h] at z
        cases z
end
/-- the end over a head by facts -/
theorem walkG {l : PySem.W.OpenLaw} {n k : Nat} {q : Program} {loose : List Str} {XP : (Str → Option Value) → Heap → Prop} {YP : World → Heap → Prop} {d : DefRec} {x : Str}
    (hn : l.most = some n) (hn2 : n ≤ sizeLine) (hdf : d.params.defaults = []) (room : Room k callerA)
    (F : ∀ (w : World) (mg : Str → Option Value) (fa : Addr) (h : Heap), YP w h → h.Ns mainGlobals mg → mg d.name = some (.ref fa) →
      ∃ (K : PySem.W.Frag) (fd : FuncData) (sp : Sp), K.In h ∧ (∀ (s : Shared) (u : Value), BindsTo s fd ⟨[u], []⟩ [(x, u)]) ∧
        (∀ (H : Hp) (a : Addr) (ns : List Int), ns.length ≤ n → Only H → SqL K H a (ns.map V.int) → sp [.ref a] H (fun v _ => v = .bl true) E0) ∧
        ∀ base : Heap, K.In base → base.Ns mainGlobals mg → FnG l.prog w K mg base k fa fd [x] sp) :
    PySem.W.WalkO q loose XP YP l.row.toRowW d [] (fun f vs => PySem.call f vs) := by
  refine Att.attach_call hn hdf ?_
  intro w s₀ s₁ mg mb fa o pm cd doc a vs ns G Y ho hd hcd hmg hobj hints hlen hg
  obtain ⟨K, fd, sp, kin, hb, hsp, hF⟩ := F w mg fa _ Y G.T.g hmg
  exact lawG kin G.T.g G.T.b G.T.builtins G.T.nolimit hg hobj hints (Nat.le_trans hlen hn2) room hF hb fun H on S => hsp H a ns hlen on S

/-! ### repr of data -/
section
variable {X : Cx} {pins : List (Addr × Obj)} {σ : L2.St} {H : Hp} {s : Shared}
/-- data as Dp tells it, or a dict of texts and numbers to such -/
def Dq (K : PySem.W.Frag) (H : Hp) (v : V) (d : PyData) : Prop :=
  Dp K H v d ∨ ∃ a kvs ds, v = .ref a ∧ H a = some (.dK kvs) ∧ DpAll K H (kvs.map (·.2)) ds ∧
    d = .dict ((kvs.map fun p => match p.1 with | .inl i => PyData.int i | .inr z => PyData.str z).zip ds)
def keyD : Key → PyData
  | .inl i => .int i
  | .inr z => .str z
def rRepr (K : PySem.W.Frag) : List V → Hp → VK → Prop := fun xs H Q => ∃ x d, xs = [x] ∧ Dp K H x d ∧ d.showable = true ∧ d.depth ≤ 60 ∧ d.shown.length ≤ sizeLine ∧ Q (.str d.shown) H
theorem dp_nodict {K : PySem.W.Frag} {H : Hp} : ∀ (d : PyData) (v : V), Dp K H v d → d.hasDict = false := by
  intro d v h
  exact Dp.rec (motive_1 := fun v d _ => d.hasDict = false) (motive_2 := fun vs ds _ => PyData.hasDictAll ds = false)
    rfl (fun _ => rfl) (fun _ => rfl) (fun _ => rfl)
    (fun _ _ ih => by show PyData.hasDictAll _ = false; exact ih)
    (fun _ _ ih => by show PyData.hasDictAll _ = false; exact ih)
    rfl (fun _ _ i1 i2 => by show (_ || _) = false; rw [i1, i2]; rfl) h
theorem call_repr (hG : X.A.guards = some []) (hu : X.A.units + 64 < cLine) : CallR X (.builtin "repr") (rRepr X.K) := by
  intro pins s σ H xs us Q I r h
  obtain ⟨x, d, rfl, hd, hs, hdep, hsz, q⟩ := h
  obtain ⟨u, rfl, rx⟩ := vals1 r
  have fin : ∀ h' tk t, (∀ b o, s.heap.get? b = some o → h'.get? b = some o) → EP X pins σ Q (.str d.shown t) { s with heap := h', toks := tk } :=
    fun h' tk t kp => ⟨.str d.shown, H, I.kept kp, ⟨t, rfl⟩, q⟩
  have same : ∀ tk t, EP X pins σ Q (.str d.shown t) { s with toks := tk } := fun tk t => fin s.heap tk t fun _ _ z => z
  cases hd with
  | non => cases rx; exact PySem.P.repr_of_none (same _ _)
  | bl b => cases rx; exact PySem.P.repr_of_bool (by
      have e : (PyData.bool b).shown = (if b then "True" else "False" : Str) := rfl
      cases b <;> exact same _ _)
  | int i =>
    obtain ⟨t, rfl⟩ := rx
    have hi : i.natAbs.log2 < 1920 := of_decide_eq_true hs
    exact PySem.P.repr_of_int hi (same _ _)
  | str z =>
    obtain ⟨t, rfl⟩ := rx
    exact PySem.P.repr_of_str (same _ _) hsz
  | lst hl ha =>
    cases rx
    obtain ⟨as, rd⟩ := Dp.reads I _ _ _ (.lst hl ha) rfl
    exact repr_of_reads' rd hs (PyData.noDict_hsm (dp_nodict _ _ (.lst hl ha))) hG (by omega) (fun _ _ z => z) (fun h' t tk kp => fin h' tk t kp) hsz
  | tup hl ha =>
    cases rx
    obtain ⟨as, rd⟩ := Dp.reads I _ _ _ (.tup hl ha) rfl
    exact repr_of_reads' rd hs (PyData.noDict_hsm (dp_nodict _ _ (.tup hl ha))) hG (by omega) (fun _ _ z => z) (fun h' t tk kp => fin h' tk t kp) hsz
end
end LK
set_option Elab.async false
set_option linter.all false
set_option maxRecDepth 100000
set_option maxHeartbeats 2000000
namespace LK
open PySem PySem.Spec PyProof.Rows L2 Evl

/-! ### the state from which a law draws: its dict at s, the list of great cells at g -/
def stK (g : Addr) (r t sd : Int) (c : Addr) : List (Key × V) :=
  [(.inr "great", .ref g), (.inr "rest", .int r), (.inr "turn", .int t), (.inr "seed", .int sd), (.inr "cells", .ref c)]
/-- where a law's state stands: its dict, the great cells' list, the cells' list -/
structure Dr where
  s : Addr
  g : Addr
  c : Addr
/-- the parts of the state as they stand -/
structure StR (H : Hp) (d : Dr) (r t sd : Int) (gs cs : List Int) : Prop where
  hs : H d.s = some (.dK (stK d.g r t sd d.c))
  hg : H d.g = some (.lst (gs.map V.int))
  hc : H d.c = some (.lst (cs.map V.int))
  ncg : d.c ≠ d.g
structure StN (n : Nat) (r t sd : Int) (gs cs : List Int) : Prop where
  r0 : 0 ≤ r
  t0 : 0 ≤ t
  t1 : t ≤ (n : Int)
  s0 : 0 ≤ sd
  s1 : sd < 2147483648
  gs0 : ∀ z ∈ gs, 0 ≤ z
  cs0 : cs ≠ []
  cs1 : ∀ z ∈ cs, 0 ≤ z ∧ z < 2147483648
  csl : cs.length ≤ 100
  gsl : gs.length ≤ 100
/-- at most n draws were mixed so far -/
def StAt (H : Hp) (d : Dr) (n : Nat) : Prop := ∃ r t sd gs cs, StR H d r t sd gs cs ∧ StN n r t sd gs cs
/-- all but the state's own two things stands as it stood -/
def Fr (d : Dr) (H H' : Hp) : Prop := ∀ b o, H b = some o → b ≠ d.s → b ≠ d.g → H' b = some o
section
variable {d : Dr} {H H' H1 H2 : Hp} {p l : Addr} {r t sd : Int} {gs cs : List Int} {n m : Nat} {o u : HO}
theorem Fr.refl (H : Hp) : Fr d H H := fun _ _ h _ _ => h
theorem Fr.trans (a : Fr d H H1) (b : Fr d H1 H2) : Fr d H H2 := fun c o h h1 h2 => b c o (a c o h h1 h2) h1 h2
theorem Fr.same (a : Same H H1) : Fr d H H1 := fun c o h _ _ => a c o h
theorem Fr.new (h : H p = none) : Fr d H (upd H p o) := fun c u e _ _ => by rw [upd_ne (ne_of_none e h)]; exact e
theorem Fr.s : Fr d H (upd H d.s o) := fun c u e h _ => by rw [upd_ne h]; exact e
theorem Fr.g : Fr d H (upd H d.g o) := fun c u e _ h => by rw [upd_ne h]; exact e
theorem same_new (h : H p = none) : Same H (upd H p o) := fun b u e => by rw [upd_ne (ne_of_none e h)]; exact e
theorem StR.nsg (S : StR H d r t sd gs cs) : d.s ≠ d.g := ne_of S.hs S.hg (by intro z; cases z)
theorem StR.nsc (S : StR H d r t sd gs cs) : d.s ≠ d.c := ne_of S.hs S.hc (by intro z; cases z)
theorem StR.same (S : StR H d r t sd gs cs) (e : Same H H') : StR H' d r t sd gs cs := ⟨e _ _ S.hs, e _ _ S.hg, e _ _ S.hc, S.ncg⟩
theorem StR.new (S : StR H d r t sd gs cs) (h : H p = none) : StR (upd H p o) d r t sd gs cs := S.same (same_new h)
theorem StR.put (S : StR H d r t sd gs cs) {r' t' sd' : Int} : StR (upd H d.s (.dK (stK d.g r' t' sd' d.c))) d r' t' sd' gs cs :=
  ⟨upd_same, by rw [upd_ne S.nsg.symm]; exact S.hg, by rw [upd_ne S.nsc.symm]; exact S.hc, S.ncg⟩
theorem StR.pop (S : StR H d r t sd gs cs) {gs' : List Int} : StR (upd H d.g (.lst (gs'.map V.int))) d r t sd gs' cs :=
  ⟨by rw [upd_ne S.nsg]; exact S.hs, upd_same, by rw [upd_ne S.ncg]; exact S.hc, S.ncg⟩
theorem StAt.mono (S : StAt H d n) (h : n ≤ m) : StAt H d m := by
  obtain ⟨r, t, sd, gs, cs, R, N⟩ := S
  exact ⟨r, t, sd, gs, cs, R, { N with t1 := by have := N.t1; omega }⟩
theorem StAt.same (S : StAt H d n) (e : Same H H') : StAt H' d n := by
  obtain ⟨r, t, sd, gs, cs, R, N⟩ := S
  exact ⟨r, t, sd, gs, cs, R.same e, N⟩
theorem StAt.new (S : StAt H d n) (h : H p = none) : StAt (upd H p o) d n := S.same (same_new h)
theorem StAt.ns (S : StAt H d n) (h : H l = none) : l ≠ d.s := by
  obtain ⟨r, t, sd, gs, cs, R, _⟩ := S
  rintro rfl
  rw [R.hs] at h; cases h
theorem StAt.ng (S : StAt H d n) (h : H l = none) : l ≠ d.g := by
  obtain ⟨r, t, sd, gs, cs, R, _⟩ := S
  rintro rfl
  rw [R.hg] at h; cases h
theorem StAt.nc (S : StAt H d n) (h : H l = none) : l ≠ d.c := by
  obtain ⟨r, t, sd, gs, cs, R, _⟩ := S
  rintro rfl
  rw [R.hc] at h; cases h
/-- another thing changes -/
theorem StAt.upd (S : StAt H d n) (h1 : l ≠ d.s) (h2 : l ≠ d.g) (h3 : l ≠ d.c) : StAt (upd H l o) d n := by
  obtain ⟨r, t, sd, gs, cs, R, N⟩ := S
  exact ⟨r, t, sd, gs, cs, ⟨by rw [upd_ne h1.symm]; exact R.hs, by rw [upd_ne h2.symm]; exact R.hg, by rw [upd_ne h3.symm]; exact R.hc, R.ncg⟩, N⟩
/-- a thing laid while the state stood: it stays -/
theorem Fr.stay (f : Fr d (L2.upd H l o) H') (S : StAt H d n) (h : H l = none) : H' l = some o := f l o upd_same (S.ns h) (S.ng h)
end

/-! ### keys of that dict -/
theorem kne {a b : Str} (h : ¬ a = b) : ¬ ((Sum.inr a : Key) = Sum.inr b) := fun z => h (Sum.inr.inj z)
theorem k_gr : ¬ (("great" : Str) = "rest") := by decide +kernel
theorem k_gt : ¬ (("great" : Str) = "turn") := by decide +kernel
theorem k_gs : ¬ (("great" : Str) = "seed") := by decide +kernel
theorem k_gc : ¬ (("great" : Str) = "cells") := by decide +kernel
theorem k_rg : ¬ (("rest" : Str) = "great") := by decide +kernel
theorem k_rt : ¬ (("rest" : Str) = "turn") := by decide +kernel
theorem k_rs : ¬ (("rest" : Str) = "seed") := by decide +kernel
theorem k_rc : ¬ (("rest" : Str) = "cells") := by decide +kernel
theorem k_tg : ¬ (("turn" : Str) = "great") := by decide +kernel
theorem k_tr : ¬ (("turn" : Str) = "rest") := by decide +kernel
theorem k_ts : ¬ (("turn" : Str) = "seed") := by decide +kernel
theorem k_tc : ¬ (("turn" : Str) = "cells") := by decide +kernel
theorem k_sg : ¬ (("seed" : Str) = "great") := by decide +kernel
theorem k_sr : ¬ (("seed" : Str) = "rest") := by decide +kernel
theorem k_st : ¬ (("seed" : Str) = "turn") := by decide +kernel
theorem k_sc : ¬ (("seed" : Str) = "cells") := by decide +kernel
section
variable {g c : Addr} {r t sd : Int}
theorem st_great : valV (stK g r t sd c) (.inr "great" : Key) = some (.ref g) := valV_pos rfl
theorem st_rest : valV (stK g r t sd c) (.inr "rest" : Key) = some (.int r) := (valV_neg (kne k_gr)).trans (valV_pos rfl)
theorem st_turn : valV (stK g r t sd c) (.inr "turn" : Key) = some (.int t) := (valV_neg (kne k_gt)).trans ((valV_neg (kne k_rt)).trans (valV_pos rfl))
theorem st_seed : valV (stK g r t sd c) (.inr "seed" : Key) = some (.int sd) := (valV_neg (kne k_gs)).trans ((valV_neg (kne k_rs)).trans ((valV_neg (kne k_ts)).trans (valV_pos rfl)))
theorem st_cells : valV (stK g r t sd c) (.inr "cells" : Key) = some (.ref c) :=
  (valV_neg (kne k_gc)).trans ((valV_neg (kne k_rc)).trans ((valV_neg (kne k_tc)).trans ((valV_neg (kne k_sc)).trans (valV_pos rfl))))
theorem put_rest {y : Int} : putK (stK g r t sd c) (.inr "rest" : Key) (.int y) = stK g y t sd c := by
  simp [putK, stK, k_gr, k_tr, k_sr, Ne.symm k_rc, k_rc, k_rg, k_rt, k_rs, kne]
theorem put_turn {y : Int} : putK (stK g r t sd c) (.inr "turn" : Key) (.int y) = stK g r y sd c := by
  simp [putK, stK, k_gt, k_rt, k_st, k_tc]
  decide +kernel
theorem put_seed {y : Int} : putK (stK g r t sd c) (.inr "seed" : Key) (.int y) = stK g r t y c := by
  simp [putK, stK, k_gs, k_rs, k_ts, k_sc]
  decide +kernel
theorem merge_st {gv rv tv sv cv : V} : mergeK [] [((.inr "great" : Key), gv), (.inr "rest", rv), (.inr "turn", tv), (.inr "seed", sv), (.inr "cells", cv)] =
    [((.inr "great" : Key), gv), (.inr "rest", rv), (.inr "turn", tv), (.inr "seed", sv), (.inr "cells", cv)] := by
  simp [mergeK, putK, k_gr, k_gt, k_gs, k_gc, k_rt, k_rs, k_rc, k_ts, k_tc, k_sc]
end
section
variable {H : Hp} {d : Dr} {r t sd : Int} {gs cs : List Int}
theorem st_len {g c : Addr} : (stK g r t sd c).length < sizeLine := by show 5 < sizeLine; decide
theorem g_great (S : StR H d r t sd gs cs) : DGet H d.s (.str "great") (some (.ref d.g)) := st_great (r := r) (t := t) (sd := sd) (c := d.c) ▸ DGet.k (k := (.inr "great" : Key)) S.hs
theorem g_rest (S : StR H d r t sd gs cs) : DGet H d.s (.str "rest") (some (.int r)) := st_rest (g := d.g) (t := t) (sd := sd) (c := d.c) ▸ DGet.k (k := (.inr "rest" : Key)) S.hs
theorem g_turn (S : StR H d r t sd gs cs) : DGet H d.s (.str "turn") (some (.int t)) := st_turn (g := d.g) (r := r) (sd := sd) (c := d.c) ▸ DGet.k (k := (.inr "turn" : Key)) S.hs
theorem g_seed (S : StR H d r t sd gs cs) : DGet H d.s (.str "seed") (some (.int sd)) := st_seed (g := d.g) (r := r) (t := t) (c := d.c) ▸ DGet.k (k := (.inr "seed" : Key)) S.hs
theorem g_cells (S : StR H d r t sd gs cs) : DGet H d.s (.str "cells") (some (.ref d.c)) := st_cells (g := d.g) (r := r) (t := t) (sd := sd) ▸ DGet.k (k := (.inr "cells" : Key)) S.hs
theorem p_rest (S : StR H d r t sd gs cs) {y : Int} : DPut H d.s (.str "rest") (.int y) (upd H d.s (.dK (stK d.g y t sd d.c))) := put_rest (r := r) (y := y) ▸ DPut.k (k := (.inr "rest" : Key)) (v := .int y) S.hs st_len
theorem p_turn (S : StR H d r t sd gs cs) {y : Int} : DPut H d.s (.str "turn") (.int y) (upd H d.s (.dK (stK d.g r y sd d.c))) := put_turn (t := t) (y := y) ▸ DPut.k (k := (.inr "turn" : Key)) (v := .int y) S.hs st_len
theorem p_seed (S : StR H d r t sd gs cs) {y : Int} : DPut H d.s (.str "seed") (.int y) (upd H d.s (.dK (stK d.g r t y d.c))) := put_seed (sd := sd) (y := y) ▸ DPut.k (k := (.inr "seed" : Key)) (v := .int y) S.hs st_len
end
theorem seq0 {n : Nat} : seqIndex? 0 (n + 1) = some 0 := by simp [seqIndex?]
theorem at_of {xs : List V} {z : Int} {j : Nat} {v : V} (e : z = (j : Int)) (h : xs[j]? = some v) : atI xs z = some v := e ▸ atI_nat h
/-! ### lists of numbers as data -/
theorem dp_ints {K : PySem.W.Frag} {H : Hp} : ∀ l : List Int, DpAll K H (l.map V.int) (l.map PyData.int)
  | [] => .nil
  | z :: l => .cons (.int z) (dp_ints l)
theorem lay_ints : ∀ l : List Int, PyData.canLayAll0 (l.map PyData.int) = true
  | [] => rfl
  | z :: l => by show (true && PyData.canLayAll0 (l.map PyData.int)) = true; rw [lay_ints l]; rfl
theorem deep_ints : ∀ l : List Int, PyData.depthAll (l.map PyData.int) = 0
  | [] => rfl
  | z :: l => by show max 0 (PyData.depthAll (l.map PyData.int)) = 0; rw [deep_ints l]; rfl
theorem shaped_ints (l : List Int) : SeqAt.shaped (.list (l.map PyData.int)) = true := by
  show (PyData.canLayAll0 (l.map PyData.int) && decide (PyData.depthAll (l.map PyData.int) + 1 ≤ 64)) = true
  rw [lay_ints, deep_ints]; rfl
/-! ### a thing to pick from -/
def chr1 (c : Nat) : V := .str ⟨#[c]⟩
def Pk (K : PySem.W.Frag) (H : Hp) (v : V) (xs : List V) : Prop :=
  (∃ p, v = .ref p ∧ (SqL K H p xs ∨ SqT K H p xs)) ∨ ∃ z : Str, v = .str z ∧ xs = z.cps.toList.map chr1
section
variable {K : PySem.W.Frag} {H H' : Hp} {d : Dr} {p : Addr} {n : Nat} {xs : List V} {v : V}
theorem Fr.seqL (f : Fr d H H') (S : StAt H d n) (h : SqL K H p xs) (hg : p ≠ d.g) : SqL K H' p xs := by
  obtain ⟨r, t, sd, gs, cs, R, _⟩ := S
  rcases h with (h | ⟨o, h⟩) | h
  · exact .inl (.inl (f _ _ h (ne_of h R.hs (by intro z; cases z)) hg))
  · exact .inl (.inr ⟨o, f _ _ h (ne_of h R.hs (by intro z; cases z)) hg⟩)
  · exact .inr h
theorem Fr.seqT (f : Fr d H H') (S : StAt H d n) (h : SqT K H p xs) : SqT K H' p xs := by
  obtain ⟨r, t, sd, gs, cs, R, _⟩ := S
  rcases h with (h | ⟨o, h⟩) | h
  · exact .inl (.inl (f _ _ h (ne_of h R.hs (by intro z; cases z)) (ne_of h R.hg (by intro z; cases z))))
  · exact .inl (.inr ⟨o, f _ _ h (ne_of h R.hs (by intro z; cases z)) (ne_of h R.hg (by intro z; cases z))⟩)
  · exact .inr h
theorem Pk.fr (h : Pk K H v xs) (f : Fr d H H') (S : StAt H d n) (hg : v ≠ .ref d.g) : Pk K H' v xs := by
  rcases h with ⟨p, rfl, h⟩ | ⟨z, rfl, rfl⟩
  · have hp : p ≠ d.g := fun e => hg (by rw [e])
    rcases h with h | h
    · exact .inl ⟨p, rfl, .inl (f.seqL S h hp)⟩
    · exact .inl ⟨p, rfl, .inr (f.seqT S h)⟩
  · exact .inr ⟨z, rfl, rfl⟩
/-- its length -/
theorem Pk.len (h : Pk K H v xs) (hl : xs.length ≤ 1000) : LenV K v H xs.length := by
  rcases h with ⟨p, rfl, h | h⟩ | ⟨z, rfl, rfl⟩
  · exact .inl ⟨xs, h, rfl⟩
  · exact .inr ⟨xs, h, rfl⟩
  · refine ⟨?_, ?_⟩
    · rw [List.length_map] at hl
      exact Nat.le_trans hl (by decide)
    · rw [List.length_map]; rfl
/-- its item at i -/
theorem Pk.ix (h : Pk K H v xs) (hl : xs.length ≤ 1000) {i : Int} (h0 : 0 ≤ i) (h1 : i < (xs.length : Int)) {Q : VK} (q : ∀ x, x ∈ xs → Q x H) : rIx K v (.int i) H Q := by
  obtain ⟨j, rfl⟩ : ∃ j : Nat, i = (j : Int) := ⟨i.toNat, by omega⟩
  have hi : j < xs.length := by omega
  rcases h with ⟨p, rfl, h | h⟩ | ⟨z, rfl, rfl⟩
  · exact .inl ⟨p, xs, j, _, rfl, rfl, h, atI_nat (List.getElem?_eq_getElem hi), q _ (List.getElem_mem hi)⟩
  · exact .inr (.inl ⟨p, xs, j, _, rfl, rfl, h, atI_nat (List.getElem?_eq_getElem hi), q _ (List.getElem_mem hi)⟩)
  · rw [List.length_map] at hi hl
    have hz : z.length = z.cps.toList.length := rfl
    exact .inr (.inr ⟨z, j, z.cps.toList[j], rfl, rfl, Nat.le_trans (hz ▸ hl) (by decide), atI_nat (List.getElem?_eq_getElem hi), q _ (List.mem_map.mpr ⟨_, List.getElem_mem hi, rfl⟩)⟩)
end
theorem et_yes {σ : L2.St} {H : Hp} : EvT tYes σ H true := fun H1 _ Q q => q H1 (Ex.refl H1)
theorem given_ints {n : Nat} {f : Nat → Bool} {v : Nat → Int} : given n f (fun i => V.int (v i)) = (((List.range n).filter f).map v).map V.int := by
  unfold given
  rw [List.map_map]
  rfl
theorem t_c {v : V} {σ : L2.St} {H : Hp} {Q : VK} (h : Q v H) : tC v σ H Q := h
end LK
set_option Elab.async false
set_option linter.all false
set_option maxRecDepth 100000
set_option maxHeartbeats 2000000
namespace LK
open PySem PySem.Spec PyProof.Rows L2 Evl

/-! ### type(x), isinstance by it -/
inductive Ty6 (K : PySem.W.Frag) (H : Hp) : V → String → Prop
  | non : Ty6 K H .non "NoneType"
  | bl (b : Bool) : Ty6 K H (.bl b) "bool"
  | int (i : Int) : Ty6 K H (.int i) "int"
  | str (x : Str) : Ty6 K H (.str x) "str"
  | lst {a : Addr} {xs : List V} (e : H a = some (.lst xs)) : Ty6 K H (.ref a) "list"
  | tup {a : Addr} {xs : List V} (e : SqT K H a xs) : Ty6 K H (.ref a) "tuple"
  | dic {a : Addr} {kvs : List (Key × V)} (e : H a = some (.dK kvs)) : Ty6 K H (.ref a) "dict"
section
variable {X : Cx}
def rTy6 (K : PySem.W.Frag) : List V → Hp → VK → Prop := fun xs H Q => ∃ x T, xs = [x] ∧ Ty6 K H x T ∧ Q (.ty T) H
theorem call_ty6 : CallR X (.type "type") (rTy6 X.K) := by
  intro pins s σ H xs us Q I r h
  obtain ⟨x, T, rfl, t, q⟩ := h
  obtain ⟨u, rfl, rx⟩ := vals1 r
  have fin : EP X pins σ Q (.type T) s := ⟨.ty T, H, I, rfl, q⟩
  cases t with
  | non => cases rx; exact call_type_of (typeIs_none s) (by decide +kernel) fin
  | bl b => cases rx; exact call_type_of (PySem.typeIs_bool s b) (by decide +kernel) fin
  | int i => obtain ⟨k, rfl⟩ := rx; exact call_type_of (typeIs_int s i k) (by decide +kernel) fin
  | str z => obtain ⟨k, rfl⟩ := rx; exact call_type_of (typeIs_str s z k) (by decide +kernel) fin
  | lst e =>
    cases rx
    obtain ⟨its, rv, p, _⟩ := I.list (.inl (.inl e))
    exact call_type_of p.isList.typeIs (by decide +kernel) fin
  | tup e =>
    cases rx
    obtain ⟨its, rv, p, _⟩ := I.tuple e
    exact call_type_of p.typeIs (by decide +kernel) fin
  | dic e =>
    cases rx
    obtain ⟨_, _, vs, _, o, es, ep, g, ex, _⟩ := I.hok _ _ e
    exact call_type_of (Tx := "dict") ⟨o, g, ex.1⟩ (by decide +kernel) fin
theorem Ty6.tyX {K : PySem.W.Frag} {H : Hp} {x : V} {T : String} (t : Ty6 K H x T) : TyX K H x (.type T) := by
  cases t with
  | non => exact .base .non
  | bl b => exact .base (.bl b)
  | int i => exact .base (.int i)
  | str z => exact .base (.str z)
  | lst e => exact .base (.lst e)
  | tup e =>
    rcases e with (e | ⟨o, e⟩) | ⟨o, its, n, e, c, _⟩
    · exact .base (.tup e)
    · exact .fTuple e
    · exact .kTuple e c
  | dic e => exact .base (.dK e)
end

/-! ### comprehensions over a text -/
section
variable {K : PySem.W.Frag} {σ : L2.St} {H : Hp} {te : TE} {t : TT}
theorem el_lcS {z : Str} {tl : TE} {j : Nat} {vs : List Nat} (f : Nat → Bool) (v : Nat → V) (h : Ev tl σ H (.str z)) (hz : z.cps.size ≤ 40000)
    (hw : ∀ x, wipe ((wipe σ vs).set j (some x)) vs = wipe σ vs)
    (ht : ∀ (i : Nat) (c : Nat) H1, Ex H H1 → z.cps[i]? = some c → EvT t ((wipe σ vs).set j (some (chr1 c))) H1 (f i))
    (he : ∀ (i : Nat) (c : Nat) H1, Ex H H1 → z.cps[i]? = some c → f i = true → Ev te ((wipe σ vs).set j (some (chr1 c))) H1 (v i)) :
    EvL (tLc (iStr tl) (gName j) t te vs) σ H (given z.cps.size f v) := by
  intro H0 e Q q
  refine h H0 e _ fun H1 e1 => ⟨z, rfl, fun Dl hD => ?_⟩
  refine lc_it walk_str (Cw H1 f v Dl) ⟨hD, Ex.new hD, upd_same⟩ (fun _ _ _ _ => trivial) ?_ (fun H' p => q Dl H' (fresh_back e1 p.1) (e1.trans p.2.1) p.2.2)
  rintro i x H2 H' hi p ⟨rfl, c, hc, rfl⟩
  exact ⟨hw _, cw_turn p (by omega) (ht i c H1 (e.trans e1) hc) (fun hf => he i c H1 (e.trans e1) hc hf)⟩
theorem given_nil {n : Nat} {f : Nat → Bool} {v : Nat → V} (h : ∀ i, i < n → f i = false) : given n f v = [] := by
  unfold given
  have e : (List.range n).filter f = [] := by
    rw [List.filter_eq_nil_iff]
    intro i hi
    rw [h i (List.mem_range.mp hi)]
    decide
  rw [e]
  rfl
theorem given_cons {n i : Nat} {f : Nat → Bool} {v : Nat → V} (hi : i < n) (h : f i = true) : given n f v ≠ [] := by
  unfold given
  intro e
  have m : v i ∈ ((List.range n).filter f).map v := List.mem_map.mpr ⟨i, List.mem_filter.mpr ⟨List.mem_range.mpr hi, h⟩, rfl⟩
  rw [e] at m
  cases m
end

/-! ### repr of a dict of texts to texts -/
section
variable {X : Cx}
/-- {z: y} -/
def oneD (z y : Str) : PyData := .dict [(.str z, .str y)]
theorem reads_one {pins : List (Addr × Obj)} {σ : L2.St} {H : Hp} {s : Shared} {a : Addr} {z y : Str} (I : Inv X pins σ H s)
    (e : H a = some (.dK [((.inr z : Key), .str y)])) : a ≠ sysModules ∧ Reads s.heap (.ref a) (oneD z y) [a] := by
  obtain ⟨_, nm, vs, kv, o, es, ep, g, ex, d, _, pr, _⟩ := I.hok _ _ e
  refine ⟨beq_eq_false_iff_ne.mp nm, ?_⟩
  cases kv with
  | @cons _ q l1 l2 h1 h2 =>
    cases h2
    obtain ⟨qk, qv⟩ := q
    obtain ⟨e1, t, e2⟩ := h1
    have e1' : qk = .inr z := e1.symm
    have e2' : qv = Value.str y t := e2
    subst e1' e2'
    generalize hes : es.toList = l at pr
    cases pr with
    | @cons en _ _ _ hk hv pr =>
      cases pr
      have hk' : keyIs (.inr z) en.key = true := hk
      rcases keyIs_shape hk' with ⟨i, t', ek, _⟩ | ⟨x, t', ek, ev⟩
      · cases ek
      · cases ek
        have hv' : en.val = Value.str y t := hv
        have r1 : ReadsAll s.heap (es.toList.map (·.key)) ([((PyData.str z), PyData.str y)].map (·.1)) [] := by
          rw [hes]
          show ReadsAll s.heap [en.key] [PyData.str z] []
          rw [ev]
          exact ReadsAll.cons (.str z t') .nil
        have r2 : ReadsAll s.heap (es.toList.map (·.val)) ([((PyData.str z), PyData.str y)].map (·.2)) [] := by
          rw [hes]
          show ReadsAll s.heap [en.val] [PyData.str y] []
          rw [hv']
          exact ReadsAll.cons (.str y t) .nil
        exact Reads.dict g ex.1 d r1 r2
/-- repr of data, or of {z: y} -/
def ReprOf (K : PySem.W.Frag) (H : Hp) (x : V) (r : Str) : Prop :=
  (∃ d, Dp K H x d ∧ d.showable = true ∧ d.depth ≤ 60 ∧ d.shown.length ≤ sizeLine ∧ r = d.shown) ∨
  ∃ a z y, x = .ref a ∧ H a = some (.dK [((.inr z : Key), .str y)]) ∧ (oneD z y).shown.length ≤ sizeLine ∧ r = (oneD z y).shown
def rReprQ (K : PySem.W.Frag) : List V → Hp → VK → Prop := fun xs H Q => ∃ x r, xs = [x] ∧ ReprOf K H x r ∧ Q (.str r) H
theorem call_reprQ (hG : X.A.guards = some []) (hu : X.A.units + 64 < cLine) : CallR X (.builtin "repr") (rReprQ X.K) := by
  intro pins s σ H xs us Q I r h
  obtain ⟨x, t, rfl, hx, q⟩ := h
  rcases hx with ⟨d, h1, h2, h3, h4, rfl⟩ | ⟨a, z, y, rfl, e, hz, rfl⟩
  · exact call_repr hG hu pins s σ H [x] us Q I r ⟨x, d, rfl, h1, h2, h3, h4, q⟩
  · obtain ⟨u, rfl, rx⟩ := vals1 r
    cases rx
    obtain ⟨na, rd⟩ := reads_one I e
    refine repr_of_reads' rd rfl (fun _ hm => na (List.mem_singleton.mp hm).symm) hG ?_ (fun _ _ z => z) (fun h' t tk kp => ?_) hz
    · have : (oneD z y).depth = 1 := rfl
      omega
    · exact ⟨.str _, H, I.kept kp, ⟨t, rfl⟩, q⟩
end

/-! ### texts -/
theorem str_ext {x y : Str} (h : x.cps.toList = y.cps.toList) : x = y := by
  cases x; cases y
  congr 1
  exact Array.toList_inj.mp h
/-- a short text of plain signs -/
def Tx (z : Str) : Prop := z.cps.toList.length ≤ 40 ∧ ∀ c ∈ z.cps.toList, c < 128
theorem Tx.len {z : Str} (h : Tx z) : z.length ≤ 40 := h.1
theorem tx_app {x y : Str} (hx : ∀ c ∈ x.cps.toList, c < 128) (hy : ∀ c ∈ y.cps.toList, c < 128) (hl : x.length + y.length ≤ 40) : Tx (x ++ y) := by
  have e : (x ++ y).cps.toList = x.cps.toList ++ y.cps.toList := by
    show (x.cps ++ y.cps).toList = _
    rw [Array.toList_append]
  constructor
  · rw [e, List.length_append]; exact hl
  · intro c hc
    rw [e] at hc
    rcases List.mem_append.mp hc with h | h
    · exact hx c h
    · exact hy c h
theorem app_len (x y : Str) : (x ++ y).length = x.length + y.length := by
  show (x.cps ++ y.cps).size = _
  rw [Array.size_append]; rfl
theorem app_mem {x y : Str} {c : Nat} (h : c ∈ (x ++ y).cps.toList) : c ∈ x.cps.toList ∨ c ∈ y.cps.toList := by
  have e : (x ++ y).cps.toList = x.cps.toList ++ y.cps.toList := by
    show (x.cps ++ y.cps).toList = _
    rw [Array.toList_append]
  rw [e] at h
  exact List.mem_append.mp h
theorem cut_mem {z : Str} {lo hi : Option Int} {c : Nat} (h : c ∈ (cutS z lo hi).cps.toList) : c ∈ z.cps.toList := by
  unfold cutS at h
  simp only at h
  exact List.mem_of_mem_drop (List.mem_of_mem_take h)
theorem cut_len (z : Str) (lo hi : Option Int) : (cutS z lo hi).length ≤ z.length := by
  show ((z.cps.toList.drop _).take _).toArray.size ≤ z.cps.size
  rw [List.size_toArray, List.length_take, List.length_drop]
  have : z.cps.toList.length = z.cps.size := rfl
  omega
/-- the signs of texts joined by nothing -/
theorem join_nil : ∀ zs : List Str, (Txt.join "" zs).cps.toList = (zs.map fun z => z.cps.toList).flatten := by
  intro zs
  rw [TL.join_eq]
  have h := TL.tl_join "" zs
  have h2 : ∀ l : List (List Nat), TL.joinL [] l = l.flatten := by
    intro l
    induction l with
    | nil => rfl
    | cons a l ih =>
      cases l with
      | nil => show a = _; simp
      | cons b r =>
        show a ++ ([] ++ TL.joinL [] (b :: r)) = _
        rw [ih]; rfl
  have e : TL.tl ("" : Str) = [] := by decide +kernel
  rw [e, h2] at h
  exact h
theorem sum_ones : ∀ zs : List Str, (∀ z ∈ zs, z.length = 1) → (zs.map (·.length)).sum = zs.length
  | [], _ => rfl
  | a :: l, h => by
    have h1 := h a List.mem_cons_self
    have h2 := sum_ones l fun z hz => h z (List.mem_cons_of_mem _ hz)
    rw [List.map_cons, List.sum_cons, h1, h2, List.length_cons]
    omega
theorem join_ones {zs : List Str} {al : List Nat} (h : ∀ z ∈ zs, ∃ c ∈ al, z = ⟨#[c]⟩) : (Txt.join "" zs).length = zs.length ∧ ∀ c ∈ (Txt.join "" zs).cps.toList, c ∈ al := by
  have e := join_nil zs
  constructor
  · show (Txt.join "" zs).cps.toList.length = _
    rw [e]
    clear e
    induction zs with
    | nil => rfl
    | cons a l ih =>
      obtain ⟨c, _, rfl⟩ := h a List.mem_cons_self
      have := ih fun z hz => h z (List.mem_cons_of_mem _ hz)
      rw [List.map_cons, List.flatten_cons, List.length_append, this, List.length_cons]
      show 1 + l.length = l.length + 1
      omega
  · intro c hc
    rw [e] at hc
    obtain ⟨l, hl, hcl⟩ := List.mem_flatten.mp hc
    obtain ⟨z, hz, rfl⟩ := List.mem_map.mp hl
    obtain ⟨d, hd, rfl⟩ := h z hz
    have : c = d := by simpa using hcl
    rw [this]; exact hd
section
theorem at_some {xs : List V} {i : Int} (h0 : 0 ≤ i) (h1 : i < (xs.length : Int)) : ∃ v, atI xs i = some v ∧ v ∈ xs := by
  obtain ⟨j, rfl⟩ : ∃ j : Nat, i = (j : Int) := ⟨i.toNat, by omega⟩
  have hj : j < xs.length := by omega
  exact ⟨_, atI_nat (List.getElem?_eq_getElem hj), List.getElem_mem hj⟩
end
/-! ### lists of texts as data -/
theorem strs_of {P : Str → Prop} : ∀ {l : List V}, (∀ v ∈ l, ∃ z, P z ∧ v = .str z) → ∃ zs : List Str, l = zs.map V.str ∧ ∀ z ∈ zs, P z
  | [], _ => ⟨[], rfl, fun _ h => (nomatch h)⟩
  | v :: l, h => by
    obtain ⟨z, hz, rfl⟩ := h v List.mem_cons_self
    obtain ⟨zs, rfl, hzs⟩ := strs_of (l := l) fun u hu => h u (List.mem_cons_of_mem _ hu)
    refine ⟨z :: zs, rfl, fun y hy => ?_⟩
    rcases List.mem_cons.mp hy with rfl | hy
    · exact hz
    · exact hzs y hy
theorem dp_strs {K : PySem.W.Frag} {H : Hp} : ∀ l : List Str, DpAll K H (l.map V.str) (l.map PyData.str)
  | [] => .nil
  | z :: l => .cons (.str z) (dp_strs l)
theorem shaped_strs {l : List Str} (h : ∀ z ∈ l, (PyData.str z).canLay0 = true) : SeqAt.shaped (.list (l.map PyData.str)) = true := by
  have lay : ∀ l : List Str, (∀ z ∈ l, (PyData.str z).canLay0 = true) → PyData.canLayAll0 (l.map PyData.str) = true := by
    intro l
    induction l with
    | nil => intro _; rfl
    | cons z l ih =>
      intro h
      show ((PyData.str z).canLay0 && PyData.canLayAll0 (l.map PyData.str)) = true
      rw [h z List.mem_cons_self, ih fun y hy => h y (List.mem_cons_of_mem _ hy)]; rfl
  have deep : ∀ l : List Str, PyData.depthAll (l.map PyData.str) = 0 := by
    intro l
    induction l with
    | nil => rfl
    | cons z l ih => show max 0 (PyData.depthAll (l.map PyData.str)) = 0; rw [ih]; rfl
  show (PyData.canLayAll0 (l.map PyData.str) && decide (PyData.depthAll (l.map PyData.str) + 1 ≤ 64)) = true
  rw [lay l h, deep]; rfl
theorem eqv_nil (l : List PyData) : PyData.eqv (.list l) (.list []) = l.isEmpty := by cases l <;> rfl
theorem Tx.lay {z : Str} (h : Tx z) : (PyData.str z).canLay0 = true := by
  show z.cps.all (· < 0x110000) = true
  rw [← Array.all_toList, List.all_eq_true]
  intro c hc
  have := h.2 c hc
  exact decide_eq_true (by omega)
/-! ### readings, step by step -/
section
variable {σ : L2.St} {H : Hp} {k : List V → Hp → Prop} {Q : VK} {E : XK} {ta tb te : TE} {t tk tr : TA} {r : R2} {sp : Sp} {dvs : List V} {gV : List V → List V → List V} {D : Ends} {rc : List V → Hp → VK → Prop} {v : V}
theorem t_nil (h : k [] H) : tNil σ H k := h
theorem t_cons (h : ta σ H fun x H1 => tr σ H1 fun xs H2 => k (x :: xs) H2) : tCons ta tr σ H k := h
theorem t_var {i : Nat} (e : σ[i]? = some (some v)) (h : Q v H) : tVar i σ H Q := ⟨v, e, h⟩
theorem t_call (h : t σ H fun vs H1 => sp (vs ++ dvs) H1 Q E) : tCall sp dvs E t σ H Q := h
theorem t_callK (h : t σ H fun vs H1 => tk σ H1 fun zs H2 => sp (gV vs zs) H2 Q E) : tCallK sp gV E t tk σ H Q := h
theorem t_ret (h : te σ H D.rt) : tRet te D σ H := h
theorem t_op (h : ta σ H fun x H1 => tb σ H1 fun y H2 => r x y H2 Q) : tOp r ta tb σ H Q := h
theorem t_cb (h : t σ H fun vs H1 => rc vs H1 Q) : tCB rc t σ H Q := h
end
end LK
set_option Elab.async false
set_option linter.all false
set_option maxRecDepth 100000
set_option maxHeartbeats 4000000
namespace K02
open PySem PySem.Spec PyProof.Rows L2 Evl LK
def top (i : Nat) : Stmt := PySem.Challenge.pw_frozenmakers_k02_names_known.main.body.getD i (.Pass ⟨0, 0, 0, 0⟩)
abbrev sBegun : Stmt := top 5
abbrev sTake : Stmt := top 6
abbrev sPick : Stmt := top 7
abbrev FnP (K : PySem.W.Frag) (x : Str) (st : Stmt) (f : Addr) (fd : FuncData) : Prop := FunD K x x (defArgs st) (defBody st) (defScope st) [] [] f fd
/-! ### draws -/
def spTake : Sp := fun vs H Q _ => ∃ (d : Dr) (m : Int) (n : Nat), vs = [.ref d.s, .int m] ∧ StAt H d n ∧ n < 1000000000000000 ∧ 0 < m ∧ m < 1073741824 ∧
  ∀ (r : Int) (H' : Hp), 0 ≤ r → r < m → StAt H' d (n + 1) → LK.Fr d H H' → Q (.int r) H'
section
variable {P : Program} {w : World} {K : PySem.W.Frag} {mg : Str → Option Value} {base : Heap}
theorem scTake : FnScope ["state", "many", "found", "turn", "cell", "seed", "mixed"] ["state", "many"] (defScope sTake) := ⟨rfl, rfl, rfl, by decide +kernel, rfl, by decide +kernel, by decide +kernel⟩
theorem ok_take {f : Addr} {fd : FuncData} (F : FnP K "_law_take" sTake f fd) (mlen : mg "len" = none) : FnOk P w K mg base CX0 1 f fd ["state", "many"] spTake := by
  refine F.ok scTake (fun vs H Q E h => ?_) (fun cdv A outer s H vs Q E hr h => ?_)
  · obtain ⟨d, m, n, rfl, _⟩ := h
    rfl
  · obtain ⟨d, m, n, rfl, S, hn, hm0, hm1, q⟩ := h
    have hu := hu_of hr
    have hu64 := hr.units
    refine ⟨_, PSs.nox (pss_cut (ps_if (PW.pt (pw_and (pt_cmpR op_eq (pe_dget hu (pv 0) pe_str (fun _ _ => rfl)) pe_int (nomark _)) (pw_and1 (pt_cmpR (op_neD hu64) (pe_dget hu (pv 0) pe_str (fun _ _ => rfl)) (pe_lst pa_nil) (nomark _)))))
        (pss_one (ps_dput hu (pv 0) pe_str (pe_bm PySem.F.plainAttrs_list PySem.F.slot_list_pop PySem.F.type_list_pop mt_popAt (pe_dget hu (pv 0) pe_str (fun _ _ => rfl)) (pa_cons pe_int pa_nil)) rfl)) pss_nil)
      (pss_cons (ps_if (pt_cmpR op_gt (pe_dget hu (pv 0) pe_str (fun _ _ => rfl)) pe_int (nomark _))
        (pss_cons (ps_set (i := 2) scTake.nd rfl (Or.inl rfl) (pe_op op_mod (pe_dget hu (pv 0) pe_str (fun _ _ => rfl)) (pv 1)))
        (pss_cons (ps_dput hu (pv 0) pe_str (pe_op op_fdiv (pe_dget hu (pv 0) pe_str (fun _ _ => rfl)) (pv 1)) rfl)
        (pss_one (ps_ret (pv 2))))) pss_nil)
      (pss_cons (ps_set (i := 3) scTake.nd rfl (Or.inl rfl) (pe_dget hu (pv 0) pe_str (fun _ _ => rfl)))
      (pss_cons (ps_dput hu (pv 0) pe_str (pe_op op_add (pv 3) pe_int) rfl)
      (pss_cons (ps_set (i := 4) scTake.nd rfl (Or.inl rfl) (pe_ix ix_list (pe_dget hu (pv 0) pe_str (fun _ _ => rfl)) (pe_op op_mod (pv 3) (pe_callB call_len_seq (by rfl) mlen PySem.boot_len (pa_cons (pe_dget hu (pv 0) pe_str (fun _ _ => rfl)) pa_nil))) (fun _ _ => rfl)))
      (pss_cons (ps_set (i := 5) scTake.nd rfl (Or.inl rfl) (pe_op op_mod (pe_op op_add (pe_op op_add (pe_op op_mul (pe_dget hu (pv 0) pe_str (fun _ _ => rfl)) pe_int) (pe_op op_mul (pv 4) (pe_op op_add (pe_op op_mul pe_int (pv 3)) pe_int))) (pe_op op_pow (pv 3) pe_int)) pe_int))
      (pss_cons (ps_dput hu (pv 0) pe_str (pv 5) rfl)
      (pss_cons (ps_set (i := 6) scTake.nd rfl (Or.inl rfl) (pe_op op_add (pe_op op_mul (pe_op op_mod (pe_op op_pow (pv 5) pe_int) pe_int) pe_int) (pe_op op_mod (pe_op op_pow (pv 5) pe_int) pe_int)))
      (pss_one (ps_ret (pe_op op_mod (pe_op op_fdiv (pv 6) pe_int) (pv 1))))))))))) ), ?_⟩
    obtain ⟨r, t, sd, gs, cs, R, N⟩ := S
    have e0 := N.s0
    have e1 := N.s1
    -- if state['rest'] == 0 and state['great'] != []: state['rest'] = state['great'].pop(0)
    refine ⟨fun σ' H' => σ' = [some (.ref d.s), some (.int m), none, none, none, none, none] ∧ StAt H' d n ∧ LK.Fr d H H', ?_, ?_⟩
    · refine ⟨_, rfl, _, _, rfl, g_rest R, rfl, _, rfl, ?_⟩
      refine ite2 (fun z => ?_) (fun z => ?_)
      · refine ⟨_, rfl, _, _, rfl, g_great R, by show 0 ≤ sizeLine; exact Nat.zero_le _, fun p hp => ?_⟩
        have R1 := R.new (o := .lst []) hp
        refine ⟨.list (gs.map .int), .list [], .lst (SqL.of R1.hg) (dp_ints gs), .lst (SqL.of upd_same) .nil, shaped_ints gs, by decide, _, rfl, ?_⟩
        cases gs with
        | nil =>
          refine iteF ?_
          exact ⟨rfl, ⟨r, t, sd, [], cs, R1, N⟩, LK.Fr.new hp⟩
        | cons y gs =>
          refine iteT ?_
          refine ⟨_, rfl, _, _, rfl, g_great R1, Or.inl ⟨rfl, _, SqL.of R1.hg⟩, ?_⟩
          refine ⟨d.g, _, 0, 0, .int y, rfl, rfl, R1.hg, by decide, by decide, seq0, rfl, ?_⟩
          have R2 := R1.pop (gs' := gs)
          refine ⟨_, rfl, d.s, _, rfl, p_rest R2, ?_⟩
          refine ⟨rfl, ⟨y, t, sd, gs, cs, R2.put, { N with r0 := N.gs0 y List.mem_cons_self, gs0 := fun z hz => N.gs0 z (List.mem_cons_of_mem _ hz), gsl := by have := N.gsl; rw [List.length_cons] at this; omega }⟩, ?_⟩
          exact ((LK.Fr.new hp).trans LK.Fr.g).trans LK.Fr.s
      · refine iteF ?_
        exact ⟨rfl, ⟨r, t, sd, gs, cs, R, N⟩, LK.Fr.refl H⟩
    clear R N e0 e1 r t sd gs cs
    rintro σ' H1 ⟨rfl, ⟨r, t, sd, gs, cs, R, N⟩, fr⟩
    have e0 := N.s0
    have e1 := N.s1
    -- if state['rest'] > 0
    refine ⟨_, rfl, _, _, rfl, g_rest R, _, _, rfl, rfl, _, rfl, ?_⟩
    refine ite2 (fun z => ?_) (fun z => ?_)
    · refine ⟨_, rfl, _, _, rfl, g_rest R, _, rfl, _, _, rfl, rfl, hm0, ?_⟩
      refine ⟨_, rfl, _, _, rfl, g_rest R, _, rfl, _, _, rfl, rfl, ⟨hm0, hm1⟩, _, rfl, d.s, _, rfl, p_rest R, ?_⟩
      refine ⟨_, rfl, ?_⟩
      refine q _ _ (Int.emod_nonneg _ (by omega)) (Int.emod_lt_of_pos _ hm0) ⟨_, t, sd, gs, cs, R.put, { N with r0 := Int.ediv_nonneg N.r0 (by omega), t1 := by have := N.t1; omega }⟩ (fr.trans LK.Fr.s)
    -- turn = state['turn']; state['turn'] = turn + 1
    refine ⟨_, rfl, _, _, rfl, g_turn R, ?_⟩
    refine ⟨_, rfl, _, _, rfl, rfl, _, rfl, d.s, _, rfl, p_turn R, ?_⟩
    have R2 := R.put (r' := r) (t' := t + 1) (sd' := sd)
    have ht0 := N.t0
    have ht1 := N.t1
    -- cell = state['cells'][turn % len(state['cells'])]
    have cpos : 0 < cs.length := List.length_pos_iff.mpr N.cs0
    have cidx : ((t % (cs.length : Int)).toNat) < cs.length := by
      have a := Int.emod_nonneg t (show (cs.length : Int) ≠ 0 by omega)
      have b := Int.emod_lt_of_pos t (show (0 : Int) < cs.length by omega)
      omega
    have cat : atI (cs.map V.int) (t % (cs.length : Int)) = some (.int (cs[(t % (cs.length : Int)).toNat])) := by
      refine LK.at_of (j := (t % (cs.length : Int)).toNat) ?_ ?_
      · have a := Int.emod_nonneg t (show (cs.length : Int) ≠ 0 by omega)
        omega
      · rw [List.getElem?_map, List.getElem?_eq_getElem cidx]; rfl
    have cb := N.cs1 _ (List.getElem_mem cidx)
    generalize cs[(t % (cs.length : Int)).toNat] = cell at cat cb
    obtain ⟨cb0, cb1⟩ := cb
    refine ⟨_, rfl, _, _, rfl, g_cells R2, _, rfl, _, rfl, _, _, rfl, g_cells R2, d.c, _, rfl, .inl (SqL.of R2.hc), _, _, rfl, rfl, by rw [List.length_map]; omega, d.c, _, _, _, rfl, rfl, SqL.of R2.hc, by rw [List.length_map]; exact cat, ?_⟩
    -- seed = ..
    refine ⟨_, rfl, _, _, rfl, g_seed R2, _, _, rfl, rfl, .inl ⟨by omega, by omega⟩, ?_⟩
    refine ⟨_, rfl, _, rfl, _, _, rfl, rfl, .inl ⟨by omega, by omega⟩, _, _, rfl, rfl, _, _, rfl, rfl, .inl ⟨by omega, by omega⟩, _, _, rfl, rfl, ?_⟩
    refine ⟨_, rfl, _, _, rfl, rfl, ⟨by decide, by decide, by omega⟩, _, _, rfl, rfl, _, _, rfl, rfl, (by show (0 : Int) < 2147483647; decide), ?_⟩
    generalize hX : sd * 48271 + cell * (2 * t + 3) + t ^ (3 : Int).toNat = X
    have x0 := Int.emod_nonneg X (show (2147483647 : Int) ≠ 0 by decide)
    have x1 := Int.emod_lt_of_pos X (show (0 : Int) < 2147483647 by decide)
    refine ⟨_, rfl, _, rfl, d.s, _, rfl, p_seed R2, ?_⟩
    -- mixed = ..
    refine ⟨_, rfl, _, _, rfl, rfl, ⟨by decide, by decide, by omega⟩, _, _, rfl, rfl, (by show (0 : Int) < 2147483629; decide), ?_⟩
    have y0 := Int.emod_nonneg ((X % 2147483647) ^ (2 : Int).toNat) (show (2147483629 : Int) ≠ 0 by decide)
    have y1 := Int.emod_lt_of_pos ((X % 2147483647) ^ (2 : Int).toNat) (show (0 : Int) < 2147483629 by decide)
    refine ⟨_, _, rfl, rfl, .inl ⟨by omega, by omega⟩, ?_⟩
    refine ⟨_, rfl, _, _, rfl, rfl, ⟨by decide, by decide, by omega⟩, _, _, rfl, rfl, (by show (0 : Int) < 2147483579; decide), _, _, rfl, rfl, ?_⟩
    refine ⟨_, rfl, _, _, rfl, rfl, ⟨by decide, by decide⟩, _, rfl, _, _, rfl, rfl, hm0, ?_⟩
    refine q _ _ (Int.emod_nonneg _ (by omega)) (Int.emod_lt_of_pos _ hm0) ⟨_, _, _, gs, cs, R2.put, { N with t0 := by omega, t1 := by omega, s0 := x0, s1 := by omega }⟩ ((fr.trans LK.Fr.s).trans LK.Fr.s)
def spPick (K : PySem.W.Frag) : Sp := fun vs H Q _ => ∃ (d : Dr) (v : V) (xs : List V) (n : Nat), vs = [.ref d.s, v] ∧ StAt H d n ∧ n < 1000000000000000 ∧ Pk K H v xs ∧ v ≠ .ref d.g ∧ xs ≠ [] ∧ xs.length ≤ 1000 ∧
  ∀ (x : V) (H' : Hp), x ∈ xs → StAt H' d (n + 1) → LK.Fr d H H' → Q x H'
theorem scPick : FnScope ["state", "some"] ["state", "some"] (defScope sPick) := ⟨rfl, rfl, rfl, by decide +kernel, rfl, by decide +kernel, by decide +kernel⟩
theorem ok_pick {f fT : Addr} {fd fdT : FuncData} (F : FnP K "_law_pick" sPick f fd) (FT : FnP K "_law_take" sTake fT fdT) (mT : mg "_law_take" = some (.ref fT)) (mlen : mg "len" = none) : FnOk P w K mg base CX0 2 f fd ["state", "some"] (spPick K) := by
  have GT : FnOk P w K mg base CX0 1 fT fdT ["state", "many"] spTake := ok_take FT mlen
  have bT : Binds K fdT ["state", "many"] [] := FT.bindsN fun _ _ _ _ _ _ us hl => match us, hl with | [_, _], _ => rfl
  refine F.ok scPick (fun vs H Q E h => ?_) (fun cdv A outer s H vs Q E hr h => ?_)
  · obtain ⟨d, v, xs, n, rfl, _⟩ := h
    rfl
  · obtain ⟨d, v, xs, n, rfl, S, hn, hp, hg, h0, hl, q⟩ := h
    refine ⟨_, PSs.nox (pss_one (ps_ret (pe_ix ix_seq (pv 1) (pe_call GT hr rfl mT FT.kp bT .nil pass0 (pa_cons (pv 0) (pa_cons (pe_callB call_len (by rfl) mlen PySem.boot_len (pa_cons (pv 1) pa_nil)) pa_nil))) (fun _ _ => rfl)))), ?_⟩
    have hpos : 0 < xs.length := List.length_pos_iff.mpr h0
    refine ⟨_, rfl, _, rfl, _, rfl, _, _, rfl, hp.len hl, ?_⟩
    refine ⟨d, _, n, rfl, S, hn, by omega, by omega, fun r H' r0 r1 S' f => ?_⟩
    exact (hp.fr f S hg).ix hl r0 r1 fun x hx => q x H' hx S' f
def spBegun (K : PySem.W.Frag) : Sp := fun vs H Q _ => ∃ (a : Addr) (ns : List Int), vs = [.ref a] ∧ SqL K H a (ns.map V.int) ∧ ns.length ≤ 63 ∧
  ∀ (d : Dr) (H' : Hp), Same H H' → H d.s = none → H d.g = none → StAt H' d 0 → Q (.ref d.s) H'
theorem scBegun : FnScope ["script", "cell"] ["script"] (defScope sBegun) := ⟨rfl, rfl, rfl, by decide +kernel, rfl, by decide +kernel, by decide +kernel⟩
theorem ok_begun {f : Addr} {fd : FuncData} (F : FnP K "_law_begun" sBegun f fd) : FnOk P w K mg base CX0 1 f fd ["script"] (spBegun K) := by
  refine F.ok scBegun (fun vs H Q E h => ?_) (fun cdv A outer s H vs Q E hr h => ?_)
  · obtain ⟨a, ns, rfl, _⟩ := h
    rfl
  · obtain ⟨a, ns, rfl, hS, hl, q⟩ := h
    have nd := scBegun.nd
    refine ⟨_, PSs.nox (pss_one (ps_ret (pe_disp
      (pps_cons pe_str (pe_lc (own := [("cell", 1)]) (g := gName 1) rfl nd (pi_list (pv 0)) (blkOk_by (N := ["script", "cell"]) (sc := defScope sBegun) (by decide +kernel)) (fun _ _ _ _ _ => pg_name (i := 1) nd rfl (Or.inl rfl))
          (fun _ _ _ _ _ => pts_one (pt_cmpR op_ge (pv 1) (pe_op op_pow pe_int pe_int) (nomark _))) (fun _ _ _ _ _ => pv 1))
      (pps_cons pe_str pe_int (pps_cons pe_str pe_int (pps_cons pe_str pe_int
      (pps_cons pe_str (pe_op op_cat (pe_lc (own := [("cell", 1)]) (g := gName 1) rfl nd (pi_list (pv 0)) (blkOk_by (N := ["script", "cell"]) (sc := defScope sBegun) (by decide +kernel)) (fun _ _ _ _ _ => pg_name (i := 1) nd rfl (Or.inl rfl))
          (fun _ _ _ _ _ => pts_nil) (fun _ _ _ _ _ => pe_op op_mod (pv 1) pe_int)) (pe_lst (pa_cons pe_int pa_nil))) pps_nil)))))
      (by rfl) (by rfl) (fun z => by cases z) (by decide)))), ?_⟩
    have item : ∀ (i : Nat) (x : V), (ns.map V.int)[i]? = some x → x = .int (ns.getD i 0) := by
      intro i x hi
      rw [List.getElem?_map] at hi
      cases e : ns[i]? with
      | none => rw [e] at hi; cases hi
      | some z =>
        rw [e] at hi
        rw [List.getD_eq_getElem?_getD, e]
        exact (Option.some.inj hi).symm
    have hl2 : (ns.map V.int).length ≤ 40000 := by rw [List.length_map]; omega
    intro p hp
    have s1 : Same H (upd H p (.dK [])) := same_new hp
    simp only [tPairs]
    refine t_c ?_
    refine el_lcL (σ := [some (.ref a), none]) (j := 1) (vs := [1]) (fun i => decide ((1000000000000000000 : Int) ≤ ns.getD i 0)) (fun i => .int (ns.getD i 0)) (ev_var (i := 0) rfl) (s1.seq hS) hl2 (fun x => rfl)
      (fun i x H1 e1 hi => ?_) (fun i x H1 e1 hi _ => ?_) _ (Ex.refl _) _ (fun g H2 hg e2 hgl => ?_)
    · obtain rfl := item i x hi
      exact et_test (ev_op (ev_var rfl) (ev_op ev_c ev_c (rv_I ⟨by decide, by decide, by decide⟩)) rv_I0)
    · obtain rfl := item i x hi
      exact ev_var rfl
    have hg0 : H g = none := s1.free hg
    have gp : g ≠ p := fun z => by rw [z, upd_same] at hg; cases hg
    have s2 : Same H H2 := fun b o z => e2 _ _ (s1 _ _ z)
    have hp2 : H2 p = some (.dK []) := e2 _ _ upd_same
    refine t_c (t_c (t_c (t_c (t_c (t_c (t_c ?_))))))
    refine el_lcL (σ := [some (.ref a), none]) (j := 1) (vs := [1]) (fun _ => true) (fun i => .int (ns.getD i 0 % 2147483629)) (ev_var (i := 0) rfl) (s2.seq hS) hl2 (fun x => rfl)
      (fun i x H1 e1 hi => et_yes) (fun i x H1 e1 hi _ => ?_) _ (Ex.refl _) _ (fun c H3 hc e3 hcl => ?_)
    · obtain rfl := item i x hi
      exact ev_op (ev_var rfl) ev_c (rv_I (by show (0 : Int) < 2147483629; decide))
    refine ⟨by show 1 ≤ sizeLine; decide, fun d hd => ?_⟩
    have hgl2 : (upd H3 d (.lst [.int 77])) c = some (.lst (given (ns.map V.int).length (fun _ => true) fun i => .int (ns.getD i 0 % 2147483629))) := by
      rw [upd_ne (ne_of_none hcl hd)]; exact hcl
    have glen := given_len (ns.map V.int).length (fun _ => true) fun i => V.int (ns.getD i 0 % 2147483629)
    refine ⟨c, d, _, _, rfl, rfl, hgl2, upd_same, Nat.le_trans (Nat.add_le_add glen (Nat.le_refl 1)) (by rw [List.length_map]; exact Nat.le_trans (by omega) (by decide : 64 ≤ sizeLine)), fun e he => ?_⟩
    have s3 : Same H2 (upd (upd H3 d (.lst [.int 77])) e (.lst (given (ns.map V.int).length (fun _ => true) (fun i => .int (ns.getD i 0 % 2147483629)) ++ [.int 77]))) := fun b o z =>
      same_new he _ _ (same_new hd _ _ (e3 _ _ z))
    have ep : e ≠ p := fun z => by
      have := same_new (o := .lst [.int 77]) hd _ _ (e3 _ _ hp2)
      rw [← z, he] at this; cases this
    refine ⟨s3 _ _ hp2, [((.inr "great" : Key), .ref g), (.inr "rest", .int 0), (.inr "turn", .int 0), (.inr "seed", .int 7), (.inr "cells", .ref e)], rfl, by show 5 ≤ 15; decide, ?_⟩
    rw [merge_st]
    rw [given_ints] at hgl
    rw [given_ints] at s3 ⊢
    refine q ⟨p, g, e⟩ _ (fun b o z => ?_) hp hg0 ⟨0, 0, 7, ((List.range (ns.map V.int).length).filter (fun i => decide ((1000000000000000000 : Int) ≤ ns.getD i 0))).map (fun i => ns.getD i 0), ((List.range (ns.map V.int).length).filter (fun _ => true)).map (fun i => ns.getD i 0 % 2147483629) ++ [77], ⟨upd_same, ?_, ?_, ?_⟩, ?_⟩
    · rw [upd_ne (ne_of_none z hp)]
      exact s3 _ _ (s2 _ _ z)
    · rw [upd_ne gp]
      exact s3 _ _ hgl
    · rw [upd_ne ep, upd_same, List.map_append]
      rfl
    · intro z
      have z' : e = g := z
      have h := same_new (o := .lst [.int 77]) hd _ _ (e3 _ _ hgl)
      rw [← z', he] at h
      cases h
    · have lens : ∀ (f : Nat → Bool), ((List.range (ns.map V.int).length).filter f).length ≤ 63 := by
        intro f
        have h := List.length_filter_le f (List.range (ns.map V.int).length)
        rw [List.length_range] at h
        have h2 : (ns.map V.int).length = ns.length := List.length_map _
        omega
      refine ⟨by decide, by decide, by decide, by decide, by decide, ?_, ?_, ?_, ?_, ?_⟩
      · intro z hz
        obtain ⟨i, hi, rfl⟩ := List.mem_map.mp hz
        have h := of_decide_eq_true (List.mem_filter.mp hi).2
        omega
      · intro z
        have h := congrArg List.length z
        rw [List.length_append] at h
        exact absurd h (by show ¬ _ + 1 = 0; omega)
      · intro z hz
        rcases List.mem_append.mp hz with h | h
        · obtain ⟨i, hi, rfl⟩ := List.mem_map.mp h
          have h0 := Int.emod_nonneg (ns.getD i 0) (show (2147483629 : Int) ≠ 0 by decide)
          have h1 := Int.emod_lt_of_pos (ns.getD i 0) (show (0 : Int) < 2147483629 by decide)
          omega
        · obtain rfl := List.mem_singleton.mp h
          decide
      · rw [List.length_append, List.length_map]
        have h := lens fun _ => true
        show _ + 1 ≤ 100
        omega
      · rw [List.length_map]
        have h := lens fun i => decide ((1000000000000000000 : Int) ≤ ns.getD i 0)
        omega
/-! ### the words of texts, names -/
def ownW : List Str := ["maker", "set", "say", "give", "if", "else", "while", "break", "again", "return", "throw", "try", "catch", "finally", "make", "ask", "toss", "close", "all", "end", "none"]
def ownA : Str := "maker set say give if else while break again return throw try catch finally"
def ownB : Str := " make ask toss close all end none"
theorem own_split : Txt.split (ownA ++ ownB) " " = ownW := by decide +kernel
def spOwn : Sp := fun vs H Q _ => vs = [] ∧ ∀ p, H p = none → Q (.ref p) (upd H p (.lst (ownW.map V.str)))
abbrev sOwn : Stmt := top 8
theorem scOwn : FnScope ["own"] [] (defScope sOwn) := ⟨rfl, rfl, rfl, by decide +kernel, rfl, by decide +kernel, by decide +kernel⟩
theorem ok_own {f : Addr} {fd : FuncData} (F : FnP K "_law_own" sOwn f fd) : FnOk P w K mg base CX0 1 f fd [] spOwn := by
  refine F.ok scOwn (fun vs H Q E h => ?_) (fun cdv A outer s H vs Q E hr h => ?_)
  · rw [h.1]; rfl
  · obtain ⟨rfl, q⟩ := h
    refine ⟨_, PSs.nox (pss_cons (ps_set (i := 0) scOwn.nd rfl (Or.inl rfl) pe_str) (pss_one (ps_ret (pe_split (pe_op op_add_str (pv 0) pe_str) pe_str)))), ?_⟩
    refine ⟨_, rfl, _, _, rfl, rfl, by decide +kernel, ⟨_, rfl⟩, _, _, rfl, rfl, by decide +kernel, by decide +kernel, fun p hp => ?_⟩
    have e : Txt.split ((Str.ofString "maker set say give if else while break again return throw try catch finally") ++ (Str.ofString " make ask toss close all end none")) (Str.ofString " ") = ownW := own_split
    rw [e]
    exact q p hp
def nameOk (z : Str) : Bool := (decide (1 ≤ (z.length : Int)) && decide ((z.length : Int) ≤ 8)) && (Txt.isascii z && (Txt.isalpha z && (Txt.islower z && !inV (.str z) (ownW.map V.str))))
def spName (K : PySem.W.Frag) : Sp := fun vs H Q _ => ∃ x T, vs = [x] ∧ Ty6 K H x T ∧ ((T ≠ "str" ∧ Q (.bl false) H) ∨ ∃ z, x = .str z ∧ z.length ≤ sizeLine ∧ Q (.bl (nameOk z)) H)
structure TName (K : PySem.W.Frag) (mg : Str → Option Value) : Prop where
  type : mg "type" = none
  str : mg "str" = none
  len : mg "len" = none
  most : ∃ t, mg "MOST_LETTERS" = some (.int 8 t)
  own : ∃ a, mg "OWN" = some (.ref a) ∧ ∀ H, SqT K H a (ownW.map V.str)
abbrev sName : Stmt := top 3
theorem scName : FnScope ["text"] ["text"] (defScope sName) := ⟨rfl, rfl, rfl, by decide +kernel, rfl, by decide +kernel, by decide +kernel⟩
theorem flat_strs : ∀ l : List Str, (l.map V.str).all flatV = true
  | [] => rfl
  | a :: l => by show (true && (l.map V.str).all flatV) = true; rw [flat_strs l]; rfl
theorem ok_name {f : Addr} {fd : FuncData} (F : FnP K "is_name" sName f fd) (T : TName K mg) : FnOk P w K mg base CX0 1 f fd ["text"] (spName K) := by
  obtain ⟨tm, hmost⟩ := T.most
  obtain ⟨ao, hown, hsq⟩ := T.own
  refine F.ok scName (fun vs H Q E h => ?_) (fun cdv A outer s H vs Q E hr h => ?_)
  · obtain ⟨x, t, rfl, _⟩ := h; rfl
  · obtain ⟨x, t, rfl, ty, h⟩ := h
    refine ⟨_, PSs.nox (pss_cons (ps_if (PW.pt (pw_or (pt_cmpR op_isNotTy (pe_callTy call_ty6 (by rfl) T.type (by decide +kernel) (pa_cons (pv 0) pa_nil)) (pe_bltn (v := .ty "str") (by rfl) T.str (by decide +kernel) rfl) (nomark _))
        (pw_or1 (pt_not (pt_chain op_le op_le pe_int (pe_callB call_len (by rfl) T.len PySem.boot_len (pa_cons (pv 0) pa_nil)) (pe_glob (v := .int 8) rfl hmost ⟨_, rfl⟩)))))) (pss_one (ps_ret pe_bl)) pss_nil)
      (pss_one (ps_ret (pe_and (pe_bm0 PySem.F.plainAttrs_str PySem.F.slot_str_isascii PySem.F.type_str_isascii mt_isascii (pv 0))
        (pe_and (pe_bm0 PySem.F.plainAttrs_str PySem.F.slot_str_isalpha PySem.F.type_str_isalpha mt_isalpha (pv 0))
        (pe_and (pe_bm0 PySem.F.plainAttrs_str PySem.F.slot_str_islower PySem.F.type_str_islower mt_islower (pv 0))
        (pe_one (pe_cmpR op_notIn_seq (pv 0) (pe_glob (v := .ref ao) rfl hown rfl) (by rfl))))))))), ?_⟩
    rcases h with ⟨ht, q⟩ | ⟨z, rfl, hz, q⟩
    · refine ⟨_, rfl, _, _, rfl, ty, _, _, rfl, rfl, _, rfl, ?_⟩
      rw [show (!decide (t = "str")) = true by rw [decide_eq_false ht]; rfl]
      refine iteT ?_
      exact q
    · have et : t = "str" := by cases ty; rfl
      subst et
      refine ⟨_, rfl, _, _, rfl, ty, _, _, rfl, rfl, _, rfl, ?_⟩
      refine iteNS rfl ?_
      refine ⟨_, rfl, _, _, rfl, ⟨hz, rfl⟩, _, _, rfl, rfl, _, rfl, ?_⟩
      unfold nameOk at q
      cases e1 : decide (1 ≤ (z.length : Int)) with
      | false =>
        rw [e1] at q
        refine iteF ?_
        exact ⟨_, rfl, iteT q⟩
      | true =>
        rw [e1] at q
        refine iteT ?_
        refine ⟨_, _, rfl, rfl, _, rfl, ?_⟩
        cases e2 : decide ((z.length : Int) ≤ 8) with
        | false =>
          rw [e2] at q
          exact iteT q
        | true =>
          rw [e2] at q
          refine iteF ?_
          refine ⟨_, rfl, rfl, _, rfl, rfl, trivial, _, rfl, ?_⟩
          cases e3 : Txt.isascii z with
          | false => rw [e3] at q; exact iteF q
          | true =>
            rw [e3] at q
            refine iteT ?_
            refine ⟨_, rfl, rfl, _, rfl, rfl, trivial, _, rfl, ?_⟩
            cases e4 : Txt.isalpha z with
            | false => rw [e4] at q; exact iteF q
            | true =>
              rw [e4] at q
              refine iteT ?_
              refine ⟨_, rfl, rfl, _, rfl, rfl, trivial, _, rfl, ?_⟩
              cases e5 : Txt.islower z with
              | false => rw [e5] at q; exact iteF q
              | true =>
                rw [e5] at q
                refine iteT ?_
                exact ⟨_, rfl, ao, _, rfl, .inr (hsq H), rfl, flat_strs ownW, q⟩
end
end K02
set_option Elab.async false
set_option linter.all false
set_option maxRecDepth 100000
set_option maxHeartbeats 4000000
namespace K02
open PySem PySem.Spec PyProof.Rows L2 Evl LK
section
variable {P : Program} {w : World} {K : PySem.W.Frag} {mg : Str → Option Value} {base : Heap}
/-! ### the thing that is drawn -/
abbrev sThing : Stmt := top 9
inductive Thing (H : Hp) : V → Prop
  | str (z : Str) (h : Tx z) : Thing H (.str z)
  | non : Thing H .non
  | five : Thing H (.int 5)
  | zero : Thing H (.int 0)
  | tru : Thing H (.bl true)
  | tup1 {p : Addr} {z : Str} (h : Tx z) (e : H p = some (.tup [.str z])) : Thing H (.ref p)
  | tup2 {p : Addr} {y z : Str} (hy : Tx y) (h : Tx z) (e : H p = some (.tup [.str y, .str z])) : Thing H (.ref p)
  | lst {p : Addr} {z : Str} (h : Tx z) (e : H p = some (.lst [.str z])) : Thing H (.ref p)
  | dic {p : Addr} {z : Str} (h : Tx z) (e : H p = some (.dK [((.inr z : Key), .str z)])) : Thing H (.ref p)
def spThing (K : PySem.W.Frag) : Sp := fun vs H Q _ => ∃ (d : Dr) (n : Nat), vs = [.ref d.s] ∧ StAt H d n ∧ n < 1000000 ∧ ∀ (x : V) (H' : Hp), Thing H' x → StAt H' d (n + 40) → LK.Fr d H H' → Q x H'
theorem scThing : FnScope ["state", "own", "word", "size", "some", "sort", "at", "sign", "bent", "k"] ["state"] (defScope sThing) := ⟨rfl, rfl, rfl, by decide +kernel, rfl, by decide +kernel, by decide +kernel⟩
theorem own_tx : ∀ z ∈ ownW, z.length ≤ 7 ∧ ∀ c ∈ z.cps.toList, c < 128 := by decide +kernel
structure TThing (mg : Str → Option Value) (fO fP fT : Addr) : Prop where
  own : mg "_law_own" = some (.ref fO)
  pick : mg "_law_pick" = some (.ref fP)
  take : mg "_law_take" = some (.ref fT)
  len : mg "len" = none
  range : mg "range" = none
theorem ok_thing {f fO fP fT : Addr} {fd fdO fdP fdT : FuncData} (F : FnP K "_law_thing" sThing f fd) (FO : FnP K "_law_own" sOwn fO fdO) (FP : FnP K "_law_pick" sPick fP fdP) (FT : FnP K "_law_take" sTake fT fdT) (T : TThing mg fO fP fT) :
    FnOk P w K mg base CX0 3 f fd ["state"] (spThing K) := by
  have GO : FnOk P w K mg base CX0 1 fO fdO [] spOwn := ok_own FO
  have GT : FnOk P w K mg base CX0 1 fT fdT ["state", "many"] spTake := ok_take FT T.len
  have GP : FnOk P w K mg base CX0 2 fP fdP ["state", "some"] (spPick K) := ok_pick FP FT T.take T.len
  have bO : Binds K fdO [] [] := FO.bindsN fun _ _ _ _ _ _ us hl => match us, hl with | [], _ => rfl
  have bT : Binds K fdT ["state", "many"] [] := FT.bindsN fun _ _ _ _ _ _ us hl => match us, hl with | [_, _], _ => rfl
  have bP : Binds K fdP ["state", "some"] [] := FP.bindsN fun _ _ _ _ _ _ us hl => match us, hl with | [_, _], _ => rfl
  have nd := scThing.nd
  refine F.ok scThing (fun vs H Q E h => ?_) (fun cdv A outer s H vs Q E hr h => ?_)
  · obtain ⟨d, n, rfl, _⟩ := h; rfl
  · obtain ⟨d, n, rfl, S, hn, q⟩ := h
    have hr1 : Room 1 _ := hr.mono (by decide)
    refine ⟨_, PSs.nox (pss_cons (ps_set (i := 1) nd rfl (Or.inl rfl) (pe_call0 GO hr1 rfl T.own FO.kp bO .nil pass0))
      (pss_cut (ps_par (i := 2) (j := 3) (by rfl) nd rfl rfl (by decide) rfl rfl (pa_cons (pe_call GP hr rfl T.pick FP.kp bP .nil pass0 (pa_cons (pv 0) (pa_cons (pv 1) pa_nil))) (pa_cons (pe_ix ix_list (pe_lst (pa_cons pe_int (pa_cons pe_int (pa_cons pe_int (pa_cons (pe_call GT hr1 rfl T.take FT.kp bT .nil pass0 (pa_cons (pv 0) (pa_cons pe_int pa_nil))) (pa_cons pe_int pa_nil)))))) (pe_call GT hr1 rfl T.take FT.kp bT .nil pass0 (pa_cons (pv 0) (pa_cons pe_int pa_nil))) (fun _ _ => rfl)) pa_nil)) (by rfl))
      (pss_cut (ps_set (i := 4) nd rfl (Or.inl rfl) (pe_join pe_str (pe_lc (own := [("k", 9)]) (g := gName 9) (by rfl) nd (pi_range1 (by rfl) T.range (pa_cons (pv 3) pa_nil)) (blkOk_by (N := ["state", "own", "word", "size", "some", "sort", "at", "sign", "bent", "k"]) (sc := defScope sThing) (by decide +kernel)) (fun _ _ _ _ _ => (pg_name (i := 9) nd rfl (Or.inl rfl))) (fun _ _ _ _ _ => pts_nil) (fun _ _ _ _ _ => (pe_call GP hr rfl T.pick FP.kp bP .nil pass0 (pa_cons (pv 0) (pa_cons pe_str pa_nil)))))))
      (pss_cons (ps_set (i := 5) nd rfl (Or.inl rfl) (pe_call GT hr1 rfl T.take FT.kp bT .nil pass0 (pa_cons (pv 0) (pa_cons pe_int pa_nil))))
      (pss_cons (ps_if (pt_cmpR op_lt (pv 5) pe_int (nomark _)) (pss_one (ps_ret (pv 4))) pss_nil)
      (pss_cons (ps_if (pt_cmpR op_lt (pv 5) pe_int (nomark _)) (pss_one (ps_ret (pe_call GP hr rfl T.pick FP.kp bP .nil pass0 (pa_cons (pv 0) (pa_cons (pe_lst (pa_cons (pv 2) (pa_cons (pe_op op_add_str (pv 2) pe_str) (pa_cons (pe_slice sl_str (pv 2) po_none (po_some (pe_un un_neg pe_int))) (pa_cons (pe_op op_add_str (pv 2) pe_str) (pa_cons (pe_upper (pv 2)) (pa_cons (pe_slice sl_str (pv 2) (po_some pe_int) po_none) (pa_cons pe_str pa_nil)))))))) pa_nil))))) pss_nil)
      (pss_cons (ps_par (i := 6) (j := 7) (by rfl) nd rfl rfl (by decide) rfl rfl (pa_cons (pe_call GT hr1 rfl T.take FT.kp bT .nil pass0 (pa_cons (pv 0) (pa_cons (pe_op op_add (pe_callB call_len_str (by rfl) T.len PySem.boot_len (pa_cons (pv 4) pa_nil)) pe_int) pa_nil))) (pa_cons (pe_call GP hr rfl T.pick FP.kp bP .nil pass0 (pa_cons (pv 0) (pa_cons pe_str pa_nil))) pa_nil)) (by rfl))
      (pss_cons (ps_set (i := 8) nd rfl (Or.inl rfl) (pe_op op_add_str (pe_op op_add_str (pe_slice sl_str (pv 4) po_none (po_some (pv 6))) (pv 7)) (pe_slice sl_str (pv 4) (po_some (pe_op op_add (pv 6) (pe_call GT hr1 rfl T.take FT.kp bT .nil pass0 (pa_cons (pv 0) (pa_cons pe_int pa_nil))))) po_none)))
      (pss_one (ps_ret (pe_call GP hr rfl T.pick FP.kp bP .nil pass0 (pa_cons (pv 0) (pa_cons (pe_lst (pa_cons (pv 8) (pa_cons (pv 8) (pa_cons (pv 8) (pa_cons pe_non (pa_cons pe_int (pa_cons pe_bl (pa_cons (pe_tup (pa_cons (pv 2) pa_nil)) (pa_cons (pe_lst (pa_cons (pv 4) pa_nil)) (pa_cons (pe_disp (pps_cons (pv 4) (pv 4) pps_nil) (by rfl) (by rfl) (fun z => by cases z) (by decide)) (pa_cons pe_str (pa_cons pe_int (pa_cons (pe_tup (pa_cons pe_str (pa_cons pe_str pa_nil))) pa_nil))))))))))))) pa_nil))))))))))))), ?_⟩
    -- own = _law_own()
    refine ⟨rfl, fun p hp => ?_⟩
    have S1 := S.new (o := .lst (ownW.map V.str)) hp
    have f1 : LK.Fr d H (upd H p (.lst (ownW.map V.str))) := LK.Fr.new hp
    -- word, size = ..
    refine ⟨fun σ' H' => ∃ (v : Option V) (word : Str) (size : Int), σ' = [some (.ref d.s), v, some (.str word), some (.int size), none, none, none, none, none, none] ∧ word ∈ ownW ∧ 0 ≤ size ∧ size ≤ 10 ∧ StAt H' d (n + 3) ∧ LK.Fr d H H', ?_, ?_⟩
    · refine ⟨_, rfl, _, rfl, d, .ref p, ownW.map V.str, n, rfl, S1, by omega, .inl ⟨p, rfl, .inl (SqL.of upd_same)⟩, fun z => S.ng hp (V.ref.inj z), by decide, by decide, fun x H2 hx S2 f2 => ?_⟩
      obtain ⟨word, hword, rfl⟩ := List.mem_map.mp hx
      refine ⟨_, rfl, d, 11, n + 1, rfl, S2, by omega, by decide, by decide, fun r H3 r0 r1 S3 f3 => ?_⟩
      refine ⟨by show 5 ≤ sizeLine; decide, fun l hl => ?_⟩
      refine ⟨_, rfl, d, 5, n + 2, rfl, S3.new hl, by omega, by decide, by decide, fun i H4 i0 i1 S4 f4 => ?_⟩
      obtain ⟨v, hv, mv⟩ := at_some (xs := [.int 1, .int 8, .int 9, .int r, .int 3]) i0 i1
      refine ⟨l, _, i, v, rfl, rfl, SqL.of (f4.stay S3 hl), hv, ?_⟩
      obtain ⟨size, rfl, z0, z1⟩ : ∃ size : Int, v = .int size ∧ 0 ≤ size ∧ size ≤ 10 := by
        simp only [List.mem_cons, List.not_mem_nil, or_false] at mv
        rcases mv with rfl | rfl | rfl | rfl | rfl
        · exact ⟨1, rfl, by decide, by decide⟩
        · exact ⟨8, rfl, by decide, by decide⟩
        · exact ⟨9, rfl, by decide, by decide⟩
        · exact ⟨r, rfl, r0, by omega⟩
        · exact ⟨3, rfl, by decide, by decide⟩
      exact ⟨_, _, rfl, _, word, size, rfl, hword, z0, z1, S4, ((f1.trans f2).trans f3).trans ((LK.Fr.new hl).trans f4)⟩
    rintro σ' H2 ⟨v1, word, size, rfl, hword, z0, z1, S2, f2⟩
    clear S1 f1
    -- some = ''.join(..)
    refine ⟨fun σ' H' => ∃ (v9 : Option V) (some' : Str), σ' = [some (.ref d.s), v1, some (.str word), some (.int size), some (.str some'), none, none, none, none, v9] ∧ some'.length ≤ 10 ∧ (∀ c ∈ some'.cps.toList, c < 128) ∧ StAt H' d (n + 13) ∧ LK.Fr d H H', ?_, ?_⟩
    · refine ⟨⟨_, rfl⟩, ?_⟩
      refine ⟨_, rfl, size, rfl, by omega, by omega, fun D hD => ?_⟩
      have S2' := S2.new (o := .lst []) hD
      refine lc_range (lo := 0) (n := size.toNat) (fun i H' => ∃ zs : List Str, H' D = some (.lst (zs.map V.str)) ∧ zs.length = i ∧ (∀ z ∈ zs, ∃ c ∈ ("abcdefghijklmnopqrstuvwxyz" : Str).cps.toList, z = ⟨#[c]⟩) ∧ StAt H' d (n + 3 + i) ∧ LK.Fr d H2 H') ⟨[], upd_same, rfl, fun z hz => (nomatch hz), S2', LK.Fr.new hD⟩ ?_ ?_
      · rintro i H3 hi ⟨zs, hzs, hlen, hal, S3, f3⟩
        refine ⟨rfl, ?_⟩
        refine ⟨_, rfl, d, .str "abcdefghijklmnopqrstuvwxyz", _, n + 3 + i, rfl, S3, by omega, .inr ⟨_, rfl, rfl⟩, (fun z => nomatch z), by decide, by decide, fun x H4 hx S4 f4 => ?_⟩
        obtain ⟨c, hc, rfl⟩ := List.mem_map.mp hx
        have hD4 := f4 D _ hzs (S2.ns hD) (S2.ng hD)
        refine ⟨_, hD4, by rw [List.length_map]; exact small1000 (by omega), zs ++ [⟨#[c]⟩], ?_, by rw [List.length_append, hlen]; rfl, ?_, ?_, ?_⟩
        · rw [upd_same, List.map_append]; rfl
        · intro z hz
          rcases List.mem_append.mp hz with h | h
          · exact hal z h
          · exact ⟨c, hc, List.mem_singleton.mp h⟩
        · exact (S4.mono (by omega)).upd (S2.ns hD) (S2.ng hD) (S2.nc hD)
        · intro b o e hb1 hb2
          rw [upd_ne (ne_of_none e hD)]
          exact f4 b o (f3 b o e hb1 hb2) hb1 hb2
      · rintro H3 ⟨zs, hzs, hlen, hal, S3, f3⟩
        obtain ⟨j1, j2⟩ := join_ones hal
        have ones : ∀ z ∈ zs, z.length = 1 := by
          intro z hz
          obtain ⟨c, _, rfl⟩ := hal z hz
          rfl
        refine ⟨"", D, zs, rfl, rfl, .inl (SqL.of hzs), ?_, _, _, rfl, by omega, fun c hc => ?_, S3.mono (by omega), f2.trans f3⟩
        · rw [sum_ones zs ones]
          show zs.length + zs.length * 0 ≤ 16777216
          omega
        · have h : ∀ c ∈ ("abcdefghijklmnopqrstuvwxyz" : Str).cps.toList, c < 128 := by decide +kernel
          exact h c (j2 c hc)
    clear S2 f2
    rintro σ' H2 ⟨v9, some', rfl, hsl, hsc, S2, f2⟩
    obtain ⟨wl, wc⟩ := own_tx word hword
    -- sort
    refine ⟨_, rfl, d, 6, n + 13, rfl, S2, by omega, by decide, by decide, fun sort H3 _ _ S3 f3 => ?_⟩
    refine ⟨_, rfl, _, _, rfl, rfl, _, rfl, ?_⟩
    refine ite2 (fun _ => ?_) (fun _ => ?_)
    · exact ⟨_, rfl, q _ _ (.str some' ⟨by show some'.length ≤ 40; omega, hsc⟩) (S3.mono (by omega)) (f2.trans f3)⟩
    refine ⟨_, rfl, _, _, rfl, rfl, _, rfl, ?_⟩
    refine ite2 (fun _ => ?_) (fun _ => ?_)
    · refine ⟨_, rfl, _, rfl, _, rfl, _, _, rfl, rfl, ?_, ?_⟩
      · exact Nat.le_trans (Nat.add_le_add wl (Nat.le_refl _)) (by decide)
      refine ⟨_, rfl, _, rfl, _, rfl, word, rfl, Nat.le_trans wl (by decide : 7 ≤ sizeLine), ?_⟩
      refine ⟨_, rfl, _, _, rfl, rfl, Nat.le_trans (Nat.add_le_add wl (Nat.le_refl _)) (by decide), ?_⟩
      refine ⟨_, rfl, ⟨_, rfl⟩, _, rfl, rfl, Nat.le_trans wl (by decide), ?_⟩
      refine ⟨_, rfl, _, rfl, word, rfl, Nat.le_trans wl (by decide), ?_⟩
      refine ⟨by show 7 ≤ sizeLine; decide, fun l hl => ?_⟩
      refine ⟨d, .ref l, _, n + 14, rfl, S3.new hl, by omega, .inl ⟨l, rfl, .inl (SqL.of upd_same)⟩, fun z => S3.ng hl (V.ref.inj z), by simp, by simp, fun x H4 hx S4 f4 => ?_⟩
      refine q x H4 ?_ (S4.mono (by omega)) ((f2.trans f3).trans ((LK.Fr.new hl).trans f4))
      simp only [List.mem_cons, List.not_mem_nil, or_false] at hx
      have short : ∀ z : Str, z.length ≤ 7 → (∀ c ∈ z.cps.toList, c < 128) → Tx z := fun z h1 h2 => ⟨by show z.length ≤ 40; omega, h2⟩
      rcases hx with rfl | rfl | rfl | rfl | rfl | rfl | rfl
      · exact .str _ (short _ wl wc)
      · exact .str _ (tx_app wc (by decide +kernel) (Nat.le_trans (Nat.add_le_add wl (Nat.le_refl _)) (by decide)))
      · exact .str _ (short _ (Nat.le_trans (cut_len _ _ _) wl) fun c hc => wc c (cut_mem hc))
      · exact .str _ (tx_app wc (by decide +kernel) (Nat.le_trans (Nat.add_le_add wl (Nat.le_refl _)) (by decide)))
      · have hu : ∀ z ∈ ownW, Tx (Txt.upper z) := by
          have h0 : ∀ z ∈ ownW, (Txt.upper z).cps.toList.length ≤ 40 ∧ ∀ c ∈ (Txt.upper z).cps.toList, c < 128 := by decide +kernel
          exact h0
        exact .str _ (hu word hword)
      · exact .str _ (short _ (Nat.le_trans (cut_len _ _ _) wl) fun c hc => wc c (cut_mem hc))
      · exact .str _ ⟨by decide +kernel, by decide +kernel⟩
    -- at, sign
    refine ⟨_, rfl, _, rfl, some', rfl, Nat.le_trans hsl (by decide), _, _, rfl, rfl, ?_⟩
    refine ⟨d, _, n + 14, rfl, S3, by omega, by omega, by omega, fun a H4 a0 a1 S4 f4 => ?_⟩
    refine ⟨_, rfl, d, .str "AZ09_ -.~a\n", _, n + 15, rfl, S4, by omega, .inr ⟨_, rfl, rfl⟩, (fun z => nomatch z), by decide +kernel, by decide +kernel, fun x H5 hx S5 f5 => ?_⟩
    obtain ⟨c, hc, rfl⟩ := List.mem_map.mp hx
    have hc128 : c < 128 := by
      have h : ∀ c ∈ ("AZ09_ -.~a\n" : Str).cps.toList, c < 128 := by decide +kernel
      exact h c hc
    refine ⟨_, _, rfl, ?_⟩
    -- bent
    refine ⟨_, rfl, _, rfl, a, rfl, some', rfl, Nat.le_trans hsl (by decide), ?_⟩
    have l1 := cut_len some' none (some a)
    refine ⟨_, rfl, _, _, rfl, rfl, ?_, ?_⟩
    · exact Nat.le_trans (Nat.add_le_add (Nat.le_trans l1 hsl) (Nat.le_refl 1)) (by decide)
    refine ⟨_, rfl, _, rfl, _, rfl, d, 2, n + 16, rfl, S5, by omega, by decide, by decide, fun b H6 b0 b1 S6 f6 => ?_⟩
    refine ⟨_, _, rfl, rfl, _, rfl, some', rfl, Nat.le_trans hsl (by decide), ?_⟩
    have l2 := cut_len some' (some (a + b)) none
    have l3 : ((cutS some' none (some a)) ++ (⟨#[c]⟩ : Str)).length ≤ 11 := by
      rw [app_len]
      exact Nat.add_le_add (Nat.le_trans l1 hsl) (Nat.le_refl 1)
    refine ⟨_, _, rfl, rfl, ?_, ?_⟩
    · exact Nat.le_trans (Nat.add_le_add l3 (Nat.le_trans l2 hsl)) (by decide)
    have hb : Tx (((cutS some' none (some a)) ++ (⟨#[c]⟩ : Str)) ++ cutS some' (some (a + b)) none) := by
      refine tx_app (fun d hd => ?_) (fun d hd => hsc d (cut_mem hd)) (Nat.le_trans (Nat.add_le_add l3 (Nat.le_trans l2 hsl)) (by decide))
      rcases app_mem hd with h | h
      · exact hsc d (cut_mem h)
      · have : d = c := by simpa using h
        rw [this]; exact hc128
    generalize ((cutS some' none (some a)) ++ (⟨#[c]⟩ : Str)) ++ cutS some' (some (a + b)) none = bent at hb
    -- return one of
    refine ⟨_, rfl, _, rfl, _, rfl, _, rfl, ?_⟩
    refine ⟨_, rfl, by show 1 ≤ sizeLine; decide, fun p1 hp1 => ?_⟩
    have S7 := S6.new (o := .tup [.str word]) hp1
    refine ⟨_, rfl, by show 1 ≤ sizeLine; decide, fun p2 hp2 => ?_⟩
    have S8 := S7.new (o := .lst [.str some']) hp2
    intro p3 hp3
    have S9 := S8.new (o := .dK []) hp3
    refine ⟨_, rfl, _, rfl, ?_⟩
    refine ⟨upd_same, [((.inr some' : Key), .str some')], rfl, by show 1 ≤ 15; decide, ?_⟩
    have em : mergeK [] [((.inr some' : Key), V.str some')] = [((.inr some' : Key), V.str some')] := rfl
    rw [em, upd_upd]
    have S10 := S8.new (o := .dK [((.inr some' : Key), .str some')]) hp3
    refine ⟨by show 2 ≤ sizeLine; decide, fun p4 hp4 => ?_⟩
    have S11 := S10.new (o := .tup [.str "box", .str "a"]) hp4
    refine ⟨by show 12 ≤ sizeLine; decide, fun p5 hp5 => ?_⟩
    refine ⟨d, .ref p5, _, n + 17, rfl, S11.new hp5, by omega, .inl ⟨p5, rfl, .inl (SqL.of upd_same)⟩, fun z => S11.ng hp5 (V.ref.inj z), by simp, by simp, fun x H7 hx S12 f12 => ?_⟩
    have m4 := same_new (o := .lst [.str bent, .str bent, .str bent, .non, .int 5, .bl true, .ref p1, .ref p2, .ref p3, .str "", .int 0, .ref p4]) hp5
    have m3 := (same_new (o := .tup [.str "box", .str "a"]) hp4).trans m4
    have m2 := (same_new (o := .dK [((.inr some' : Key), .str some')]) hp3).trans m3
    have m1 := (same_new (o := .lst [.str some']) hp2).trans m2
    have m0 := (same_new (o := .tup [.str word]) hp1).trans m1
    have k1 := f12 p1 _ (m1 p1 _ upd_same) (S6.ns hp1) (S6.ng hp1)
    have k2 := f12 p2 _ (m2 p2 _ upd_same) (S7.ns hp2) (S7.ng hp2)
    have k3 := f12 p3 _ (m3 p3 _ upd_same) (S8.ns hp3) (S8.ng hp3)
    have k4 := f12 p4 _ (m4 p4 _ upd_same) (S10.ns hp4) (S10.ng hp4)
    have short : ∀ z : Str, z.length ≤ 10 → (∀ c ∈ z.cps.toList, c < 128) → Tx z := fun z h1 h2 => ⟨by show z.length ≤ 40; omega, h2⟩
    refine q x H7 ?_ (S12.mono (by omega)) ((((((f2.trans f3).trans f4).trans f5).trans f6).trans (LK.Fr.same m0)).trans f12)
    simp only [List.mem_cons, List.not_mem_nil, or_false] at hx
    rcases hx with rfl | rfl | rfl | rfl | rfl | rfl | rfl | rfl | rfl | rfl | rfl | rfl
    · exact .str _ hb
    · exact .str _ hb
    · exact .str _ hb
    · exact .non
    · exact .five
    · exact .tru
    · exact .tup1 (short word (Nat.le_trans wl (by decide)) wc) k1
    · exact .lst (short some' hsl hsc) k2
    · exact .dic (short some' hsl hsc) k3
    · exact .str _ ⟨by decide +kernel, by decide +kernel⟩
    · exact .zero
    · exact .tup2 (y := "box") (z := "a") ⟨by decide +kernel, by decide +kernel⟩ ⟨by decide +kernel, by decide +kernel⟩ k4
end
end K02
set_option Elab.async false
set_option linter.all false
set_option maxRecDepth 100000
set_option maxHeartbeats 4000000
namespace K02
open PySem PySem.Spec PyProof.Rows L2 Evl LK
/-! ### names: what is_name says, what the law says -/
def lo (c : Nat) : Bool := decide (97 ≤ c ∧ c ≤ 122)
theorem signs128 : ∀ c, c < 128 → Unicode.isLower c = lo c ∧ Unicode.isUpper c = decide (65 ≤ c ∧ c ≤ 90) ∧ Unicode.isTitle c = false ∧ Unicode.isAlpha c = (lo c || decide (65 ≤ c ∧ c ≤ 90)) := by decide +kernel
theorem abc128 : ∀ c, c < 128 → decide (c ∈ ("abcdefghijklmnopqrstuvwxyz" : Str).cps.toList) = lo c := by decide +kernel
theorem name_signs {z : Str} (h : ∀ c ∈ z.cps.toList, c < 128) (h1 : 1 ≤ z.length) : (Txt.isascii z && (Txt.isalpha z && Txt.islower z)) = z.cps.toList.all lo := by
  have e1 : Txt.isascii z = true := by
    show z.cps.all (· < 128) = true
    rw [← Array.all_toList, List.all_eq_true]
    intro c hc
    exact decide_eq_true (h c hc)
  have hp : decide (z.length > 0) = true := decide_eq_true h1
  have e2 : Txt.isalpha z = z.cps.toList.all Unicode.isAlpha := by
    show (decide (z.length > 0) && z.cps.all Unicode.isAlpha) = _
    rw [hp, Bool.true_and, ← Array.all_toList]
  have e3 : Txt.islower z = (z.cps.toList.any Unicode.isLower && !z.cps.toList.any fun c => Unicode.isUpper c || Unicode.isTitle c) := by
    show (z.cps.any Unicode.isLower && !z.cps.any fun c => Unicode.isUpper c || Unicode.isTitle c) = _
    rw [← Array.any_toList, ← Array.any_toList]
  rw [e1, e2, e3, Bool.true_and]
  have hne : z.cps.toList ≠ [] := by
    intro e
    have : z.length = 0 := by show z.cps.toList.length = 0; rw [e]; rfl
    omega
  generalize z.cps.toList = l at h hne
  cases ha : l.all lo with
  | true =>
    have ha' := List.all_eq_true.mp ha
    have a1 : l.all Unicode.isAlpha = true := List.all_eq_true.mpr fun c hc => by rw [(signs128 c (h c hc)).2.2.2, ha' c hc]; rfl
    have a2 : l.any Unicode.isLower = true := by
      cases l with
      | nil => exact absurd rfl hne
      | cons c r => exact List.any_eq_true.mpr ⟨c, List.mem_cons_self, by rw [(signs128 c (h c List.mem_cons_self)).1]; exact ha' c List.mem_cons_self⟩
    have a3 : (l.any fun c => Unicode.isUpper c || Unicode.isTitle c) = false := by
      rw [List.any_eq_false]
      intro c hc
      obtain ⟨_, s2, s3, _⟩ := signs128 c (h c hc)
      have q := of_decide_eq_true (ha' c hc)
      rw [s2, s3, Bool.or_false]
      simp only [decide_eq_true_eq]
      omega
    rw [a1, a2, a3]; rfl
  | false =>
    obtain ⟨c, hc, hn⟩ := List.all_eq_false.mp ha
    obtain ⟨s1, s2, s3, s4⟩ := signs128 c (h c hc)
    cases hu : decide (65 ≤ c ∧ c ≤ 90) with
    | true =>
      have a3 : (l.any fun c => Unicode.isUpper c || Unicode.isTitle c) = true := List.any_eq_true.mpr ⟨c, hc, by rw [s2, hu]; rfl⟩
      rw [a3]
      simp
    | false =>
      have a1 : l.all Unicode.isAlpha = false := List.all_eq_false.mpr ⟨c, hc, by rw [s4, hu]; simpa using hn⟩
      rw [a1]; rfl
theorem own_not : ∀ z ∈ ownW, nameOk z = false := by decide +kernel
/-! ### what is told of a drawn thing -/
def Told (K : PySem.W.Frag) (H : Hp) (x : V) (r : Str) (b : Bool) : Prop :=
  ReprOf K H x r ∧ ((∃ T, Ty6 K H x T ∧ T ≠ "str" ∧ PySem.W.kitOne K (.type T) (.type "str") = some false ∧ b = false) ∨ ∃ z, x = .str z ∧ Tx z ∧ b = nameOk z)
theorem tx_one {c : Nat} (h : c < 128) : Tx ⟨#[c]⟩ := by
  refine ⟨by show 1 ≤ 40; decide, fun d hd => ?_⟩
  have e : d = c := by simpa using hd
  rw [e]; exact h
theorem rt_len {z : Str} (h : Tx z) : (reprText z).length ≤ 402 := by
  have := StrLaws.reprText_len z fun c hc => Nat.lt_trans (h.2 c hc) (by decide)
  have h1 : z.length ≤ 40 := h.1
  omega
theorem jl : (("(" : Str)).length = 1 ∧ (("[" : Str)).length = 1 ∧ (("]" : Str)).length = 1 ∧ (("{" : Str)).length = 1 ∧ (("}" : Str)).length = 1 ∧ ((", " : Str)).length = 2 ∧ ((": " : Str)).length = 2 ∧ ((",)" : Str)).length = 2 ∧ ((")" : Str)).length = 1 ∧ (("" : Str)).length = 0 := by decide +kernel
theorem tt1 (a : Str) : (tupleText [a]).length ≤ a.length + 10 := by
  have e : tupleText [a] = (("(" : Str) ++ a) ++ (",)" : Str) := rfl
  rw [e, app_len, app_len, jl.1, jl.2.2.2.2.2.2.2.1]
  omega
theorem tt2 (a b : Str) : (tupleText [a, b]).length ≤ a.length + b.length + 10 := by
  have e : tupleText [a, b] = (("(" : Str) ++ ((a ++ (", " : Str)) ++ b)) ++ (")" : Str) := rfl
  rw [e, app_len, app_len, app_len, app_len, jl.1, jl.2.2.2.2.2.1, jl.2.2.2.2.2.2.2.2.1]
  omega
theorem lt1 (a : Str) : (listText [a]).length ≤ a.length + 10 := by
  have e : listText [a] = ((("[" : Str) ++ ("" : Str)) ++ a) ++ ("]" : Str) := rfl
  rw [e, app_len, app_len, app_len, jl.2.1, jl.2.2.1, jl.2.2.2.2.2.2.2.2.2]
  omega
theorem dt1 (a b : Str) : (dictText [(a ++ (": " : Str)) ++ b]).length ≤ a.length + b.length + 10 := by
  have e : dictText [(a ++ (": " : Str)) ++ b] = (("{" : Str) ++ ((a ++ (": " : Str)) ++ b)) ++ ("}" : Str) := rfl
  rw [e, app_len, app_len, app_len, app_len, jl.2.2.2.1, jl.2.2.2.2.1, jl.2.2.2.2.2.2.1]
  omega
theorem fits {n : Nat} (h : n ≤ 2000) : n ≤ sizeLine := Nat.le_trans h (by decide)
theorem told_of {K : PySem.W.Frag} {H : Hp} {x : V} (h : Thing H x) : ∃ r b, ∀ H', Same H H' → Told K H' x r b := by
  cases h with
  | str z h => exact ⟨reprText z, nameOk z, fun H' _ => ⟨.inl ⟨.str z, .str z, rfl, (by show 0 ≤ 60; decide), fits (Nat.le_trans (rt_len h) (by decide)), rfl⟩, .inr ⟨z, rfl, h, rfl⟩⟩⟩
  | non => exact ⟨"None", false, fun H' _ => ⟨.inl ⟨.none, .non, rfl, by decide, by decide +kernel, rfl⟩, .inl ⟨_, .non, by decide, kit_ty (by decide +kernel), rfl⟩⟩⟩
  | five => exact ⟨toString (5 : Int), false, fun H' _ => ⟨.inl ⟨.int 5, .int 5, by decide +kernel, by decide, by decide +kernel, rfl⟩, .inl ⟨_, .int 5, by decide, kit_ty (by decide +kernel), rfl⟩⟩⟩
  | zero => exact ⟨toString (0 : Int), false, fun H' _ => ⟨.inl ⟨.int 0, .int 0, by decide +kernel, by decide, by decide +kernel, rfl⟩, .inl ⟨_, .int 0, by decide, kit_ty (by decide +kernel), rfl⟩⟩⟩
  | tru => exact ⟨"True", false, fun H' _ => ⟨.inl ⟨.bool true, .bl true, rfl, by decide, by decide +kernel, rfl⟩, .inl ⟨_, .bl true, by decide, kit_ty (by decide +kernel), rfl⟩⟩⟩
  | @tup1 p z h e =>
    refine ⟨tupleText [reprText z], false, fun H' s => ⟨.inl ⟨.tuple [.str z], .tup (SqT.of (s _ _ e)) (.cons (.str z) .nil), rfl, (by show max 0 0 + 1 ≤ 60; decide), ?_, rfl⟩, .inl ⟨_, .tup (SqT.of (s _ _ e)), by decide, kit_ty (by decide +kernel), rfl⟩⟩⟩
    exact fits (Nat.le_trans (tt1 (reprText z)) (by have := rt_len h; omega))
  | @tup2 p y z hy h e =>
    refine ⟨tupleText [reprText y, reprText z], false, fun H' s => ⟨.inl ⟨.tuple [.str y, .str z], .tup (SqT.of (s _ _ e)) (.cons (.str y) (.cons (.str z) .nil)), rfl, (by show max 0 (max 0 0) + 1 ≤ 60; decide), ?_, rfl⟩, .inl ⟨_, .tup (SqT.of (s _ _ e)), by decide, kit_ty (by decide +kernel), rfl⟩⟩⟩
    exact fits (Nat.le_trans (tt2 (reprText y) (reprText z)) (by have := rt_len h; have := rt_len hy; omega))
  | @lst p z h e =>
    refine ⟨listText [reprText z], false, fun H' s => ⟨.inl ⟨.list [.str z], .lst (SqL.of (s _ _ e)) (.cons (.str z) .nil), rfl, (by show max 0 0 + 1 ≤ 60; decide), ?_, rfl⟩, .inl ⟨_, .lst (s _ _ e), by decide, kit_ty (by decide +kernel), rfl⟩⟩⟩
    exact fits (Nat.le_trans (lt1 (reprText z)) (by have := rt_len h; omega))
  | @dic p z h e =>
    refine ⟨(oneD z z).shown, false, fun H' s => ⟨.inr ⟨p, z, z, rfl, s _ _ e, ?_, rfl⟩, .inl ⟨_, .dic (s _ _ e), by decide, kit_ty (by decide +kernel), rfl⟩⟩⟩
    exact fits (Nat.le_trans (dt1 (reprText z) (reprText z)) (by have := rt_len h; omega))
end K02
set_option Elab.async false
set_option linter.all false
set_option maxRecDepth 100000
set_option maxHeartbeats 4000000
namespace K02
open PySem PySem.Spec PyProof.Rows L2 Evl LK
section
variable {P : Program} {w : World} {K : PySem.W.Frag} {mg : Str → Option Value} {base : Heap}
abbrev sLaw : Stmt := top 10
def spLaw (K : PySem.W.Frag) : Sp := fun vs H Q _ => ∃ (a : Addr) (ns : List Int), vs = [.ref a] ∧ SqL K H a (ns.map V.int) ∧ ns.length ≤ 63 ∧ ∀ H', Q (.bl true) H'
structure TLaw (K : PySem.W.Frag) (mg : Str → Option Value) (fB fO fP fT fH fN : Addr) : Prop where
  begun : mg "_law_begun" = some (.ref fB)
  own : mg "_law_own" = some (.ref fO)
  pick : mg "_law_pick" = some (.ref fP)
  take : mg "_law_take" = some (.ref fT)
  thing : mg "_law_thing" = some (.ref fH)
  name : mg "is_name" = some (.ref fN)
  nm : TName K mg
  range : mg "range" = none
  min : mg "min" = none
  len : mg "len" = none
  repr : mg "repr" = none
  isinstance : mg "isinstance" = none
  str : mg "str" = none
  bool : mg "bool" = none
theorem scLaw : FnScope ["script", "state", "own", "turn", "matter", "copy", "due", "found", "sign", "word"] ["script"] (defScope sLaw) := ⟨rfl, rfl, rfl, by decide +kernel, rfl, by decide +kernel, by decide +kernel⟩
theorem kb_name {f : Addr} {fd : FuncData} (F : FnP K "is_name" sName f fd) : KBinds K fd ["text"] ["text"] (fun us ws => us ++ ws) (fun vs zs => vs ++ zs) := by
  obtain ⟨oc, od, dV, kV, doc, pm, an, cdv, ct, osl, rfl, lk, hcd, hD, hK⟩ := F.ex
  rcases hD with ⟨_, rfl⟩ | ⟨e, _⟩
  · exact ⟨fun s us ws _ hl => match us, ws, hl with | [], [_], _ => .of_eq rfl | [_], [], _ => .of_eq rfl, fun r1 r2 => Vals.append r1 r2⟩
  · exact absurd rfl e
theorem ok_law {f fB fO fP fT fH fN : Addr} {fd fdB fdO fdP fdT fdH fdN : FuncData} (F : FnP K "law" sLaw f fd) (FB : FnP K "_law_begun" sBegun fB fdB) (FO : FnP K "_law_own" sOwn fO fdO) (FP : FnP K "_law_pick" sPick fP fdP)
    (FT : FnP K "_law_take" sTake fT fdT) (FH : FnP K "_law_thing" sThing fH fdH) (FN : FnP K "is_name" sName fN fdN) (T : TLaw K mg fB fO fP fT fH fN) : FnG P w K mg base 4 f fd ["script"] (spLaw K) := by
  have GB : FnOk P w K mg base CX0 1 fB fdB ["script"] (spBegun K) := ok_begun FB
  have GO : FnOk P w K mg base CX0 1 fO fdO [] spOwn := ok_own FO
  have GH : FnOk P w K mg base CX0 3 fH fdH ["state"] (spThing K) := ok_thing FH FO FP FT ⟨T.own, T.pick, T.take, T.len, T.range⟩
  have GN : FnOk P w K mg base CX0 1 fN fdN ["text"] (spName K) := ok_name FN T.nm
  have bB : Binds K fdB ["script"] [] := FB.bindsN fun _ _ _ _ _ _ us hl => match us, hl with | [_], _ => rfl
  have bO : Binds K fdO [] [] := FO.bindsN fun _ _ _ _ _ _ us hl => match us, hl with | [], _ => rfl
  have bH : Binds K fdH ["state"] [] := FH.bindsN fun _ _ _ _ _ _ us hl => match us, hl with | [_], _ => rfl
  have bN : Binds K fdN ["text"] [] := FN.bindsN fun _ _ _ _ _ _ us hl => match us, hl with | [_], _ => rfl
  have kN := kb_name FN
  have nd := scLaw.nd
  refine FnG.of F scLaw (fun vs H Q E h => ?_) (fun cdv A outer s H vs Q E hG hr h => ?_)
  · obtain ⟨a, ns, rfl, _⟩ := h; rfl
  · obtain ⟨a, ns, rfl, hS, hl, q⟩ := h
    have hr1 : Room 1 _ := hr.mono (by decide)
    have hu64 := hr.units
    replace hG : (A.deeper (envOfC "law" (defScope sLaw) s.heap.objs.size f cdv)).guards = some [] := hG
    refine ⟨_, PSs.nox (pss_cons (ps_set (i := 1) nd rfl (Or.inl rfl) (pe_call GB hr1 rfl T.begun FB.kp bB .nil pass0 (pa_cons (pv 0) pa_nil)))
      (pss_cons (ps_set (i := 2) nd rfl (Or.inl rfl) (pe_call0 GO hr1 rfl T.own FO.kp bO .nil pass0))
      (pss_cons (ps_for PassesOwn.never rfl (pi_range1 (by rfl) T.range (pa_cons (pe_op op_add pe_int (pe_callB (call_min2 (by rfl)) (by rfl) T.min (by decide +kernel) (pa_cons (pe_callB call_len_seq (by rfl) T.len PySem.boot_len (pa_cons (pv 0) pa_nil)) (pa_cons pe_int pa_nil)))) pa_nil)) (pg_name (i := 3) nd rfl (Or.inl rfl)) (pss_cons (ps_set (i := 4) nd rfl (Or.inl rfl) (pe_call GH hr rfl T.thing FH.kp bH .nil pass0 (pa_cons (pv 1) pa_nil)))
      (pss_cons (ps_set (i := 5) nd rfl (Or.inl rfl) (pe_callB (call_reprQ hG hu64) (by rfl) T.repr (by decide +kernel) (pa_cons (pv 4) pa_nil)))
      (pss_cut (ps_set (i := 6) nd rfl (Or.inl rfl) (pe_and (pe_callB call_isi (by rfl) T.isinstance (by decide +kernel) (pa_cons (pv 4) (pa_cons (pe_bltn (v := .ty "str") (by rfl) T.str (by decide +kernel) rfl) pa_nil))) (pe_and (pe_chain op_le op_le pe_int (pe_callB call_len (by rfl) T.len PySem.boot_len (pa_cons (pv 4) pa_nil)) pe_int) (pe_one (pe_cmpR op_notIn_seq (pv 4) (pv 2) (by rfl))))))
      (pss_cut (ps_set (i := 6) nd rfl (Or.inl rfl) (pe_and (pv 6) (pe_one (pe_cmpR (op_eqD hu64) (pe_lc (own := [("sign", 8)]) (g := gName 8) (by rfl) nd (pi_str (pv 4)) (blkOk_by (N := ["script", "state", "own", "turn", "matter", "copy", "due", "found", "sign", "word"]) (sc := defScope sLaw) (by decide +kernel)) (fun _ _ _ _ _ => (pg_name (i := 8) nd rfl (Or.inl rfl))) (fun _ _ _ _ _ => (pts_one (pt_cmpR op_notIn_sign (pv 8) pe_str (by rfl)))) (fun _ _ _ _ _ => (pv 8))) (pe_lst pa_nil) (nomark _)))))
      (pss_one (ps_for PassesOwn.never rfl (pi_list (pe_lst (pa_cons (pe_call GN hr1 rfl T.name FN.kp bN .nil pass0 (pa_cons (pv 4) pa_nil)) (pa_cons (pe_callK0 GN hr1 rfl T.name FN.kp kN pass0 (pk_cons (pv 4) pk_nil)) pa_nil)))) (pg_name (i := 7) nd rfl (Or.inl rfl)) (pss_one (ps_if (PW.pt (pw_or (pt_not (pt_val (pe_callB call_isi (by rfl) T.isinstance (by decide +kernel) (pa_cons (pv 7) (pa_cons (pe_bltn (v := .ty "bool") (by rfl) T.bool (by decide +kernel) rfl) pa_nil))))) (pw_or (pt_cmpR op_ne (pv 7) (pv 6) (nomark _)) (pw_or1 (pt_cmpR op_ne (pe_callB (call_reprQ hG hu64) (by rfl) T.repr (by decide +kernel) (pa_cons (pv 4) pa_nil)) (pv 5) (nomark _)))))) (pss_one (ps_ret pe_bl)) pss_nil)))))))))
      (pss_one (ps_ret (pe_cmpR (op_eqD hu64) (pe_lc (own := [("word", 9)]) (g := gName 9) (by rfl) nd (pi_list (pv 2)) (blkOk_by (N := ["script", "state", "own", "turn", "matter", "copy", "due", "found", "sign", "word"]) (sc := defScope sLaw) (by decide +kernel)) (fun _ _ _ _ _ => (pg_name (i := 9) nd rfl (Or.inl rfl))) (fun _ _ _ _ _ => (pts_one (pt_val (pe_call GN hr1 rfl T.name FN.kp bN .nil pass0 (pa_cons (pv 9) pa_nil))))) (fun _ _ _ _ _ => (pv 9))) (pe_lst pa_nil) (nomark _)))))))
    , ?_⟩
    -- state = _law_begun(script); own = _law_own()
    refine ⟨_, rfl, a, ns, rfl, hS, hl, fun d H1 s1 _ _ S1 => ?_⟩
    refine ⟨rfl, fun o ho => ?_⟩
    have S2 := S1.new (o := .lst (ownW.map V.str)) ho
    have o_s := S1.ns ho
    have o_g := S1.ng ho
    -- for turn in range(8 + min(len(script), 55))
    refine ⟨_, rfl, a, _, rfl, .inl ((s1.trans (same_new ho)).seq hS), _, _, rfl, _, _, rfl, rfl, ?_⟩
    have hlen : (ns.map V.int).length = ns.length := List.length_map _
    obtain ⟨turns, hn⟩ : ∃ t : Int, t = (8 : Int) + (if (55 : Int) < ((ns.map V.int).length : Int) then 55 else ((ns.map V.int).length : Int)) := ⟨_, rfl⟩
    have ht0 : 0 ≤ turns ∧ turns ≤ 63 := by
      rw [hn]
      split <;> omega
    refine ⟨turns, by rw [hn], by omega, by omega, for_range (lo := 0) (n := turns.toNat) (fun i σ H' => ∃ v3 v4 v5 v6 v7 v8 v9, σ = [some (.ref a), some (.ref d.s), some (.ref o), v3, v4, v5, v6, v7, v8, v9] ∧ H' o = some (.lst (ownW.map V.str)) ∧ StAt H' d (40 * i))
      ⟨none, none, none, none, none, none, none, rfl, upd_same, S2⟩ ?_ ?_⟩
    · rintro i σ H2 hi ⟨v3, v4, v5, v6, v7, v8, v9, rfl, ho2, S3⟩
      -- matter
      refine ⟨_, rfl, d, 40 * i, rfl, S3, by omega, fun x H3 hx S4 f4 => ?_⟩
      have ho3 := f4 o _ ho2 o_s o_g
      obtain ⟨r, b, told⟩ := told_of (K := K) hx
      obtain ⟨hrep, hkind⟩ := told H3 (Same.refl H3)
      -- copy
      refine ⟨_, rfl, x, r, rfl, hrep, ?_⟩
      -- due = isinstance(matter, str) and 1 <= len(matter) <= 8 and (matter not in own)
      refine ⟨fun σ' H' => ∃ b1 : Bool, σ' = [some (.ref a), some (.ref d.s), some (.ref o), some (.int (0 + (i : Int))), some x, some (.str r), some (.bl b1), v7, v8, v9] ∧ H' = H3 ∧
        ((b1 = false ∧ b = false) ∨ ∃ z, x = .str z ∧ Tx z ∧ 1 ≤ z.length ∧ b1 = true ∧ b = z.cps.toList.all lo), ?_, ?_⟩
      · rcases hkind with ⟨Ty, ty, nty, kty, rfl⟩ | ⟨z, rfl, hz, rfl⟩
        · refine ⟨_, rfl, x, .ty "str", _, _, false, rfl, .ty "str", ty.tyX, kty, _, rfl, ?_⟩
          exact iteF ⟨false, rfl, rfl, .inl ⟨rfl, rfl⟩⟩
        · refine ⟨_, rfl, _, .ty "str", _, _, true, rfl, .ty "str", .base (.str z), kit_ty (by decide +kernel), _, rfl, ?_⟩
          refine iteT ?_
          have hz2 : z.length ≤ sizeLine := Nat.le_trans hz.1 (by decide)
          refine ⟨_, rfl, _, _, rfl, ⟨hz2, rfl⟩, _, _, rfl, rfl, _, rfl, ?_⟩
          unfold nameOk
          cases e1 : decide (1 ≤ (z.length : Int)) with
          | false =>
            refine iteF ?_
            exact ⟨_, rfl, iteF ⟨false, rfl, rfl, .inl ⟨rfl, rfl⟩⟩⟩
          | true =>
            have p1 : 1 ≤ z.length := by have := of_decide_eq_true e1; omega
            refine iteT ?_
            refine ⟨_, _, rfl, rfl, _, rfl, ?_⟩
            cases e2 : decide ((z.length : Int) ≤ 8) with
            | false => exact iteF ⟨false, rfl, rfl, .inl ⟨rfl, rfl⟩⟩
            | true =>
              refine iteT ?_
              refine ⟨_, rfl, _, rfl, o, _, rfl, .inl (SqL.of ho3), rfl, flat_strs ownW, ?_⟩
              have e3 : (true && true && (Txt.isascii z && (Txt.isalpha z && (Txt.islower z && !inV (.str z) (ownW.map V.str))))) = (z.cps.toList.all lo && !inV (.str z) (ownW.map V.str)) := by
                rw [← name_signs hz.2 p1]
                cases Txt.isascii z <;> cases Txt.isalpha z <;> cases Txt.islower z <;> rfl
              rw [e3]
              cases e4 : inV (.str z) (ownW.map V.str) with
              | true => exact ⟨false, rfl, rfl, .inl ⟨rfl, by simp⟩⟩
              | false => exact ⟨true, rfl, rfl, .inr ⟨z, rfl, hz, p1, rfl, by simp⟩⟩
      rintro σ' H3' ⟨b1, rfl, eH, hb1⟩
      rw [eH]
      clear eH H3'
      -- due = due and [..] == []
      refine ⟨fun σ' H' => ∃ w8, σ' = [some (.ref a), some (.ref d.s), some (.ref o), some (.int (0 + (i : Int))), some x, some (.str r), some (.bl b), v7, w8, v9] ∧ Same H3 H', ?_, ?_⟩
      · refine ⟨_, rfl, b1, rfl, ?_⟩
        rcases hb1 with ⟨rfl, rfl⟩ | ⟨z, rfl, hz, p1, rfl, rfl⟩
        · exact iteF ⟨v8, rfl, Same.refl H3⟩
        refine iteT ?_
        have hsz : z.cps.size ≤ 40000 := Nat.le_trans (show z.cps.size ≤ 40 from hz.1) (by decide)
        have cv : ∀ i c, z.cps[i]? = some c → c ∈ z.cps.toList ∧ z.cps.toList.getD i 0 = c := by
          intro i c hc
          have h : z.cps.toList[i]? = some c := by rw [← hc]; simp
          exact ⟨List.mem_of_getElem? h, by rw [List.getD_eq_getElem?_getD, h]; rfl⟩
        refine el_lcS (σ := [some (.ref a), some (.ref d.s), some (.ref o), some (.int (0 + (i : Int))), some (.str z), some (.str r), some (.bl true), v7, v8, v9]) (j := 8) (vs := [8]) (z := z)
          (fun i => !lo (z.cps.toList.getD i 0)) (fun i => chr1 (z.cps.toList.getD i 0)) (ev_var (i := 4) rfl) hsz (fun x => rfl)
          (fun i c H5 e5 hc => ?_) (fun i c H5 e5 hc _ => ?_) _ (Ex.refl _) _ (fun p H5 hp e5 hp5 => ?_)
        · obtain ⟨m, e⟩ := cv i c hc
          rw [e]
          refine et_is (et_test (ev_op (ev_var (i := 8) rfl) ev_c (rv_val fun H1 _ Q q => ⟨c, _, rfl, rfl, q⟩))) ?_
          rw [abc128 c (hz.2 c m)]
        · obtain ⟨m, e⟩ := cv i c hc
          rw [e]
          exact ev_var (i := 8) rfl
        refine ⟨by show 0 ≤ sizeLine; exact Nat.zero_le _, fun l hl => ?_⟩
        have all_str : ∀ v ∈ given z.cps.size (fun i => !lo (z.cps.toList.getD i 0)) (fun i => chr1 (z.cps.toList.getD i 0)), ∃ c, c < 128 ∧ v = chr1 c := by
          intro v hv
          obtain ⟨i, hi, rfl⟩ := List.mem_map.mp hv
          have hi' := List.mem_range.mp (List.mem_filter.mp hi).1
          have hi2 : i < z.cps.toList.length := hi'
          have e : z.cps.toList.getD i 0 = z.cps.toList[i] := by rw [List.getD_eq_getElem?_getD, List.getElem?_eq_getElem hi2]; rfl
          exact ⟨_, by rw [e]; exact hz.2 _ (List.getElem_mem hi2), rfl⟩
        have isnil : (given z.cps.size (fun i => !lo (z.cps.toList.getD i 0)) (fun i => chr1 (z.cps.toList.getD i 0))).isEmpty = z.cps.toList.all lo := by
          cases ha : z.cps.toList.all lo with
          | true =>
            rw [given_nil]
            · rfl
            · intro i hi
              have hi2 : i < z.cps.toList.length := hi
              have e : z.cps.toList.getD i 0 = z.cps.toList[i] := by rw [List.getD_eq_getElem?_getD, List.getElem?_eq_getElem hi2]; rfl
              show (!lo _) = false
              rw [e, List.all_eq_true.mp ha _ (List.getElem_mem hi2)]; rfl
          | false =>
            obtain ⟨c, hc, hn⟩ := List.all_eq_false.mp ha
            obtain ⟨i, hi, e⟩ := List.mem_iff_getElem.mp hc
            have e2 : z.cps.toList.getD i 0 = c := by rw [List.getD_eq_getElem?_getD, List.getElem?_eq_getElem hi]; exact e
            have hne := given_cons (n := z.cps.size) (i := i) (f := fun i => !lo (z.cps.toList.getD i 0)) (v := fun i => chr1 (z.cps.toList.getD i 0)) hi (by show (!lo _) = true; rw [e2]; simpa using hn)
            rw [List.isEmpty_eq_false_iff]
            exact hne
        have hglen := given_len z.cps.size (fun i => !lo (z.cps.toList.getD i 0)) (fun i => chr1 (z.cps.toList.getD i 0))
        generalize given z.cps.size (fun i => !lo (z.cps.toList.getD i 0)) (fun i => chr1 (z.cps.toList.getD i 0)) = gl at hp5 all_str isnil hglen
        obtain ⟨zs, rfl, hzs⟩ := strs_of (P := Tx) (l := gl) fun v hv => by
          obtain ⟨c, hc, rfl⟩ := all_str v hv
          exact ⟨_, tx_one hc, rfl⟩
        have hp6 : (upd H5 l (.lst [])) p = some (.lst (zs.map V.str)) := same_new hl _ _ hp5
        refine ⟨.list (zs.map PyData.str), .list [], .lst (SqL.of hp6) (dp_strs zs), .lst (SqL.of upd_same) .nil, shaped_strs (fun z h => (hzs z h).lay), by decide, ?_⟩
        rw [eqv_nil]
        have e7 : (zs.map PyData.str).isEmpty = z.cps.toList.all lo := by
          rw [← isnil]
          cases zs <;> rfl
        rw [e7]
        exact ⟨v8, rfl, e5.trans (same_new hl)⟩
      rintro σ' H4 ⟨w8, rfl, s4⟩
      obtain ⟨hrep4, hkind4⟩ := told H4 s4
      -- is_name(matter), twice
      have name : ∀ (H' : Hp), Same H3 H' → ∀ (Q' : VK) (E' : XK), Q' (.bl b) H' → spName K [x] H' Q' E' := by
        intro H' s' Q' E' hq
        obtain ⟨_, hk⟩ := told H' s'
        rcases hk with ⟨Ty, ty, nty, kty, rfl⟩ | ⟨z, rfl, hz, rfl⟩
        · exact ⟨x, Ty, rfl, ty, .inl ⟨nty, hq⟩⟩
        · exact ⟨_, "str", rfl, .str z, .inr ⟨z, rfl, Nat.le_trans hz.1 (by decide), hq⟩⟩
      refine ⟨_, rfl, t_nil (name H4 s4 _ _ ?_)⟩
      refine ⟨_, rfl, ?_⟩
      refine t_nil (name H4 s4 _ _ ?_)
      refine ⟨by show 2 ≤ sizeLine; decide, fun l hl => ?_⟩
      have s5 : Same H3 (upd H4 l (.lst [.bl b, .bl b])) := s4.trans (same_new hl)
      have S5 : StAt (upd H4 l (.lst [.bl b, .bl b])) d (40 * i + 40) := (S4.same s4).new hl
      refine ⟨l, rfl, ⟨_, SqL.of upd_same⟩, for_list (K := K) (a := l) (xs := [.bl b, .bl b]) (fun j σ' H' => ∃ w7 w8 w9, σ' = [some (.ref a), some (.ref d.s), some (.ref o), some (.int (0 + (i : Int))), some x, some (.str r), some (.bl b), w7, w8, w9] ∧ H' = upd H4 l (.lst [.bl b, .bl b]))
        ⟨v7, w8, v9, rfl, rfl⟩ (fun j σ' H' _ ⟨_, _, _, _, e⟩ => by rw [e]; exact SqL.of upd_same) ?_ ?_⟩
      · rintro j y σ' H' hy ⟨w7, w8, w9, rfl, rfl⟩
        have ey : y = .bl b := by
          match j, hy with
          | 0, h => exact (Option.some.inj h).symm
          | 1, h => exact (Option.some.inj h).symm
          | k + 2, h => cases h
        subst ey
        obtain ⟨hrep5, _⟩ := told _ s5
        refine ⟨_, rfl, .bl b, .ty "bool", _, _, true, rfl, .ty "bool", .base (.bl b), kit_ty (by decide +kernel), _, rfl, ?_⟩
        refine iteF ?_
        refine ⟨_, rfl, _, rfl, rfl, _, rfl, ?_⟩
        rw [show (!decide (V.bl b = V.bl b)) = false by rw [decide_eq_true rfl]; rfl]
        refine iteF ?_
        refine ⟨_, rfl, x, r, rfl, hrep5, _, rfl, rfl, _, rfl, ?_⟩
        rw [show (!decide (V.str r = V.str r)) = false by rw [decide_eq_true rfl]; rfl]
        exact iteF ⟨_, _, _, rfl, rfl⟩
      · rintro σ' H' ⟨w7, w8, w9, rfl, rfl⟩
        exact ⟨_, _, _, _, _, _, _, rfl, s5 _ _ ho3, S5.mono (by omega)⟩
    · rintro σ H2 ⟨v3, v4, v5, v6, v7, v8, v9, rfl, ho2, S3⟩
      -- [word for word in own if is_name(word)] == []
      have gn : given (ownW.map V.str).length (fun _ => false) (fun _ => V.non) = [] := given_nil fun _ _ => rfl
      dsimp only
      refine t_ret ?_
      refine t_op ?_
      refine el_lcL (K := K) (σ := [some (.ref a), some (.ref d.s), some (.ref o), v3, v4, v5, v6, v7, v8, v9]) (j := 9) (vs := [9]) (a := o) (xs := ownW.map V.str)
        (fun _ => false) (fun _ => V.non) (ev_var (i := 2) rfl) (SqL.of ho2) (by decide) (fun x => rfl) (fun i x H5 e5 hx => ?_) (fun i x H5 e5 hx z => by cases z) _ (Ex.refl _) _ (fun p H5 hp e5 hp5 => ?_)
      · have hm := List.mem_of_getElem? hx
        obtain ⟨z, hz, rfl⟩ := List.mem_map.mp hm
        intro H6 e6 Q' hq
        refine ⟨_, rfl, _, "str", rfl, .str z, .inr ⟨z, rfl, Nat.le_trans (own_tx z hz).1 (by decide), ?_⟩⟩
        rw [own_not z hz]
        exact ⟨false, rfl, hq H6 (Ex.refl H6)⟩
      rw [gn] at hp5
      refine ⟨by show 0 ≤ sizeLine; exact Nat.zero_le _, fun l hl => ?_⟩
      exact ⟨.list [], .list [], .lst (SqL.of (same_new hl _ _ hp5)) .nil, .lst (SqL.of upd_same) .nil, by decide, by decide, q _⟩
end
end K02
set_option Elab.async false
set_option linter.all false
set_option maxRecDepth 100000
set_option maxHeartbeats 0
namespace K02
open PySem PySem.Spec PyProof.Rows L2 Evl LK
/-! ### the head: facts by names, the run -/
def dOf (x : Str) (st : Stmt) : He.DefD := ⟨(x, none), x, x, defArgs st, defBody st, defScope st, [], []⟩
def fn : List He.DefD := [dOf "is_name" sName, dOf "_law_begun" sBegun, dOf "_law_take" sTake, dOf "_law_pick" sPick, dOf "_law_own" sOwn, dOf "_law_thing" sThing, dOf "law" sLaw]
def fa : List He.Fa := [.glo "is_name", .glo "_law_begun", .glo "_law_take", .glo "_law_pick", .glo "_law_own", .glo "_law_thing", .glo "law", .glo "OWN", .int "MOST_LETTERS" 8,
  .free "type", .free "str", .free "len", .free "range", .free "min", .free "repr", .free "isinstance", .free "bool"]
def ex (K : PySem.W.Frag) : Bool := He.tupB K "OWN" (ownW.map He.Dv.str)
abbrev R : PySem.W.OpenRow := PySem.W.OpenLaw.row PySem.Challenge.rw_frozenmakers_k02_names_known
abbrev hk : PySem.W.Hook := He.hookX 4 fa fn [] [] ex
def ob (s : PySem.W.SharedT) : He.AlX := He.obsX 4 fa fn [] [] ex (HandSHeadRun.getT s)
theorem ob_eq (s : PySem.W.SharedT) : ob s = hk.obs s.abs := He.obsX_eq (HandSHeadRun.getT_eq s)
def loose : List Str := ["OWN", "MOST_LETTERS", "is_name", "_law_begun", "_law_take", "_law_pick", "_law_own", "_law_thing"]
theorem run (w : World) : HandSHeadRun.RunEq R (PySem.W.view R.prog [10]) hk ob 2000 loose w := by
  intro os
  kernel_rfl
theorem facts {P : Program} {w : World} {K : PySem.W.Frag} {h : Heap} {mg : Str → Option Value} {f : Addr} (X : K.In h) (G : h.Ns mainGlobals mg) (hfa : mg ("law" : Str) = some (.ref f)) (c : He.SaysX fa fn [] [] ex w h K) :
    ∃ fd : FuncData, (∀ (s : Shared) (v : Value), BindsTo s fd ⟨[v], []⟩ [("script", v)]) ∧ ∀ base : Heap, K.In base → base.Ns mainGlobals mg → FnG P w K mg base 4 f fd ["script"] (spLaw K) := by
  have cd := c.t.d
  obtain ⟨fdN, FN⟩ := cd.def_ 0 (d := dOf "is_name" sName) rfl
  obtain ⟨fdB, FB⟩ := cd.def_ 1 (d := dOf "_law_begun" sBegun) rfl
  obtain ⟨fdT, FT⟩ := cd.def_ 2 (d := dOf "_law_take" sTake) rfl
  obtain ⟨fdP, FP⟩ := cd.def_ 3 (d := dOf "_law_pick" sPick) rfl
  obtain ⟨fdO, FO⟩ := cd.def_ 4 (d := dOf "_law_own" sOwn) rfl
  obtain ⟨fdH, FH⟩ := cd.def_ 5 (d := dOf "_law_thing" sThing) rfl
  obtain ⟨fd, F⟩ := cd.def_ 6 (d := dOf "law" sLaw) rfl
  have gl : ∀ (i : Nat) (x : Str), fa[i]? = some (.glo x) → mg x = some (.ref (He.ga K x)) := fun i x e => He.glo_ok X G (cd.fact i e)
  have fr : ∀ (i : Nat) (x : Str), fa[i]? = some (.free x) → mg x = none := fun i x e => He.free_ok X G (cd.fact i e)
  have e := hfa.symm.trans (gl 6 "law" rfl)
  cases e
  have b := FunD.bindsA (ps := ["script"]) F fun _ _ _ _ _ _ us hl => match us, hl with | [_], _ => rfl
  have own : ∃ a, mg "OWN" = some (.ref a) ∧ ∀ H, SqT K H a (ownW.map V.str) := ⟨_, gl 7 "OWN" rfl, fun H => by
    have h := He.tupB_ok c.more H
    rw [List.map_map] at h
    exact h⟩
  have N : TName K mg := ⟨fr 9 "type" rfl, fr 10 "str" rfl, fr 11 "len" rfl, He.int_ok X G (cd.fact 8 (f := .int "MOST_LETTERS" 8) rfl), own⟩
  have T : TLaw K mg _ _ _ _ _ _ := ⟨gl 1 "_law_begun" rfl, gl 4 "_law_own" rfl, gl 3 "_law_pick" rfl, gl 2 "_law_take" rfl, gl 5 "_law_thing" rfl, gl 0 "is_name" rfl, N,
    fr 12 "range" rfl, fr 13 "min" rfl, fr 11 "len" rfl, fr 14 "repr" rfl, fr 15 "isinstance" rfl, fr 10 "str" rfl, fr 16 "bool" rfl⟩
  exact ⟨fd, fun s v => b s [v] rfl, fun base _ _ => ok_law F FB FO FP FT FH FN T⟩
end K02
open PySem PySem.W PySem.Calls PyProof.Rows
theorem PySem.Challenge.cw_frozenmakers_k02_names_known_holds : PySem.Challenge.rw_frozenmakers_k02_names_known.Holds := by
  w_on; o_law
  refine HandSHeadRun.head_any (r := OpenLaw.row PySem.Challenge.rw_frozenmakers_k02_names_known) (q := view (OpenLaw.row PySem.Challenge.rw_frozenmakers_k02_names_known).prog [10]) (H := K02.hk) (ob := K02.ob) (M := 2000) (loose := K02.loose) (d := HandSHeadRun.topDef (OpenLaw.row PySem.Challenge.rw_frozenmakers_k02_names_known).prog 10) (kwd := []) K02.ob_eq
    (by kernel_rfl) (fun s => by kernel_rfl) K02.run (by kernel_rfl) (by kernel_rfl) (by kernel_rfl) (by rfl) (by first | assumption | decide +kernel) (by decide +kernel) ⟨rfl, rfl, rfl, rfl, rfl, by decide +kernel⟩ ?hw ?hc
  case hw => w_witness2
  case hc =>
    refine LK.walkG (l := PySem.Challenge.rw_frozenmakers_k02_names_known) (n := 63) (k := 4) (x := "script") rfl (by decide) (by kernel_rfl) ⟨rfl, by decide, by decide⟩ ?F
    intro w mg fa h Y G hmg0
    obtain ⟨K, KX, c⟩ := Y
    have hmg : mg ("law" : PySem.Str) = some (.ref fa) := by
      have e : (HandSHeadRun.topDef (OpenLaw.row PySem.Challenge.rw_frozenmakers_k02_names_known).prog 10).name = ("law" : PySem.Str) := by kernel_rfl
      rw [← e]
      exact hmg0
    obtain ⟨fd, hb, hF⟩ := K02.facts (P := (PySem.Challenge.rw_frozenmakers_k02_names_known).prog) (w := w) KX G hmg c
    exact ⟨K, fd, K02.spLaw K, KX, hb, fun H a ns hl _ hS => ⟨a, ns, rfl, hS, hl, fun _ => rfl⟩, hF⟩
#print axioms PySem.Challenge.cw_frozenmakers_k02_names_known_holds
