import PyProof.Rows.All
import Wide.All
import OpenK.AllK
import Wide.FinOn
import HandS.Base
import HandS.Call
import HandS.List
import HandS.Comp
import HandS.Ends
import HandS.Words
import PyProof.ReprRoads
import PyProof.ReprReads
import HandS.Lambda
import HandS.Iter
import HandS.Walk
import HandS.Zip
import HandS.TupAny
import HandS.TupMul
import HandS.TupLe
import HandS.Text
import HandS.IsInst
import HandS.More
import PyProof.EqLayable
import PyProof.P3Eq
import PyProof.P3In
import HandS.Deep
import HandS.Wide
import PyProof.ReprLen
import HandS.SortInts
import PyProof.Rows.StrMeet
import KE.GoesMore
import KE.GoesEnum
import PyProof.Draws
import PyProof.EnumMake
import HandS.Style
import HandS.Dict
import PyProof.StrBlock2
import HandS.Strs
import PyProof.Rows.IntBool
import PyProof.NeData
import PyProof.CallStr
import PyProof.EqKinds
import HandS.SetFor
import HandS.StrMore
import HandS.Exc
import HandS.ExcInit
import HandS.ExcField
import HandS.WordsExc
import KE.KExcIs
import HandS.SetBool
import HandS.SetTxt0
import HandS.TryOnly
import KE.KLam
import PyProof.Rows.ListMul
import HandS.Sort
import KE.SortKeyHeap
import HandS.SortKw
import KE.SortUse
import KE.KDictDisplayH
import PyProof.Rows.TupDisplay
import KE.SortData
import KE.SortLaws
import PyProof.DictMoreH
import PyProof.DictRoadsH
import HandS.Defaults
import PySem.Challenge.RW_movingpages_k36_normal_tokens
set_option Elab.async false
set_option linter.all false
set_option maxRecDepth 100000
set_option maxHeartbeats 4000000
/-! Promises of defs that are called while no repr is under way: then repr of data is its text. -/
namespace Gd
open PySem PySem.Spec PyProof.Rows L2
structure FnG (P : Program) (w : World) (K : PySem.W.Frag) (mg : Str → Option Value) (base : Heap) (k : Nat) (f : Addr) (fd : FuncData) (ps : List Str) (sp : Sp) : Prop where
  len : ∀ vs H Q E, sp vs H Q E → vs.length = ps.length
  go : ∀ {A : Around} {outer : List Env} {s : Shared} {H : Hp} {args : Args} {us : List Value} {vs : List V} {Q : VK} {E : XK}, A.guards = some [] → Room k A →
    Env0 P w K mg base A outer s H → BindsTo s fd args (ps.zip us) → Vals vs us → sp vs H Q E → codeAny (model P w) A (.call (.ref f) args) (CR CX0 outer P w H s Q E) s
section
variable {P : Program} {w : World} {K : PySem.W.Frag} {mg : Str → Option Value} {base : Heap} {k : Nat} {f : Addr} {fd : FuncData} {ps : List Str} {sp : Sp}
theorem FnG.up {j : Nat} (G : FnG P w K mg base j f fd ps sp) (h : j ≤ k) : FnG P w K mg base k f fd ps sp :=
  ⟨G.len, fun g r e b v q => G.go g (r.mono h) e b v q⟩
/-- a def's body, walked while no repr is under way -/
theorem okG {x qual : Str} {st : Stmt} {N : List Str} (F : Fun K x qual st f fd) (S : FnScope N ps (defScope st)) (len : ∀ vs H Q E, sp vs H Q E → vs.length = ps.length)
    (B : ∀ (cdv : Value) (A : Around) (outer : List Env) (s : Shared) (H : Hp) (vs : List V) (Q : VK) (E : XK), fd.code = cdv → A.guards = some [] → Room k (A.deeper (envOfC qual (defScope st) s.heap.objs.size f cdv)) → sp vs H Q E →
      ∃ t, PSs (cxOf CX0 P w K mg base N qual (defScope st) f cdv A outer s H E).nox (defBody st) t ∧ t { nx := fun _ H' => Q .non H', rt := Q } (start N vs) H) : FnG P w K mg base (k + 1) f fd ps sp := by
  obtain ⟨oc, od, kV, doc, pm, an, cdv, ct, osl, rfl, lk, hcd⟩ := F.ex
  refine ⟨len, fun {A outer s H args us vs Q E} g room env0 bt rel want => ?_⟩
  have kin : K.In s.heap := env0.mod.kin.keeps fun b o q => (env0.bs b o q).1
  have nol : s.heap.NoLimit := env0.mod.nolimit.keeps fun b o q => (env0.bs b o q).1
  refine codeAny_call_function room.depth (kin _ _ lk) rfl S.co S.gen rfl (PySem.W.codeRec_of kin hcd) (bt _ _ _ _ ?_)
  refine wpAny_newFunctionEnv_cells S.kind ?_ fun env ee s1 inn => ?_
  · rintro ⟨n, v⟩ hy
    refine (S.par n (List.of_mem_zip hy).1).elim Or.inl fun q => Or.inr ⟨q, ?_⟩
    exact PySem.W.cellsFrom_some _ _ _ (Or.inl q)
  subst ee
  refine ⟨nol.keeps inn.toInCall.keep, codeAny_func ?_⟩
  obtain ⟨t, ht, hq⟩ := B cdv A outer s H vs Q E rfl g (room.deeper _) want
  have I0 := inv_start (CX := CX0) (E := E) S room.hd env0 (len _ _ _ _ want) rel inn
  refine wpAny_mono (ht.nox.run [] s1 (start N vs) H _ I0 hq) (fun fl s' z => ?_) fun _ _ z => z
  cases fl with
  | ret u =>
    obtain ⟨v, σ', H', J, rv, q⟩ := z
    exact ⟨v, H', J.os, J.bare, J.base, J.hok, rv, q⟩
  | next =>
    obtain ⟨σ', H', J, q⟩ := z
    exact ⟨V.non, H', J.os, J.bare, J.base, J.hok, rfl, q⟩
  | brk => exact z.elim fun _ z => z.elim fun _ z => z.2.elim
  | cont => exact z.elim fun _ z => z.elim fun _ z => z.2.elim
end
section
variable {X : Cx} {k : Nat} {f : Addr} {fd : FuncData} {ps : List Str} {sp : Sp} {x : Str} {p pos : Pos} {e : Expr} {es : List Expr} {t : TA}
/-- f(e, ..) of such a def -/
theorem pe_callG (F : FnG X.prog X.w X.K X.mg X.base k f fd ps sp) (g : X.A.guards = some []) (room : Room k X.A) (hg : Gl X x) (hm : X.mg x = some (.ref f)) (hk : PySem.W.keepIn X.K (.ref f) = true) (hb : Binds X.K fd ps [])
    (ha : PA X (e :: es) t) (hdb : (x == ("__debug__" : Str)) = false := by decide) (he : starEach (e :: es) X.env = (false, eval e X.env) :: starEach es X.env := by rfl) (hpl : (backTo pos (starEach es X.env)).any (·.1) = false := by rfl) :
    PE X (.Call (.Name x p) (e :: es) [] pos) (tCall sp [] E0 t) := ⟨fun pins s σ H Q I h => by
  refine wpAny_Call_Name_kw (ld_glob I hg hm ?_ hdb)
  refine PySem.W.callWith_K (h₀ := X.base) I.ok.mod.kin hk (thn (ha.run pos pins s σ H _ I h) ?_) he hpl
  rintro us s1 ⟨vs, H1, I1, r, q⟩
  refine ⟨I1.kIn, ?_⟩
  have r0 : Vals (vs ++ []) (us ++ []) := r.append .nil
  have z := F.len _ _ _ _ q
  rw [r0.length] at z
  refine wpAny_call (codeAny_mono (F.go g room I1.env0 (hb s1 us I1.kIn z) r0 q) fun res s' hq => ?_)
  cases res with
  | error _ => exact False.elim hq
  | ok fl =>
    cases fl with
    | ret u => exact I1.after hq
    | next => exact False.elim hq
    | brk => exact False.elim hq
    | cont => exact False.elim hq⟩
end
/-- repr(x) of data without dicts -/
def rShow (K : PySem.W.Frag) : List V → Hp → VK → Prop := fun xs H Q => ∃ x d, xs = [x] ∧ Dp K H x d ∧ d.showable = true ∧ d.hasDict = false ∧ d.depth ≤ 60 ∧ d.shown.length ≤ sizeLine ∧ Q (.str d.shown) H
theorem call_show {X : Cx} (g : X.A.guards = some []) (hu : X.A.units + 64 < cLine) : CallR X (.builtin "repr") (rShow X.K) := by
  rintro pins s σ H xs us Q I r ⟨x, d, rfl, hd, hs, hn, hz, hl, q⟩
  obtain ⟨u, rfl, rx⟩ := vals1 r
  obtain ⟨as, rd⟩ := Dp.reads I d x u hd rx
  have keep : ∀ (h' : Heap) (tk : Nat), (∀ b o, s.heap.get? b = some o → h'.get? b = some o) → Inv X pins σ H { s with heap := h', toks := tk } := fun h' tk hk => I.un (Un.kept hk) (I.hok.kept hk)
  cases rd with
  | none => exact PySem.P.repr_of_none ⟨.str _, H, I.tok _, ⟨_, rfl⟩, q⟩
  | bool b => exact PySem.P.repr_of_bool ⟨.str _, H, I.tok _, ⟨_, rfl⟩, q⟩
  | int i t => exact PySem.P.repr_of_int (of_decide_eq_true hs) ⟨.str _, H, I.tok _, ⟨_, rfl⟩, q⟩
  | str x t => exact PySem.P.repr_of_str ⟨.str _, H, I.tok _, ⟨_, rfl⟩, q⟩ hl
  | list h1 h2 h3 h4 => exact repr_of_reads' (.list h1 h2 h3 h4) hs (PyData.noDict_hsm hn) g (by omega) (fun _ _ z => z) (fun h' v tk hk => ⟨.str _, H, keep h' tk hk, ⟨v, rfl⟩, q⟩) hl
  | tuple h1 h2 h3 h4 => exact repr_of_reads' (.tuple h1 h2 h3 h4) hs (PyData.noDict_hsm hn) g (by omega) (fun _ _ z => z) (fun h' v tk hk => ⟨.str _, H, keep h' tk hk, ⟨v, rfl⟩, q⟩) hl
  | dict h1 h2 h3 h4 h5 => cases hn
/-- the goal that k_head leaves, by such a promise of the law -/
theorem law_callG {P : Program} {w : World} {K : PySem.W.Frag} {mg mb : Str → Option Value} {k : Nat} {fa a : Addr} {fd : FuncData} {x : Str} {sp : Sp} {s₁ : Shared} {vs : List Value} {ns : List Int}
    (kin : K.In s₁.heap) (hns : s₁.heap.Ns mainGlobals mg) (hb : s₁.heap.Ns builtinsNs mb) (hbb : ∀ x : Str, x ≠ "__name__" → mb x = bootBuiltins x) (hlim : s₁.heap.NoLimit) (hg : s₁.gens = #[])
    (ha : s₁.heap.get? a = some { cls := .type "list", data := .seq vs.toArray }) (hi : IntsAre vs ns) (hl : ns.length ≤ sizeLine) (room : Room k callerA)
    (F : ∀ base : Heap, K.In base → base.Ns mainGlobals mg → FnG P w K mg base k fa fd [x] sp) (bind : ∀ (s : Shared) (u : Value), BindsTo s fd ⟨[u], []⟩ [(x, u)])
    (want : ∀ H : Hp, Only H → SqL K H a (ns.map V.int) → sp [.ref a] H (fun v _ => v = .bl true) fun _ _ _ => False) :
    codeAny (model P w) callerA (.call (.ref fa) ⟨[.ref a], []⟩) (fun r s' => r = .ok (.ret (.bool true)) ∧ OldK s₁.heap s'.heap ∧ s'.os = s₁.os ∧ AllBare s'.gens) s₁ := by
  have main : ∀ H : Hp, Only H → SqL K H a (ns.map V.int) → HOk P w H s₁.heap → (∀ b u, H b = some u → b = a ∧ K.lookup a = none) →
      codeAny (model P w) callerA (.call (.ref fa) ⟨[.ref a], []⟩) (fun r s' => r = .ok (.ret (.bool true)) ∧ OldK s₁.heap s'.heap ∧ s'.os = s₁.os ∧ AllBare s'.gens) s₁ := by
    intro H hO hS hok hA
    have off : ∀ {b : Addr} {o : Obj} {es : Array DictEntry} {ep : Nat}, s₁.heap.get? b = some o → o.data = .dict es ep → H b = none := by
      intro b o es ep e d
      cases q : H b with
      | none => rfl
      | some u =>
        obtain ⟨rfl, _⟩ := hA b u q
        rw [ha] at e
        cases e
        exact Data.noConfusion d
    have names : ∀ {b : Addr} {m : Str → Option Value}, s₁.heap.Ns b m → (hidT s₁.heap H).Ns b m := by
      rintro b m ⟨o, es, ep, e, d, r⟩
      exact ⟨o, es, ep, hidT_get e (off e d), d, r⟩
    have kin' : K.In (hidT s₁.heap H) := by
      intro b o e
      refine hidT_get (kin b o e) ?_
      cases q : H b with
      | none => rfl
      | some u =>
        obtain ⟨rfl, z⟩ := hA b u q
        rw [z] at e
        cases e
    obtain ⟨mc, l1, l2⟩ := hlim
    have hM : Mod K mg (hidT s₁.heap H) := ⟨kin', names hns, ⟨mb, names hb, hbb⟩, ⟨mc, names l1, l2⟩⟩
    have env0 : Env0 P w K mg (hidT s₁.heap H) callerA [] s₁ H :=
      ⟨rfl, hM, fun b o e => of_hidT e, Nat.le_of_eq (hidT_size _ _), trivial, fun b hb => (nomatch hb), hok, .of_eq hg⟩
    refine codeAny_mono ((F _ kin' (names hns)).go (us := [.ref a]) (vs := [.ref a]) rfl room env0 (bind s₁ (.ref a)) (.cons rfl .nil) (want H hO hS)) fun r s' h => ?_
    cases r with
    | error e => exact h.elim
    | ok fl =>
      cases fl with
      | next => exact False.elim h
      | brk => exact False.elim h
      | cont => exact False.elim h
      | ret u =>
        obtain ⟨v, H', os, bare, un, hok', r', q⟩ := h
        have q' : v = .bl true := q
        subst q'
        obtain rfl : u = Value.bool true := r'
        refine ⟨rfl, OldK.of_keep fun b o e => ?_, os, bare⟩
        rcases hO b with z | ⟨ob, xs, z⟩
        · exact un.keep b o e z (fun y => (nomatch y)) (fun y => (nomatch y))
        · obtain ⟨e1, _⟩ := hok b _ z
          obtain ⟨e2, _⟩ := hok' b _ (un.frzs b ob _ z)
          rw [e] at e1
          cases e1
          exact e2
  have lenV := hi.length
  have rv := vals_ints hi
  cases hk : K.lookup a with
  | some o =>
    have e := kin a o hk
    rw [ha] at e
    cases e
    refine main (fun _ => none) (fun _ => .inl rfl) (.inr ⟨_, vs.toArray, _, hk, rfl, rfl, rfl, ?_, ?_⟩) (fun b u z => (nomatch z)) (fun b u z => (nomatch z))
    · rw [List.size_toArray, lenV]
      exact hl
    · simpa using rv
  | none =>
    have at_a : ∀ (b : Addr) (u : HO), (if b = a then some (HO.frz { cls := .type "list", data := .seq vs.toArray } (.lst (ns.map V.int))) else none) = some u → b = a ∧ u = HO.frz { cls := .type "list", data := .seq vs.toArray } (.lst (ns.map V.int)) := by
      intro b u z
      split at z
      · next e => exact ⟨e, (Option.some.inj z).symm⟩
      · cases z
    refine main (fun b => if b = a then some (.frz { cls := .type "list", data := .seq vs.toArray } (.lst (ns.map V.int))) else none) (fun b => ?_) (.inl (.inr ⟨_, if_pos rfl⟩)) (fun b u z => ?_) (fun b u z => ⟨(at_a b u z).1, hk⟩)
    · by_cases hb : b = a
      · exact .inr ⟨_, _, if_pos hb⟩
      · exact .inl (if_neg hb)
    · obtain ⟨rfl, rfl⟩ := at_a b u z
      exact ⟨ha, by rw [List.length_map]; exact hl, vs, _, rv, ha⟩
theorem walkG {l : PySem.W.OpenLaw} {n k : Nat} {q : Program} {loose : List Str} {XP : (Str → Option Value) → Heap → Prop} {YP : World → Heap → Prop} {d : DefRec} {K : Params → PySem.W.Frag} {sp : PySem.W.Frag → Sp} {x : Str}
    (hn : l.most = some n) (hn2 : n ≤ sizeLine) (hdf : d.params.defaults = []) (room : Room k callerA) (hY : ∀ (w : World) (h : Heap), YP w h → (K w.params).In h)
    (F : ∀ (w : World) (mg : Str → Option Value) (fa : Addr) (h : Heap), (K w.params).In h → h.Ns mainGlobals mg → mg d.name = some (.ref fa) → ∃ fd : FuncData, (∀ (s : Shared) (u : Value), BindsTo s fd ⟨[u], []⟩ [(x, u)]) ∧
        ∀ base : Heap, (K w.params).In base → base.Ns mainGlobals mg → FnG l.prog w (K w.params) mg base k fa fd [x] (sp (K w.params)))
    (want : ∀ (K : PySem.W.Frag) (H : Hp) (a : Addr) (ns : List Int), ns.length ≤ n → Only H → SqL K H a (ns.map V.int) → sp K [.ref a] H (fun v _ => v = .bl true) fun _ _ _ => False) :
    PySem.W.WalkO q loose XP YP l.row.toRowW d [] (fun f vs => PySem.call f vs) :=
  Att.attach_call hn hdf fun w s₀ s₁ mg mb fa o pm cd doc a vs ns G Y ho hd hcd hmg hobj hints hlen hg => by
    obtain ⟨fd, hb, hF⟩ := F w mg fa _ (hY w _ Y) G.T.g hmg
    exact law_callG (hY w _ Y) G.T.g G.T.b G.T.builtins G.T.nolimit hg hobj hints (Nat.le_trans hlen hn2) room hF hb fun H hO hS => want _ H a ns hlen hO hS
end Gd
namespace Q
open PySem PySem.Spec PyProof.Rows L2
/-- tuples and locked things stay -/
def Grow (H H' : Hp) : Prop := (∀ b xs, H b = some (.tup xs) → H' b = some (.tup xs)) ∧ (∀ b o u, H b = some (.frz o u) → H' b = some (.frz o u)) ∧ (∀ b fs, H b = some (.xd fs) → H' b = some (.xd fs)) ∧ ∀ b q, H b = some (LamX.CodeO b q) → H' b = some (LamX.CodeO b q)
theorem Grow.refl (H : Hp) : Grow H H := ⟨fun _ _ h => h, fun _ _ _ h => h, fun _ _ h => h, fun _ _ h => h⟩
theorem Grow.trans {H H1 H2 : Hp} (a : Grow H H1) (b : Grow H1 H2) : Grow H H2 := ⟨fun c xs h => b.1 c xs (a.1 c xs h), fun c o u h => b.2.1 c o u (a.2.1 c o u h), fun c fs h => b.2.2.1 c fs (a.2.2.1 c fs h), fun c p h => b.2.2.2 c p (a.2.2.2 c p h)⟩
theorem Grow.same {H H' : Hp} (s : Same H H') : Grow H H' := ⟨fun b _ h => s b _ h, fun b _ _ h => s b _ h, fun b _ h => s b _ h, fun b _ h => s b _ h⟩
/-- neither a table nor a code object -/
def NoTab : HO → Prop
  | .tbl _ => False
  | .ext φ => ∀ p q, HO.ext φ ≠ LamX.CodeO p q
  | _ => True
theorem noTab_code {h : HO} (n : NoTab h) {p : Addr} (q : Str) : h ≠ LamX.CodeO p q := fun z => by
  cases h with
  | ext φ => exact n p q z
  | _ => exact nomatch z
theorem grow_upd {H : Hp} {p : Addr} {h u : HO} (e : H p = some h) (m : Mut (some h)) (nt : ∀ q, h ≠ LamX.CodeO p q) : Grow H (upd H p u) := by
  refine ⟨fun b xs q => ?_, fun b o w q => ?_, fun b fs q => ?_, fun b w q => ?_⟩
  · rw [upd_ne fun z => ?_]
    · exact q
    · rw [z, e] at q
      cases q
      exact m
  · rw [upd_ne fun z => ?_]
    · exact q
    · rw [z, e] at q
      cases q
      exact m
  · rw [upd_ne fun z => ?_]
    · exact q
    · rw [z, e] at q
      cases q
      exact m
  · rw [upd_ne fun z => ?_]
    · exact q
    · rw [z, e] at q
      exact nt _ (Option.some.inj q)
/-- the tables of code objects that lambdas are noted in, and what else is to be known as long as things stay -/
class Tbl where
  T : List (Addr × Str)
  G : Hp → Prop
  up : ∀ H H', Grow H H' → G H → G H'
  /-- the hash of a tuple of ints and texts -/
  hs : List Key → Int
instance (priority := low) noTbl : Tbl := ⟨[], fun _ => True, fun _ _ _ _ => trivial, fun _ => 0⟩
variable [Tbl]
/-! # A layer of data: what slots hold as trees, and what a piece of the text makes of them -/
abbrev D := PyData
/-- a test that the kernel never runs -/
noncomputable def cb (p : Prop) : Bool := @decide p (Classical.propDecidable p)
theorem cb_true {p : Prop} (h : p) : cb p = true := @decide_eq_true p (Classical.propDecidable p) h
@[simp] theorem cb_T : cb True = true := cb_true trivial
theorem of_cb {p : Prop} (h : cb p = true) : p := @of_decide_eq_true p (Classical.propDecidable p) h
def keyD : Key → D
  | .inl i => .int i
  | .inr x => .str x
/-- a list that nothing can change: locked -/
def LkL (_ : PySem.W.Frag) (H : Hp) (a : Addr) (xs : List V) : Prop := ∃ o, H a = some (.frz o (.lst xs))
/-- a tuple that has no fields of its own -/
def NdT (H : Hp) (a : Addr) (xs : List V) : Prop := ∃ o : Obj, H a = some (.frz o (.tup xs)) ∧ o.dict = none
theorem NdT.sq {K : PySem.W.Frag} {H : Hp} {a : Addr} {xs : List V} (h : NdT H a xs) : SqT K H a xs := by
  obtain ⟨o, h, _⟩ := h
  exact .inl (.inr ⟨o, h⟩)
/-- the script: locked, or written -/
def ScR (K : PySem.W.Frag) (H : Hp) (a : Addr) (ns : List Int) : Prop := (∃ o, H a = some (.frz o (.lst (ns.map V.int)))) ∨ SqL K (fun _ => none) a (ns.map V.int)
theorem ScR.sq {K : PySem.W.Frag} {H : Hp} {a : Addr} {ns : List Int} (h : ScR K H a ns) : SqL K H a (ns.map V.int) := by
  rcases h with h | (h | ⟨o, h⟩) | h
  · exact .inl (.inr h)
  · cases h
  · cases h
  · exact .inr h
def scrD (ns : List Int) : D := .dict [(.none, .list (ns.map PyData.int))]
theorem LkL.sq {K : PySem.W.Frag} {H : Hp} {a : Addr} {xs : List V} (h : LkL K H a xs) : SqL K H a xs := .inl (.inr h)
mutual
inductive Im (K : PySem.W.Frag) (H : Hp) : V → D → Prop
  | non : Im K H .non .none
  | bl (b : Bool) : Im K H (.bl b) (.bool b)
  | int (i : Int) : Im K H (.int i) (.int i)
  | str (x : Str) : Im K H (.str x) (.str x)
  | tup {a : Addr} {xs : List V} {ds : List D} : NdT H a xs → ImL K H xs ds → Im K H (.ref a) (.tuple ds)
  | lst {a : Addr} {xs : List V} {ds : List D} : LkL K H a xs → ImL K H xs ds → Im K H (.ref a) (.list ds)
  | dic {a : Addr} {o : Obj} {kvs : List (Key × V)} {ds : List (D × D)} : H a = some (.frz o (.dK kvs)) → ImKV K H kvs ds → Im K H (.ref a) (.dict ds)
  | scr {a : Addr} {ns : List Int} : ScR K H a ns → Im K H (.ref a) (.dict [(.none, .list (ns.map PyData.int))])
  | prm {t : Addr} {x y : V} {a b : D} : SqT K H t [x, y] → Im K H x a → Im K H y b → Im K H (.ref t) (.dict [(.bool true, a), (.bool false, b)])
inductive ImL (K : PySem.W.Frag) (H : Hp) : List V → List D → Prop
  | nil : ImL K H [] []
  | cons {v : V} {vs : List V} {d : D} {ds : List D} : Im K H v d → ImL K H vs ds → ImL K H (v :: vs) (d :: ds)
inductive ImKV (K : PySem.W.Frag) (H : Hp) : List (Key × V) → List (D × D) → Prop
  | nil : ImKV K H [] []
  | cons {k : Key} {v : V} {r : List (Key × V)} {d : D} {ds : List (D × D)} : Im K H v d → ImKV K H r ds → ImKV K H ((k, v) :: r) ((keyD k, d) :: ds)
end
/-- the tables are in order -/
def TabOk (H : Hp) : Prop := LamX.Tabs Tbl.T H ∧ Tbl.G H
theorem TabOk.same {H H' : Hp} (s : Same H H') (t : TabOk H) : TabOk H' := ⟨LamX.Tabs.ext t.1 s, Tbl.up _ _ (Grow.same s) t.2⟩
theorem TabOk.updX {H : Hp} {p : Addr} {h o : HO} (e : H p = some h) (mu : Mut (some h)) (m1 : ∀ ps, h ≠ .tbl ps) (m2 : ∀ q, h ≠ LamX.CodeO p q) (t : TabOk H) : TabOk (L2.upd H p o) := ⟨fun q hq => by
  obtain ⟨ps, h1, h2, h3⟩ := t.1 q hq
  refine ⟨ps, ?_, h2, fun pos cv hc => ?_⟩
  · rw [upd_ne fun z => ?_]
    · exact h1
    · rw [z, e] at h1
      exact m1 _ (Option.some.inj h1)
  · obtain ⟨c, e1, e2⟩ := h3 pos cv hc
    refine ⟨c, e1, ?_⟩
    rw [upd_ne fun z => ?_]
    · exact e2
    · rw [z, e] at e2
      exact m2 _ (Option.some.inj e2), Tbl.up _ _ (grow_upd e mu m2) t.2⟩
theorem TabOk.upd {H : Hp} {p : Addr} {h o : HO} (e : H p = some h) (mu : Mut (some h)) (m : NoTab h) (t : TabOk H) : TabOk (L2.upd H p o) :=
  t.updX e mu (fun ps z => by
    rw [z] at m
    exact m) (noTab_code m)
theorem Grow.t {K : PySem.W.Frag} {H H' : Hp} (g : Grow H H') {a : Addr} {xs : List V} (h : SqT K H a xs) : SqT K H' a xs := by
  rcases h with (h | ⟨o, h⟩) | h
  · exact .inl (.inl (g.1 _ _ h))
  · exact .inl (.inr ⟨o, g.2.1 _ _ _ h⟩)
  · exact .inr h
theorem Grow.n {H H' : Hp} (g : Grow H H') {a : Addr} {xs : List V} (h : NdT H a xs) : NdT H' a xs := by
  obtain ⟨o, h, z⟩ := h
  exact ⟨o, g.2.1 _ _ _ h, z⟩
theorem Grow.l {K : PySem.W.Frag} {H H' : Hp} (g : Grow H H') {a : Addr} {xs : List V} (h : LkL K H a xs) : LkL K H' a xs := by
  obtain ⟨o, h⟩ := h
  exact ⟨o, g.2.1 _ _ _ h⟩
theorem Grow.s {K : PySem.W.Frag} {H H' : Hp} (g : Grow H H') {a : Addr} {ns : List Int} (h : ScR K H a ns) : ScR K H' a ns := by
  rcases h with ⟨o, h⟩ | h
  · exact .inl ⟨o, g.2.1 _ _ _ h⟩
  · exact .inr h
section
variable {K : PySem.W.Frag} {H H' : Hp}
mutual
theorem Im.grow (g : Grow H H') : ∀ {v : V} (d : D), Im K H v d → Im K H' v d
  | _, .none, .non => .non
  | _, .bool b, .bl _ => .bl b
  | _, .int i, .int _ => .int i
  | _, .str x, .str _ => .str x
  | _, .tuple ds, .tup h r => .tup (g.n h) (ImL.grow g ds r)
  | _, .list ds, .lst h r => .lst (g.l h) (ImL.grow g ds r)
  | _, .dict ds, .dic h r => .dic (g.2.1 _ _ _ h) (ImKV.grow g ds r)
  | _, .dict _, .scr h => .scr (g.s h)
  | _, .dict [(.bool true, a), (.bool false, b)], .prm h h1 h2 => .prm (g.t h) (Im.grow g a h1) (Im.grow g b h2)
theorem ImL.grow (g : Grow H H') : ∀ {vs : List V} (ds : List D), ImL K H vs ds → ImL K H' vs ds
  | _, [], .nil => .nil
  | _, d :: ds, .cons h r => .cons (Im.grow g d h) (ImL.grow g ds r)
theorem ImKV.grow (g : Grow H H') : ∀ {kvs : List (Key × V)} (ds : List (D × D)), ImKV K H kvs ds → ImKV K H' kvs ds
  | _, [], .nil => .nil
  | _, (_, d) :: ds, .cons h r => .cons (Im.grow g d h) (ImKV.grow g ds r)
end
theorem ImL.len : ∀ {vs : List V} {ds : List D}, ImL K H vs ds → vs.length = ds.length
  | _, _, .nil => rfl
  | _, _, .cons _ r => by rw [List.length_cons, List.length_cons, ImL.len r]
theorem ImL.append : ∀ {xs ys : List V} {ds es : List D}, ImL K H xs ds → ImL K H ys es → ImL K H (xs ++ ys) (ds ++ es)
  | _, _, _, _, .nil, s => s
  | _, _, _, _, .cons h r, s => .cons h (ImL.append r s)
theorem ImL.get : ∀ {xs : List V} {ds : List D} {i : Nat} {x : V}, ImL K H xs ds → xs[i]? = some x → ∃ d, ds[i]? = some d ∧ Im K H x d
  | _, _, 0, _, .cons h _, g => by
    cases (Option.some.inj g)
    exact ⟨_, rfl, h⟩
  | _, _, i + 1, _, .cons _ r, g => ImL.get (i := i) r g
theorem ImL.at : ∀ {xs : List V} {ds : List D} {i : Nat} {d : D}, ImL K H xs ds → ds[i]? = some d → ∃ x, xs[i]? = some x ∧ Im K H x d
  | _, _, 0, _, .cons h _, g => by
    cases (Option.some.inj g)
    exact ⟨_, rfl, h⟩
  | _, _, i + 1, _, .cons _ r, g => ImL.at (i := i) r g
theorem ImL.take : ∀ {xs : List V} {ds : List D} (n : Nat), ImL K H xs ds → ImL K H (xs.take n) (ds.take n)
  | _, _, 0, _ => .nil
  | _, _, _ + 1, .nil => .nil
  | _, _, n + 1, .cons h r => .cons h (ImL.take n r)
theorem ImL.drop : ∀ {xs : List V} {ds : List D} (n : Nat), ImL K H xs ds → ImL K H (xs.drop n) (ds.drop n)
  | _, _, 0, r => r
  | _, _, _ + 1, .nil => .nil
  | _, _, n + 1, .cons _ r => ImL.drop n r
theorem ImL.reverse : ∀ {xs : List V} {ds : List D}, ImL K H xs ds → ImL K H xs.reverse ds.reverse
  | _, _, .nil => .nil
  | _, _, .cons h r => by
    rw [List.reverse_cons, List.reverse_cons]
    exact ImL.append (ImL.reverse r) (.cons h .nil)
theorem ImL.strs : ∀ {xs : List V} {ns : List Str}, ImL K H xs (ns.map PyData.str) → xs = ns.map V.str
  | _, [], .nil => rfl
  | _, n :: ns, .cons h r => by
    cases h
    rw [List.map_cons, ImL.strs r]
theorem ImL.of_strs : ∀ (ns : List Str), ImL K H (ns.map V.str) (ns.map PyData.str)
  | [] => .nil
  | n :: ns => .cons (.str n) (ImL.of_strs ns)
theorem Im.same (s : Same H H') {v : V} {d : D} (h : Im K H v d) : Im K H' v d := Im.grow (Grow.same s) d h
theorem ImL.same (s : Same H H') {vs : List V} {ds : List D} (h : ImL K H vs ds) : ImL K H' vs ds := ImL.grow (Grow.same s) ds h
end
/-- what may be read as d just now: data, or a thing of a slot's own -/
inductive Vw (K : PySem.W.Frag) (H : Hp) : V → D → Prop
  | im {v : V} {d : D} : Im K H v d → Vw K H v d
  | lst {p : Addr} {vs : List V} {ds : List D} : H p = some (.lst vs) → ImL K H vs ds → Vw K H (.ref p) (.list ds)
  | dic {p : Addr} {kvs : List (Key × V)} {ds : List (D × D)} : H p = some (.dK kvs) → ImKV K H kvs ds → Vw K H (.ref p) (.dict ds)
inductive VwL (K : PySem.W.Frag) (H : Hp) : List V → List D → Prop
  | nil : VwL K H [] []
  | cons {v : V} {vs : List V} {d : D} {ds : List D} : Vw K H v d → VwL K H vs ds → VwL K H (v :: vs) (d :: ds)
section
variable {K : PySem.W.Frag} {H : Hp} {v : V}
theorem Vw.list {ds : List D} (h : Vw K H v (.list ds)) : ∃ a xs, v = .ref a ∧ SqL K H a xs ∧ ImL K H xs ds := by
  cases h with
  | im h => cases h with
    | lst h r => exact ⟨_, _, rfl, h.sq, r⟩
  | lst h r => exact ⟨_, _, rfl, .inl (.inl h), r⟩
theorem Vw.tuple {ds : List D} (h : Vw K H v (.tuple ds)) : ∃ a xs, v = .ref a ∧ SqT K H a xs ∧ ImL K H xs ds := by
  cases h with
  | im h => cases h with
    | tup h r => exact ⟨_, _, rfl, h.sq, r⟩
theorem Vw.tupleN {ds : List D} (h : Vw K H v (.tuple ds)) : ∃ a xs, v = .ref a ∧ NdT H a xs ∧ ImL K H xs ds := by
  cases h with
  | im h => cases h with
    | tup h r => exact ⟨_, _, rfl, h, r⟩
theorem Vw.str {x : Str} (h : Vw K H v (.str x)) : v = .str x := by
  cases h with
  | im h => cases h; rfl
theorem Vw.int {i : Int} (h : Vw K H v (.int i)) : v = .int i := by
  cases h with
  | im h => cases h; rfl
theorem Vw.bl {b : Bool} (h : Vw K H v (.bool b)) : v = .bl b := by
  cases h with
  | im h => cases h; rfl
theorem Vw.non (h : Vw K H v .none) : v = .non := by
  cases h with
  | im h => cases h; rfl
end
/-- a thing of a slot's own: a list, a dict; a dict whose keys are tuples (that is never locked) -/
inductive Ob
  | lst (ds : List D)
  | dk (kvs : List (D × D))
  | dt (kvs : List (D × D))
@[simp] def Ob.d : Ob → D
  | .lst ds => .list ds
  | .dk kvs => .dict kvs
  | .dt _ => .none
/-- may it be locked -/
@[simp] def Ob.nd : Ob → Bool
  | .dt _ => false
  | _ => true
/-! ### dicts whose keys are tuples -/
/-- the dict at a holds xs: the key, where it stands, what it has -/
def TDp (hs : List Key → Int) (a : Addr) (xs : List (List Key × Addr × Value)) (h : Heap) : Prop :=
  xs.length ≤ sizeLine ∧ (a == sysModules) = false ∧ ∃ o es ep, h.get? a = some o ∧ o.ExactDict ∧ o.data = .dict es ep ∧ es.toList = xs.map (fun x => (⟨hs x.1, .ref x.2.1, x.2.2⟩ : DictEntry)) ∧ (xs.map (·.1)).Nodup
theorem td_code {hs : List Key → Int} {a : Addr} {xs : List (List Key × Addr × Value)} (p : Addr) (q : Str) : HO.ext (TDp hs a xs) ≠ LamX.CodeO p q := fun z => by
  unfold LamX.CodeO at z
  injection z with z
  have z := congrFun z ⟨Array.replicate (p + 1) { cls := .none, data := .fields #[.none, .str q 0] }, {}⟩
  have t : ∀ b : Addr, b < p + 1 → (⟨Array.replicate (p + 1) { cls := .none, data := .fields #[.none, .str q 0] }, {}⟩ : Heap).get? b = some { cls := .none, data := .fields #[.none, .str q 0] } := fun b hb => by
    unfold Heap.get?
    simp [hb]
  have f : TDp hs a xs ⟨Array.replicate (p + 1) { cls := .none, data := .fields #[.none, .str q 0] }, {}⟩ := by
    rw [z]
    exact ⟨_, _, _, t p (Nat.lt_succ_self p), rfl, rfl⟩
  obtain ⟨_, _, o, es, ep, e, _, ed, _⟩ := f
  have lt := Heap.lt_size e
  rw [Array.size_replicate] at lt
  rw [t a lt] at e
  cases e
  cases ed
inductive ImT (K : PySem.W.Frag) (H : Hp) : List (List Key × Addr × Value) → List (D × D) → Prop
  | nil : ImT K H [] []
  | cons {ks : List Key} {b : Addr} {u : Value} {v : V} {d : D} {xs : List (List Key × Addr × Value)} {ds : List (D × D)} : NdT H b (ks.map kV) → RelV v u → Im K H v d → ImT K H xs ds → ImT K H ((ks, b, u) :: xs) ((.tuple (ks.map keyD), d) :: ds)
theorem ImT.grow {K : PySem.W.Frag} {H H' : Hp} (g : Grow H H') : ∀ {xs : List (List Key × Addr × Value)} {ds : List (D × D)}, ImT K H xs ds → ImT K H' xs ds
  | _, _, .nil => .nil
  | _, _, .cons h r i t => .cons (g.n h) r (i.grow g) (ImT.grow g t)
inductive ObRh (hs : List Key → Int) (K : PySem.W.Frag) (H : Hp) : HO → Ob → Prop
  | lst {vs : List V} {ds : List D} : ImL K H vs ds → ObRh hs K H (.lst vs) (.lst ds)
  | dk {kvs : List (Key × V)} {ds : List (D × D)} : ImKV K H kvs ds → ObRh hs K H (.dK kvs) (.dk ds)
  | dt {a : Addr} {xs : List (List Key × Addr × Value)} {ds : List (D × D)} : ImT K H xs ds → ObRh hs K H (.ext (TDp hs a xs)) (.dt ds)
abbrev ObR (K : PySem.W.Frag) (H : Hp) : HO → Ob → Prop := ObRh Tbl.hs K H
theorem ObRh.grow {hs : List Key → Int} {K : PySem.W.Frag} {H H' : Hp} (g : Grow H H') {h : HO} {o : Ob} (x : ObRh hs K H h o) : ObRh hs K H' h o := by
  cases x with
  | lst r => exact .lst (r.grow g)
  | dk r => exact .dk (r.grow g)
  | dt r => exact .dt (r.grow g)
theorem ObR.grow {K : PySem.W.Frag} {H H' : Hp} (g : Grow H H') {h : HO} {o : Ob} (x : ObR K H h o) : ObR K H' h o := ObRh.grow g x
theorem ObR.noTab {K : PySem.W.Frag} {H : Hp} {h : HO} {o : Ob} (x : ObR K H h o) : NoTab h := by
  cases x with
  | lst _ => trivial
  | dk _ => trivial
  | dt _ => exact td_code
theorem ObR.no_tbl {K : PySem.W.Frag} {H : Hp} {h : HO} {o : Ob} (x : ObR K H h o) {ps : Array Value} (e : h = .tbl ps) : False := by
  subst e
  cases x
theorem ObR.mut {K : PySem.W.Frag} {H : Hp} {h : HO} {o : Ob} (x : ObR K H h o) : Mut (some h) := by
  cases x <;> trivial
inductive Sl
  | no
  | dat (d : D)
  | own (o : Ob)
  /-- a caught exception: its class, its field, what the field holds -/
  | exc (c f : Str) (d : D)
/-- a caught exception stands at a -/
def ExcA (K : PySem.W.Frag) (H : Hp) (a : Addr) (c f : Str) (d : D) : Prop :=
  ∃ (dd C : Addr) (oe : Obj) (u : HO) (v : V), H a = some (.frz oe u) ∧ oe.cls = .ref C ∧ oe.dict = some dd ∧ (∃ vs, oe.data = .fields vs) ∧ H dd = some (.xd [(f, v)]) ∧ PySem.W.nsIn K mainGlobals c = some (some (.ref C)) ∧ Im K H v d
theorem ExcA.grow {K : PySem.W.Frag} {H H' : Hp} (g : Grow H H') {a : Addr} {c f : Str} {d : D} (x : ExcA K H a c f d) : ExcA K H' a c f d := by
  obtain ⟨dd, C, oe, u, v, h1, h2, h3, h4, h5, h6, h7⟩ := x
  exact ⟨dd, C, oe, u, v, g.2.1 _ _ _ h1, h2, h3, h4, g.2.2.1 _ _ h5, h6, h7.grow g⟩
/-- a lambda that was handed in stands at a: -/
def ThkA (a : Addr) (c : Str) (d : D) : Prop := c = "" ∧ d = .dict [(.tuple [], .int ((a : Nat) : Int))]
def ExcAt (K : PySem.W.Frag) (H : Hp) (a : Addr) (c f : Str) (d : D) : Prop := ExcA K H a c f d ∨ ThkA a c d
theorem ExcAt.grow {K : PySem.W.Frag} {H H' : Hp} (g : Grow H H') {a : Addr} {c f : Str} {d : D} (x : ExcAt K H a c f d) : ExcAt K H' a c f d := by
  rcases x with x | x
  · exact .inl (x.grow g)
  · exact .inr x
theorem ExcAt.err {K : PySem.W.Frag} {H : Hp} {a : Addr} {c f : Str} {d : D} (x : ExcAt K H a c f d) (h : c ≠ "") : ExcA K H a c f d := x.elim id fun y => absurd y.1 h
abbrev Ev := List Sl
abbrev St := L2.St
def Own (σ : St) (ρ : Ev) (p : Addr) : Prop := ∃ (i : Nat) (o : Ob), ρ[i]? = some (.own o) ∧ σ[i]? = some (some (.ref p))
structure Good (K : PySem.W.Frag) (H : Hp) (σ : St) (ρ : Ev) : Prop where
  len : σ.length = ρ.length
  dat : ∀ (i : Nat) (d : D), ρ[i]? = some (.dat d) → ∃ v, σ[i]? = some (some v) ∧ Im K H v d
  own : ∀ (i : Nat) (o : Ob), ρ[i]? = some (.own o) → ∃ p h, σ[i]? = some (some (.ref p)) ∧ H p = some h ∧ ObR K H h o
  dif : ∀ (i j : Nat) (o o' : Ob) (p : Addr), ρ[i]? = some (.own o) → ρ[j]? = some (.own o') → σ[i]? = some (some (.ref p)) → σ[j]? = some (some (.ref p)) → i = j
  tab : TabOk H
  exc : ∀ (i : Nat) (c f : Str) (d : D), ρ[i]? = some (.exc c f d) → ∃ a, σ[i]? = some (some (.ref a)) ∧ ExcAt K H a c f d
theorem Good.at {K : PySem.W.Frag} {H : Hp} {σ : St} {ρ : Ev} (G : Good K H σ ρ) {p : Addr} (h : Own σ ρ p) : ∃ h o, H p = some h ∧ ObR K H h o := by
  obtain ⟨i, o, e1, e2⟩ := h
  obtain ⟨q, h, e3, e4, e5⟩ := G.own i o e1
  rw [e2] at e3
  cases e3
  exact ⟨h, o, e4, e5⟩
/-- from one state to another: what was there and is no slot's own is as it was -/
structure Stp (K : PySem.W.Frag) (n : Nat) (H : Hp) (σ : St) (ρ : Ev) (H' : Hp) (σ' : St) (ρ' : Ev) : Prop where
  good : Good K H' σ' ρ'
  par : ∀ i, i < n → σ'[i]? = σ[i]? ∧ ∀ o, ρ[i]? = some (Sl.own o) → ∃ o', ρ'[i]? = some (Sl.own o')
  kept : ∀ b o, H b = some o → ¬ Own σ ρ b → (∀ ps, o ≠ .tbl ps) → H' b = some o
  news : ∀ p, Own σ' ρ' p → Own σ ρ p ∨ H p = none
  live : ∀ b, H' b = none → H b = none
section
variable {K : PySem.W.Frag} {n : Nat} {H H1 H2 H' : Hp} {σ σ1 σ2 σ' : St} {ρ ρ1 ρ2 ρ' : Ev}
theorem Stp.refl (G : Good K H σ ρ) : Stp K n H σ ρ H σ ρ := ⟨G, fun _ _ => ⟨rfl, fun o h => ⟨o, h⟩⟩, fun _ _ h _ _ => h, fun _ h => .inl h, fun _ h => h⟩
theorem Stp.trans (a : Stp K n H σ ρ H1 σ1 ρ1) (b : Stp K n H1 σ1 ρ1 H2 σ2 ρ2) : Stp K n H σ ρ H2 σ2 ρ2 := by
  refine ⟨b.good, fun i hi => ⟨(b.par i hi).1.trans (a.par i hi).1, fun o h => ?_⟩, fun c o h nc nt => b.kept c o (a.kept c o h nc nt) (fun z => ?_) nt, fun p h => ?_, fun c h => a.live c (b.live c h)⟩
  · obtain ⟨o1, e1⟩ := (a.par i hi).2 o h
    exact (b.par i hi).2 o1 e1
  · rcases a.news c z with z | z
    · exact nc z
    · rw [h] at z
      cases z
  · rcases b.news p h with z | z
    · exact a.news p z
    · exact .inr (a.live p z)
theorem Stp.grow (G : Good K H σ ρ) (s : Stp K n H σ ρ H' σ' ρ') : Grow H H' := by
  refine ⟨fun b xs h => s.kept b _ h (fun z => ?_) (fun ps z => nomatch z), fun b o u h => s.kept b _ h (fun z => ?_) (fun ps z => nomatch z), fun b fs h => s.kept b _ h (fun z => ?_) (fun ps z => nomatch z), fun b q h => s.kept b _ h (fun z => ?_) (fun ps z => LamX.codeO_ne ps z)⟩
  · obtain ⟨h', o, e, r⟩ := G.at z
    rw [h] at e
    cases e
    cases r
  · obtain ⟨h', o', e, r⟩ := G.at z
    rw [h] at e
    cases e
    cases r
  · obtain ⟨h', o', e, r⟩ := G.at z
    rw [h] at e
    cases e
    cases r
  · obtain ⟨h', o', e, r⟩ := G.at z
    rw [h] at e
    exact noTab_code r.noTab q (Option.some.inj e).symm
theorem Good.grow (G : Good K H σ ρ) (g : Grow H H') (k : ∀ p o, Own σ ρ p → H p = some o → H' p = some o) (t : TabOk H → TabOk H') : Good K H' σ ρ := by
  refine ⟨G.len, fun i d e => ?_, fun i o e => ?_, G.dif, t G.tab, fun i c f d e => (G.exc i c f d e).elim fun a h => ⟨a, h.1, h.2.grow g⟩⟩
  · obtain ⟨v, e1, h⟩ := G.dat i d e
    exact ⟨v, e1, h.grow g⟩
  · obtain ⟨p, h, e1, e2, r⟩ := G.own i o e
    exact ⟨p, h, e1, k p h ⟨i, o, e, e1⟩ e2, r.grow g⟩
theorem Stp.same (G : Good K H σ ρ) (s : Same H H') : Stp K n H σ ρ H' σ ρ :=
  ⟨G.grow (Grow.same s) (fun p o _ e => s p o e) (TabOk.same s), fun _ _ => ⟨rfl, fun o h => ⟨o, h⟩⟩, fun b o h _ _ => s b o h, fun _ h => .inl h, fun b h => s.free h⟩
end
/-- what a piece gives: nothing that is known, a value, an error -/
inductive Rt (α : Type)
  | no
  | ok (a : α) (ρ : Ev)
  | ex (c : Str) (d : D) (ρ : Ev)
@[simp] def Rt.bind {α β : Type} : Rt α → (α → Ev → Rt β) → Rt β
  | .no, _ => .no
  | .ok a ρ, k => k a ρ
  | .ex c d ρ, _ => .ex c d ρ
abbrev Mo (α : Type) := Ev → Rt α
/-- a value: data, or what a slot has of its own -/
inductive R
  | d (x : D)
  | v (i : Nat)
@[simp] def Sl.ob : Sl → Option D
  | .own (.lst ds) => some (.list ds)
  | .own (.dk kvs) => some (.dict kvs)
  | _ => none
@[simp] def look (ρ : Ev) : R → Option D
  | .d x => some x
  | .v i => ρ[i]?.bind Sl.ob
inductive RR (K : PySem.W.Frag) (H : Hp) (σ : St) : V → R → Prop
  | d {v : V} {x : D} : Im K H v x → RR K H σ v (.d x)
  | v {v : V} {i : Nat} : σ[i]? = some (some v) → RR K H σ v (.v i)
inductive RRs (K : PySem.W.Frag) (H : Hp) (σ : St) : List V → List R → Prop
  | nil : RRs K H σ [] []
  | cons {v : V} {vs : List V} {r : R} {rs : List R} : RR K H σ v r → RRs K H σ vs rs → RRs K H σ (v :: vs) (r :: rs)
abbrev XW := Str → D → St → Hp → Prop
def Aft {α : Type} (K : PySem.W.Frag) (n : Nat) (W : XW) (H : Hp) (σ : St) (ρ : Ev) (r : Rt α) (Q : α → Ev → Hp → Prop) : Prop := match r with
  | .no => False
  | .ok a ρ' => ∀ H', Stp K n H σ ρ H' σ ρ' → Q a ρ' H'
  | .ex c d ρ' => ∀ H', Stp K n H σ ρ H' σ ρ' → W c d σ H'
section
variable {α β : Type} {K : PySem.W.Frag} {n : Nat} {W : XW} {H H' : Hp} {σ : St} {ρ : Ev}
theorem RR.grow (g : Grow H H') {v : V} {r : R} (x : RR K H σ v r) : RR K H' σ v r := by
  cases x with
  | d h => exact .d (h.grow g)
  | v h => exact .v h
theorem RRs.grow (g : Grow H H') : ∀ {vs : List V} {rs : List R}, RRs K H σ vs rs → RRs K H' σ vs rs
  | _, _, .nil => .nil
  | _, _, .cons h r => .cons (h.grow g) (RRs.grow g r)
theorem RRs.len : ∀ {vs : List V} {rs : List R}, RRs K H σ vs rs → vs.length = rs.length
  | _, _, .nil => rfl
  | _, _, .cons _ r => by rw [List.length_cons, List.length_cons, RRs.len r]
theorem RR.see (G : Good K H σ ρ) {v : V} {r : R} {d : D} (x : RR K H σ v r) (h : look ρ r = some d) : Vw K H v d := by
  cases x with
  | d y =>
    cases h
    exact .im y
  | @v i y =>
    have h : ρ[i]?.bind Sl.ob = some d := h
    cases e : ρ[i]? with
    | none =>
      rw [e] at h
      cases h
    | some s =>
      rw [e] at h
      cases s with
      | own o =>
        obtain ⟨p, ho, e1, e2, r⟩ := G.own i o e
        rw [y] at e1
        cases e1
        cases r with
        | lst r =>
          cases h
          exact .lst e2 r
        | dk r =>
          cases h
          exact .dic e2 r
        | dt r => cases h
      | no => cases h
      | exc _ _ _ => cases h
      | dat _ => cases h
theorem Aft.mono {r : Rt α} {Q Q' : α → Ev → Hp → Prop} (h : Aft K n W H σ ρ r Q) (q : ∀ a ρ' H', Stp K n H σ ρ H' σ ρ' → Q a ρ' H' → Q' a ρ' H') : Aft K n W H σ ρ r Q' := by
  cases r with
  | no => exact h
  | ok a ρ' => exact fun H' s => q a ρ' H' s (h H' s)
  | ex c d ρ' => exact h
theorem Aft.bind {m : Rt α} {k : α → Ev → Rt β} {Q : β → Ev → Hp → Prop} (h : Aft K n W H σ ρ (m.bind k) Q) : Aft K n W H σ ρ m fun a ρ1 H1 => Aft K n W H1 σ ρ1 (k a ρ1) Q := by
  cases m with
  | no => exact h
  | ok a ρ1 =>
    intro H1 s1
    have h : Aft K n W H σ ρ (k a ρ1) Q := h
    show Aft K n W H1 σ ρ1 (k a ρ1) Q
    generalize k a ρ1 = r at h
    cases r with
    | no => exact h
    | ok b ρ2 => exact fun H2 s2 => h H2 (s1.trans s2)
    | ex c d ρ2 => exact fun H2 s2 => h H2 (s1.trans s2)
  | ex c d ρ1 => exact h
theorem Aft.ok {a : α} {Q : α → Ev → Hp → Prop} (G : Good K H σ ρ) (h : Aft K n W H σ ρ (.ok a ρ) Q) : Q a ρ H := h H (Stp.refl G)
end
/-- the readings -/
def tX (K : PySem.W.Frag) (n : Nat) (W : XW) (m : Mo R) : TE := fun σ H Q => ∃ ρ, Good K H σ ρ ∧ Aft K n W H σ ρ (m ρ) fun r _ H' => ∀ v, RR K H' σ v r → Q v H'
def tXs (K : PySem.W.Frag) (n : Nat) (W : XW) (m : Mo (List R)) : TA := fun σ H Q => ∃ ρ, Good K H σ ρ ∧ Aft K n W H σ ρ (m ρ) fun rs _ H' => ∀ vs, RRs K H' σ vs rs → Q vs H'
def tXb (K : PySem.W.Frag) (n : Nat) (W : XW) (m : Mo Bool) : TT := fun σ H Q => ∃ ρ, Good K H σ ρ ∧ Aft K n W H σ ρ (m ρ) fun b _ H' => Q b H'
abbrev XD (X : Cx) (n : Nat) (W : XW) (e : Expr) (m : Mo R) : Prop := PE X e (tX X.K n W m)
abbrev XA (X : Cx) (n : Nat) (W : XW) (es : List Expr) (m : Mo (List R)) : Prop := PA X es (tXs X.K n W m)
abbrev XB (X : Cx) (n : Nat) (W : XW) (e : Expr) (m : Mo Bool) : Prop := PT X e (tXb X.K n W m)
section
variable {X : Cx} {n : Nat} {W : XW}
theorem weakE {e : Expr} {t t' : TE} (h : PE X e t) (q : ∀ σ H Q, t' σ H Q → t σ H Q) : PE X e t' := ⟨fun pins s σ H Q I z => h.run pins s σ H Q I (q σ H Q z)⟩
theorem weakA {e : List Expr} {t t' : TA} (h : PA X e t) (q : ∀ σ H Q, t' σ H Q → t σ H Q) : PA X e t' := ⟨fun pos pins s σ H Q I z => h.run pos pins s σ H Q I (q σ H Q z)⟩
theorem weakT {e : Expr} {t t' : TT} (h : PT X e t) (q : ∀ σ H Q, t' σ H Q → t σ H Q) : PT X e t' := ⟨fun pins s σ H Q I z => h.run pins s σ H Q I (q σ H Q z)⟩
theorem weakW {e : Expr} {t t' : TT} (h : PW X e t) (q : ∀ σ H Q, t' σ H Q → t σ H Q) : PW X e t' := ⟨fun wh pins s σ H Q I z => h.run wh pins s σ H Q I (q σ H Q z)⟩
/-- what an operation on data gives -/
@[simp] def lift (o : Option D) : Mo R := fun ρ => match o with
  | some d => .ok (.d d) ρ
  | none => .no
theorem Aft.out {K : PySem.W.Frag} {H : Hp} {σ : St} {ρ : Ev} {o : Option D} {Q : VK} (G : Good K H σ ρ) (h : Aft K n W H σ ρ (lift o ρ) fun r _ H' => ∀ v, RR K H' σ v r → Q v H') :
    ∃ d, o = some d ∧ ∀ v H', Same H H' → Im K H' v d → Q v H' := by
  cases o with
  | none => exact h.elim
  | some d => exact ⟨d, rfl, fun v H' s i => h H' (Stp.same G s) v (.d i)⟩
/-! ### names, constants -/
@[simp] def eVar (i : Nat) : Mo R := fun ρ => match ρ[i]? with
  | some (.dat d) => .ok (.d d) ρ
  | some (.own _) => .ok (.v i) ρ
  | _ => .no
theorem xd_var {i : Nat} {x : Str} {pos : Pos} (h : PE X (.Name x pos) (tVar i)) : XD X n W (.Name x pos) (eVar i) := weakE h fun σ H Q ⟨ρ, G, h⟩ => by
  unfold eVar at h
  split at h
  · next d e =>
    obtain ⟨v, e1, im⟩ := G.dat i d e
    exact ⟨v, e1, Aft.ok G h v (.d im)⟩
  · next o e =>
    obtain ⟨p, ho, e1, _⟩ := G.own i o e
    exact ⟨_, e1, Aft.ok G h _ (.v e1)⟩
  · exact h.elim
@[simp] def eC (d : D) : Mo R := fun ρ => .ok (.d d) ρ
theorem xd_c {e : Expr} {v : V} {d : D} (h : PE X e (tC v)) (i : ∀ H, Im X.K H v d) : XD X n W e (eC d) := weakE h fun σ H Q ⟨ρ, G, h⟩ => Aft.ok G h v (.d (i H))
theorem xd_int {i : Int} {j pos} : XD X n W (.Constant (.int i) j pos) (eC (.int i)) := xd_c pe_int fun _ => .int i
theorem xd_bl {b : Bool} {j pos} : XD X n W (.Constant (.bool b) j pos) (eC (.bool b)) := xd_c pe_bl fun _ => .bl b
theorem xd_non {j pos} : XD X n W (.Constant .none j pos) (eC .none) := xd_c pe_non fun _ => .non
theorem xd_str {x : Str} {j pos} : XD X n W (.Constant (.str x) j pos) (eC (.str x)) := xd_c pe_str fun _ => .str x
/-! ### arguments -/
@[simp] def eNil : Mo (List R) := fun ρ => .ok [] ρ
@[simp] def eCons (m : Mo R) (r : Mo (List R)) : Mo (List R) := fun ρ => (m ρ).bind fun x ρ1 => (r ρ1).bind fun xs ρ2 => .ok (x :: xs) ρ2
theorem xa_nil : XA X n W [] eNil := weakA pa_nil fun σ H Q ⟨ρ, G, h⟩ => Aft.ok G h [] .nil
theorem xa_cons {e : Expr} {es : List Expr} {m : Mo R} {r : Mo (List R)} (he : XD X n W e m) (hr : XA X n W es r) (hs : starEach (e :: es) X.env = (false, eval e X.env) :: starEach es X.env := by rfl) : XA X n W (e :: es) (eCons m r) :=
  weakA (pa_cons he hr hs) fun σ H Q ⟨ρ, G, h⟩ => ⟨ρ, G, (Aft.bind h).mono fun x ρ1 H1 s1 h1 v rv => ⟨ρ1, s1.good, (Aft.bind h1).mono fun xs ρ2 H2 s2 h2 vs rvs => Aft.ok s2.good h2 (v :: vs) (.cons (rv.grow (s2.grow s1.good)) rvs)⟩⟩
@[simp] def looks (ρ : Ev) : List R → Option (List D)
  | [] => some []
  | r :: rs => match look ρ r, looks ρ rs with
    | some d, some ds => some (d :: ds)
    | _, _ => none
theorem RRs.see {K : PySem.W.Frag} {H : Hp} {σ : St} {ρ : Ev} (G : Good K H σ ρ) : ∀ {vs : List V} {rs : List R} {ds : List D}, RRs K H σ vs rs → looks ρ rs = some ds → VwL K H vs ds
  | _, _, _, .nil, h => by
    cases h
    exact .nil
  | _, _, _, .cons x xs, h => by
    unfold looks at h
    split at h
    · next e1 e2 =>
      cases h
      exact .cons (x.see G e1) (RRs.see G xs e2)
    · cases h
/-! ### operations on values -/
def Op2 (K : PySem.W.Frag) (r : R2) (F : D → D → Option D) : Prop := ∀ x y a b d H Q, Vw K H x a → Vw K H y b → F a b = some d → (∀ v H', Same H H' → Im K H' v d → Q v H') → r x y H Q
def Op1 (K : PySem.W.Frag) (r : V → Hp → VK → Prop) (F : D → Option D) : Prop := ∀ x a d H Q, Vw K H x a → F a = some d → (∀ v H', Same H H' → Im K H' v d → Q v H') → r x H Q
def OpN (K : PySem.W.Frag) (r : List V → Hp → VK → Prop) (F : List D → Option D) : Prop := ∀ xs as d H Q, VwL K H xs as → F as = some d → (∀ v H', Same H H' → Im K H' v d → Q v H') → r xs H Q
@[simp] def F2 (F : D → D → Option D) (ρ : Ev) (a b : R) : Option D := match look ρ a, look ρ b with
  | some x, some y => F x y
  | _, _ => none
@[simp] def e2 (F : D → D → Option D) (f g : Mo R) : Mo R := fun ρ => (f ρ).bind fun a ρ1 => (g ρ1).bind fun b ρ2 => lift (F2 F ρ2 a b) ρ2
@[simp] def e1 (F : D → Option D) (f : Mo R) : Mo R := fun ρ => (f ρ).bind fun a ρ1 => lift ((look ρ1 a).bind F) ρ1
@[simp] def eN (F : List D → Option D) (f : Mo (List R)) : Mo R := fun ρ => (f ρ).bind fun a ρ1 => lift ((looks ρ1 a).bind F) ρ1
theorem op2_run {r : R2} {F : D → D → Option D} {f g : Mo R} (hF : Op2 X.K r F) (σ : St) (H : Hp) (Q : VK) (h : tX X.K n W (e2 F f g) σ H Q) : tX X.K n W f σ H fun x H1 => tX X.K n W g σ H1 fun y H2 => r x y H2 Q := by
  obtain ⟨ρ, G, h⟩ := h
  refine ⟨ρ, G, (Aft.bind h).mono fun a ρ1 H1 s1 h1 v rv => ⟨ρ1, s1.good, (Aft.bind h1).mono fun b ρ2 H2 s2 h2 u ru => ?_⟩⟩
  obtain ⟨d, e, q⟩ := Aft.out s2.good h2
  unfold F2 at e
  split at e
  · next x y ex ey => exact hF v u x y d H2 Q ((rv.grow (s2.grow s1.good)).see s2.good ex) (ru.see s2.good ey) e q
  · cases e
theorem op1_run {r : V → Hp → VK → Prop} {F : D → Option D} {f : Mo R} (hF : Op1 X.K r F) (σ : St) (H : Hp) (Q : VK) (h : tX X.K n W (e1 F f) σ H Q) : tX X.K n W f σ H fun x H1 => r x H1 Q := by
  obtain ⟨ρ, G, h⟩ := h
  refine ⟨ρ, G, (Aft.bind h).mono fun a ρ1 H1 s1 h1 v rv => ?_⟩
  obtain ⟨d, e, q⟩ := Aft.out s1.good h1
  cases ea : look ρ1 a with
  | none =>
    rw [ea] at e
    cases e
  | some x =>
    rw [ea] at e
    exact hF v x d H1 Q (rv.see s1.good ea) e q
theorem opN_run {r : List V → Hp → VK → Prop} {F : List D → Option D} {f : Mo (List R)} (hF : OpN X.K r F) (σ : St) (H : Hp) (Q : VK) (h : tX X.K n W (eN F f) σ H Q) : tXs X.K n W f σ H fun xs H1 => r xs H1 Q := by
  obtain ⟨ρ, G, h⟩ := h
  refine ⟨ρ, G, (Aft.bind h).mono fun a ρ1 H1 s1 h1 vs rvs => ?_⟩
  obtain ⟨d, e, q⟩ := Aft.out s1.good h1
  cases ea : looks ρ1 a with
  | none =>
    rw [ea] at e
    cases e
  | some x =>
    rw [ea] at e
    exact hF vs x d H1 Q (rvs.see s1.good ea) e q
theorem xd_op {a b : Expr} {op : Operator} {pos : Pos} {r : R2} {F : D → D → Option D} {f g : Mo R} (ho : OpR X (binaryOp op) r) (hF : Op2 X.K r F) (ha : XD X n W a f) (hb : XD X n W b g) : XD X n W (.BinOp a op b pos) (e2 F f g) := weakE (pe_op ho ha hb) (op2_run hF)
theorem xd_cmp {a b : Expr} {op : CmpOp} {pos : Pos} {r : R2} {F : D → D → Option D} {f g : Mo R} (ho : OpR X (compareOp op) r) (hF : Op2 X.K r F) (ha : XD X n W a f) (hb : XD X n W b g) (hm : behindInMarks op b = false) : XD X n W (.Compare a [op] [b] pos) (e2 F f g) := weakE (pe_cmpR ho ha hb hm) (op2_run hF)
theorem xd_un {a : Expr} {op : UnaryOp} {pos : Pos} {r : V → Hp → VK → Prop} {F : D → Option D} {f : Mo R} (ho : UnR X (unaryOp op) r) (hF : Op1 X.K r F) (ha : XD X n W a f) : XD X n W (.UnaryOp op a pos) (e1 F f) := weakE (pe_un ho ha) (op1_run hF)
/-! ### truth -/
@[simp] def asB (m : Mo R) : Mo Bool := fun ρ => (m ρ).bind fun r ρ1 => match look ρ1 r with
  | some (.bool b) => .ok b ρ1
  | _ => .no
theorem asB_run {f : Mo R} {σ : St} {H : Hp} {Q : Bool → Hp → Prop} (h : tXb X.K n W (asB f) σ H Q) : tX X.K n W f σ H fun x H1 => ∃ c, x = .bl c ∧ Q c H1 := by
  obtain ⟨ρ, G, h⟩ := h
  refine ⟨ρ, G, (Aft.bind h).mono fun a ρ1 H1 s1 h1 v rv => ?_⟩
  split at h1
  · next b e =>
    have := rv.see s1.good e
    exact ⟨b, this.bl, Aft.ok s1.good h1⟩
  · exact h1.elim
theorem xb_cmp {a b : Expr} {op : CmpOp} {pos : Pos} {r : R2} {F : D → D → Option D} {f g : Mo R} (ho : OpR X (compareOp op) r) (hF : Op2 X.K r F) (ha : XD X n W a f) (hb : XD X n W b g) (hm : behindInMarks op b = false) : XB X n W (.Compare a [op] [b] pos) (asB (e2 F f g)) :=
  weakT (pt_cmpR ho ha hb hm) fun σ H Q h => op2_run hF σ H _ (asB_run h)
theorem xb_val {e : Expr} {f : Mo R} (h : XD X n W e f) (he : ∀ whole, isTrue e X.env whole = (do let v ← whole; standAt e.pos; holding [v] (truthy v)) := by intro _; rfl) : XB X n W e (asB f) := weakT (pt_val h he) fun σ H Q h => asB_run h
@[simp] def bNot (f : Mo Bool) : Mo Bool := fun ρ => (f ρ).bind fun b ρ1 => .ok (!b) ρ1
@[simp] def bAnd (f g : Mo Bool) : Mo Bool := fun ρ => (f ρ).bind fun b ρ1 => if b = true then g ρ1 else .ok false ρ1
@[simp] def bOr (f g : Mo Bool) : Mo Bool := fun ρ => (f ρ).bind fun b ρ1 => if b = true then .ok true ρ1 else g ρ1
theorem xb_not {a : Expr} {pos : Pos} {f : Mo Bool} (h : XB X n W a f) : XB X n W (.UnaryOp .Not a pos) (bNot f) := weakT (pt_not h) fun σ H Q ⟨ρ, G, h⟩ => ⟨ρ, G, (Aft.bind h).mono fun b ρ1 H1 s1 h1 => Aft.ok s1.good h1⟩
abbrev XWb (X : Cx) (n : Nat) (W : XW) (e : Expr) (m : Mo Bool) : Prop := PW X e (tXb X.K n W m)
theorem and_run {f g : Mo Bool} {σ : St} {H : Hp} {Q : Bool → Hp → Prop} (h : tXb X.K n W (bAnd f g) σ H Q) : tAnd (tXb X.K n W f) (tXb X.K n W g) σ H Q := by
  obtain ⟨ρ, G, h⟩ := h
  refine ⟨ρ, G, (Aft.bind h).mono fun b ρ1 H1 s1 h1 => ?_⟩
  cases b with
  | true => exact iteT ⟨ρ1, s1.good, h1⟩
  | false => exact iteF (Aft.ok s1.good h1)
theorem or_run {f g : Mo Bool} {σ : St} {H : Hp} {Q : Bool → Hp → Prop} (h : tXb X.K n W (bOr f g) σ H Q) : tOr (tXb X.K n W f) (tXb X.K n W g) σ H Q := by
  obtain ⟨ρ, G, h⟩ := h
  refine ⟨ρ, G, (Aft.bind h).mono fun b ρ1 H1 s1 h1 => ?_⟩
  cases b with
  | true => exact iteT (Aft.ok s1.good h1)
  | false => exact iteF ⟨ρ1, s1.good, h1⟩
theorem xw_and1 {a : Expr} {pos : Pos} {f : Mo Bool} (h : XB X n W a f) : XWb X n W (.BoolOp .And [a] pos) f := pw_and1 h
theorem xw_or1 {a : Expr} {pos : Pos} {f : Mo Bool} (h : XB X n W a f) : XWb X n W (.BoolOp .Or [a] pos) f := pw_or1 h
theorem xw_and {a b : Expr} {rest : List Expr} {pos : Pos} {f g : Mo Bool} (ha : XB X n W a f) (hb : XWb X n W (.BoolOp .And (b :: rest) pos) g) : XWb X n W (.BoolOp .And (a :: b :: rest) pos) (bAnd f g) := weakW (pw_and ha hb) fun _ _ _ h => and_run h
theorem xw_or {a b : Expr} {rest : List Expr} {pos : Pos} {f g : Mo Bool} (ha : XB X n W a f) (hb : XWb X n W (.BoolOp .Or (b :: rest) pos) g) : XWb X n W (.BoolOp .Or (a :: b :: rest) pos) (bOr f g) := weakW (pw_or ha hb) fun _ _ _ h => or_run h
@[simp] def eIf (c : Mo Bool) (f g : Mo R) : Mo R := fun ρ => (c ρ).bind fun b ρ1 => if b = true then f ρ1 else g ρ1
theorem xd_if {c a b : Expr} {pos : Pos} {fc : Mo Bool} {f g : Mo R} (hc : XB X n W c fc) (ha : XD X n W a f) (hb : XD X n W b g) : XD X n W (.IfExp c a b pos) (eIf fc f g) := weakE (pe_ifExp hc ha hb) fun σ H Q ⟨ρ, G, h⟩ => by
  refine ⟨ρ, G, (Aft.bind h).mono fun k ρ1 H1 s1 h1 => ?_⟩
  cases k with
  | true => exact iteT ⟨ρ1, s1.good, h1⟩
  | false => exact iteF ⟨ρ1, s1.good, h1⟩
/-- x and y, x or y, not x as values, of bools -/
@[simp] def eAnd (f g : Mo R) : Mo R := fun ρ => (f ρ).bind fun r ρ1 => match look ρ1 r with
  | some (.bool b) => if b = true then g ρ1 else .ok (.d (.bool false)) ρ1
  | _ => .no
@[simp] def eOr (f g : Mo R) : Mo R := fun ρ => (f ρ).bind fun r ρ1 => match look ρ1 r with
  | some (.bool b) => if b = true then .ok (.d (.bool true)) ρ1 else g ρ1
  | _ => .no
theorem xd_and {a b : Expr} {rest : List Expr} {pos : Pos} {f g : Mo R} (ha : XD X n W a f) (hb : XD X n W (.BoolOp .And (b :: rest) pos) g) : XD X n W (.BoolOp .And (a :: b :: rest) pos) (eAnd f g) := weakE (pe_and ha hb) fun σ H Q ⟨ρ, G, h⟩ => by
  refine ⟨ρ, G, (Aft.bind h).mono fun r ρ1 H1 s1 h1 v rv => ?_⟩
  split at h1
  · next b e =>
    refine ⟨b, (rv.see s1.good e).bl, ?_⟩
    cases b with
    | true => exact iteT ⟨ρ1, s1.good, h1⟩
    | false => exact iteF (Aft.ok s1.good h1 _ (.d (.bl false)))
  · exact h1.elim
theorem xd_or {a b : Expr} {rest : List Expr} {pos : Pos} {f g : Mo R} (ha : XD X n W a f) (hb : XD X n W (.BoolOp .Or (b :: rest) pos) g) : XD X n W (.BoolOp .Or (a :: b :: rest) pos) (eOr f g) := weakE (pe_or ha hb) fun σ H Q ⟨ρ, G, h⟩ => by
  refine ⟨ρ, G, (Aft.bind h).mono fun r ρ1 H1 s1 h1 v rv => ?_⟩
  split at h1
  · next b e =>
    refine ⟨b, (rv.see s1.good e).bl, ?_⟩
    cases b with
    | true => exact iteT (Aft.ok s1.good h1 _ (.d (.bl true)))
    | false => exact iteF ⟨ρ1, s1.good, h1⟩
  · exact h1.elim
theorem xd_one {a : Expr} {op} {pos : Pos} {f : Mo R} (h : XD X n W a f) : XD X n W (.BoolOp op [a] pos) f := pe_one h
@[simp] def notD : D → Option D
  | .bool b => some (.bool (!b))
  | _ => none
theorem xd_not {a : Expr} {pos : Pos} {f : Mo R} (h : XD X n W a f) : XD X n W (.UnaryOp .Not a pos) (e1 notD f) := weakE (pe_not h) fun σ H Q h => op1_run (r := fun x H1 Q => ∃ c, x = .bl c ∧ Q (.bl (!c)) H1) (fun x a d H Q hv hf q => by
  cases a with
  | bool b =>
    cases hf
    exact ⟨b, hv.bl, q _ H (Same.refl H) (.bl _)⟩
  | _ => cases hf) σ H Q h
end
end Q
namespace Q
open PySem PySem.Spec PyProof.Rows L2
variable [Tbl]
theorem set_at {α : Type} {l : List α} {i : Nat} {a : α} (h : i < l.length) : (l.set i a)[i]? = some a := by
  rw [List.getElem?_set, if_pos rfl, if_pos h]
theorem set_ne {α : Type} {l : List α} {i j : Nat} {a : α} (h : i ≠ j) : (l.set i a)[j]? = l[j]? := by
  rw [List.getElem?_set, if_neg h]
section
variable {K : PySem.W.Frag} {n : Nat} {H H1 H2 H' : Hp} {σ σ1 σ2 σ' : St} {ρ ρ1 ρ2 ρ' : Ev}
theorem Own.set {i : Nat} {v : Option V} {d : D} {p : Addr} (h : Own (σ.set i v) (ρ.set i (.dat d)) p) (hi : i < ρ.length) : Own σ ρ p := by
  obtain ⟨j, o, e1, e2⟩ := h
  by_cases e : i = j
  · subst e
    rw [set_at hi] at e1
    cases e1
  · rw [set_ne e] at e1 e2
    exact ⟨j, o, e1, e2⟩
theorem Good.set_dat (G : Good K H σ ρ) {i : Nat} (hi : i < ρ.length) {v : V} {d : D} (h : Im K H v d) : Good K H (σ.set i (some v)) (ρ.set i (.dat d)) := by
  have his : i < σ.length := by rw [G.len]; exact hi
  refine ⟨by rw [List.length_set, List.length_set, G.len], fun j e hj => ?_, fun j o hj => ?_, fun j k o o' p h1 h2 h3 h4 => ?_, G.tab, fun j c f e hj => ?_⟩
  · by_cases q : i = j
    · subst q
      rw [set_at hi] at hj
      cases hj
      exact ⟨v, set_at his, h⟩
    · rw [set_ne q] at hj ⊢
      exact G.dat j e hj
  · by_cases q : i = j
    · subst q
      rw [set_at hi] at hj
      cases hj
    · rw [set_ne q] at hj ⊢
      exact G.own j o hj
  · have nj : i ≠ j := fun q => by
      subst q
      rw [set_at hi] at h1
      cases h1
    have nk : i ≠ k := fun q => by
      subst q
      rw [set_at hi] at h2
      cases h2
    rw [set_ne nj] at h1 h3
    rw [set_ne nk] at h2 h4
    exact G.dif j k o o' p h1 h2 h3 h4
  · by_cases q : i = j
    · subst q
      rw [set_at hi] at hj
      cases hj
    · rw [set_ne q] at hj ⊢
      exact G.exc j c f e hj
theorem Stp.set_dat (s : Stp K n H σ ρ H' σ' ρ') {i : Nat} (hn : n ≤ i) (hi : i < ρ'.length) {v : V} {d : D} (h : Im K H' v d) : Stp K n H σ ρ H' (σ'.set i (some v)) (ρ'.set i (.dat d)) :=
  ⟨s.good.set_dat hi h, fun j hj => by
    have ne : i ≠ j := by omega
    rw [set_ne ne, set_ne ne]
    exact s.par j hj, s.kept, fun p h => s.news p (h.set hi), s.live⟩
theorem Good.set_own (G : Good K H σ ρ) {i : Nat} (hi : i < ρ.length) {p : Addr} {h : HO} {o : Ob} (e : H p = some h) (r : ObR K H h o) (no : ¬ Own σ ρ p) : Good K H (σ.set i (some (.ref p))) (ρ.set i (.own o)) := by
  have his : i < σ.length := by rw [G.len]; exact hi
  refine ⟨by rw [List.length_set, List.length_set, G.len], fun j d hj => ?_, fun j o' hj => ?_, fun j k o1 o2 q h1 h2 h3 h4 => ?_, G.tab, fun j c f e hj => ?_⟩
  · by_cases q : i = j
    · subst q
      rw [set_at hi] at hj
      cases hj
    · rw [set_ne q] at hj ⊢
      exact G.dat j d hj
  · by_cases q : i = j
    · subst q
      rw [set_at hi] at hj
      cases hj
      exact ⟨p, h, set_at his, e, r⟩
    · rw [set_ne q] at hj ⊢
      exact G.own j o' hj
  · by_cases qj : i = j
    · by_cases qk : i = k
      · exact qj.symm.trans qk
      · subst qj
        rw [set_at his] at h3
        cases h3
        rw [set_ne qk] at h2 h4
        exact absurd ⟨k, o2, h2, h4⟩ no
    · by_cases qk : i = k
      · subst qk
        rw [set_at his] at h4
        cases h4
        rw [set_ne qj] at h1 h3
        exact absurd ⟨j, o1, h1, h3⟩ no
      · rw [set_ne qj] at h1 h3
        rw [set_ne qk] at h2 h4
        exact G.dif j k o1 o2 q h1 h2 h3 h4
  · by_cases q : i = j
    · subst q
      rw [set_at hi] at hj
      cases hj
    · rw [set_ne q] at hj ⊢
      exact G.exc j c f e hj
theorem Stp.set_own (s : Stp K n H σ ρ H' σ' ρ') {i : Nat} (hn : n ≤ i) (hi : i < ρ'.length) {p : Addr} {h : HO} {o : Ob} (e : H' p = some h) (r : ObR K H' h o) (no : ¬ Own σ' ρ' p) (nw : Own σ ρ p ∨ H p = none) :
    Stp K n H σ ρ H' (σ'.set i (some (.ref p))) (ρ'.set i (.own o)) := by
  refine ⟨s.good.set_own hi e r no, fun j hj => ?_, s.kept, fun q h => ?_, s.live⟩
  · have ne : i ≠ j := by omega
    rw [set_ne ne, set_ne ne]
    exact s.par j hj
  · obtain ⟨j, o1, e1, e2⟩ := h
    by_cases z : i = j
    · subst z
      rw [set_at (by rw [s.good.len]; exact hi)] at e2
      cases e2
      exact nw
    · rw [set_ne z] at e1 e2
      exact s.news q ⟨j, o1, e1, e2⟩
theorem Good.own_at (G : Good K H σ ρ) {i : Nat} {o : Ob} (h : ρ[i]? = some (.own o)) : ∃ p h, σ[i]? = some (some (.ref p)) ∧ H p = some h ∧ ObR K H h o ∧ i < ρ.length := by
  obtain ⟨p, ho, e1, e2, r⟩ := G.own i o h
  exact ⟨p, ho, e1, e2, r, (List.getElem?_eq_some_iff.mp h).1⟩
theorem live_upd {p : Addr} {h u : HO} (e : H p = some h) : ∀ b, upd H p u b = none → H b = none := fun b hb => by
  by_cases z : b = p
  · rw [z, upd_same] at hb
    cases hb
  · rw [upd_ne z] at hb
    exact hb
/-- what a slot has of its own is changed -/
theorem Stp.write (G : Good K H σ ρ) {i : Nat} {o o' : Ob} {p : Addr} {h h' : HO} (ei : ρ[i]? = some (.own o)) (es : σ[i]? = some (some (.ref p))) (e : H p = some h) (r : ObR K H h o) (r' : ObR K H h' o') : Stp K n H σ ρ (upd H p h') σ (ρ.set i (.own o')) := by
  have hi : i < ρ.length := (List.getElem?_eq_some_iff.mp ei).1
  have g : Grow H (upd H p h') := grow_upd e r.mut (noTab_code r.noTab)
  have ow : ∀ q, Own σ (ρ.set i (.own o')) q → Own σ ρ q := fun q hq => by
    obtain ⟨j, o1, e1, e2⟩ := hq
    by_cases z : i = j
    · subst z
      exact ⟨i, o, ei, e2⟩
    · rw [set_ne z] at e1
      exact ⟨j, o1, e1, e2⟩
  refine ⟨⟨by rw [List.length_set, G.len], fun j d hj => ?_, fun j o1 hj => ?_, fun j k o1 o2 q h1 h2 h3 h4 => ?_, TabOk.upd e r.mut r.noTab G.tab, fun j c f d hj => ?_⟩, fun j hj => ⟨rfl, fun o1 hj => ?_⟩, fun b u eb nb _ => ?_, fun q hq => .inl (ow q hq), live_upd e⟩
  · by_cases z : i = j
    · subst z
      rw [set_at hi] at hj
      cases hj
    · rw [set_ne z] at hj
      obtain ⟨v, e1, im⟩ := G.dat j d hj
      exact ⟨v, e1, im.grow g⟩
  · by_cases z : i = j
    · subst z
      rw [set_at hi] at hj
      cases hj
      exact ⟨p, h', es, upd_same, r'.grow g⟩
    · rw [set_ne z] at hj
      obtain ⟨q, u, e1, e2, r2⟩ := G.own j o1 hj
      have : q ≠ p := fun w => by
        subst w
        exact z (G.dif i j o o1 q ei hj es e1)
      exact ⟨q, u, e1, by rw [upd_ne this]; exact e2, r2.grow g⟩
  · have get : ∀ {j : Nat} {o1 : Ob}, (ρ.set i (.own o'))[j]? = some (.own o1) → ∃ o2, ρ[j]? = some (.own o2) := fun {j o1} hj => by
      by_cases z : i = j
      · subst z
        exact ⟨o, ei⟩
      · rw [set_ne z] at hj
        exact ⟨o1, hj⟩
    obtain ⟨a, ha⟩ := get h1
    obtain ⟨b, hb⟩ := get h2
    exact G.dif j k a b q ha hb h3 h4
  · by_cases z : i = j
    · subst z
      rw [set_at hi] at hj
      cases hj
    · rw [set_ne z] at hj
      exact (G.exc j c f d hj).elim fun a h => ⟨a, h.1, h.2.grow g⟩
  · by_cases z : i = j
    · subst z
      exact ⟨o', set_at hi⟩
    · rw [set_ne z]
      exact ⟨o1, hj⟩
  · rw [upd_ne fun z => nb ?_]
    · exact eb
    · rw [z]
      exact ⟨i, o, ei, es⟩
/-- it is locked: data from now on -/
theorem Stp.lock (G : Good K H σ ρ) {i : Nat} (hn : n ≤ i) {o : Ob} {p : Addr} {h : HO} {ob : Obj} (ei : ρ[i]? = some (.own o)) (es : σ[i]? = some (some (.ref p))) (e : H p = some h) (r : ObR K H h o) (nd : o.nd = true) :
    Stp K n H σ ρ (upd H p (.frz ob h)) σ (ρ.set i (.dat o.d)) ∧ Im K (upd H p (.frz ob h)) (.ref p) o.d := by
  have hi : i < ρ.length := (List.getElem?_eq_some_iff.mp ei).1
  have g : Grow H (upd H p (.frz ob h)) := grow_upd e r.mut (noTab_code r.noTab)
  have im : Im K (upd H p (.frz ob h)) (.ref p) o.d := by
    cases r with
    | lst r => exact .lst ⟨ob, upd_same⟩ (r.grow g)
    | dk r => exact .dic upd_same (r.grow g)
    | dt _ => cases nd
  have ow : ∀ q, Own σ (ρ.set i (.dat o.d)) q → Own σ ρ q ∧ q ≠ p := fun q hq => by
    obtain ⟨j, o1, e1, e2⟩ := hq
    by_cases z : i = j
    · subst z
      rw [set_at hi] at e1
      cases e1
    · rw [set_ne z] at e1
      exact ⟨⟨j, o1, e1, e2⟩, fun w => by
        subst w
        exact z (G.dif i j o o1 q ei e1 es e2)⟩
  refine ⟨⟨⟨by rw [List.length_set, G.len], fun j d hj => ?_, fun j o1 hj => ?_, fun j k o1 o2 q h1 h2 h3 h4 => ?_, TabOk.upd e r.mut r.noTab G.tab, fun j c f d hj => ?_⟩, fun j hj => ?_, fun b u eb nb _ => ?_, fun q hq => .inl (ow q hq).1, live_upd e⟩, im⟩
  · by_cases z : i = j
    · subst z
      rw [set_at hi] at hj
      cases hj
      exact ⟨_, es, im⟩
    · rw [set_ne z] at hj
      obtain ⟨v, e1, im⟩ := G.dat j d hj
      exact ⟨v, e1, im.grow g⟩
  · by_cases z : i = j
    · subst z
      rw [set_at hi] at hj
      cases hj
    · have hj0 := hj
      rw [set_ne z] at hj
      obtain ⟨q, u, e1, e2, r2⟩ := G.own j o1 hj
      exact ⟨q, u, e1, by rw [upd_ne (ow q ⟨j, o1, hj0, e1⟩).2]; exact e2, r2.grow g⟩
  · have nj : i ≠ j := fun q => by
      subst q
      rw [set_at hi] at h1
      cases h1
    have nk : i ≠ k := fun q => by
      subst q
      rw [set_at hi] at h2
      cases h2
    rw [set_ne nj] at h1
    rw [set_ne nk] at h2
    exact G.dif j k o1 o2 q h1 h2 h3 h4
  · by_cases z : i = j
    · subst z
      rw [set_at hi] at hj
      cases hj
    · rw [set_ne z] at hj
      exact (G.exc j c f d hj).elim fun a h => ⟨a, h.1, h.2.grow g⟩
  · have ne : i ≠ j := by omega
    rw [set_ne ne]
    exact ⟨rfl, fun o h => ⟨o, h⟩⟩
  · rw [upd_ne fun z => nb ?_]
    · exact eb
    · rw [z]
      exact ⟨i, o, ei, es⟩
end
/-! ### new things -/
def tF (K : PySem.W.Frag) (n : Nat) (W : XW) (m : Mo Ob) : TE := fun σ H Q => ∃ ρ, Good K H σ ρ ∧ Aft K n W H σ ρ (m ρ) fun o ρ' H' => ∀ p h, H p = none → H' p = some h → ObR K H' h o → ¬ Own σ ρ' p → Q (.ref p) H'
abbrev XF (X : Cx) (n : Nat) (W : XW) (e : Expr) (m : Mo Ob) : Prop := PE X e (tF X.K n W m)
/-- a thing is locked at once -/
def tFrz (te : TE) : TE := fun σ H Q => te σ H fun x H1 => ∃ d u, x = .ref d ∧ H1 d = some u ∧ Mut (some u) ∧ ∀ od, Q x (upd H1 d (.frz od u))
theorem pe_frz {X : Cx} {e : Expr} {te : TE} (he : PE X e te) : PE X e (tFrz te) := by
  refine ⟨fun pins s σ H Q I h => thn (he.run pins s σ H _ I h) ?_⟩
  rintro v s1 ⟨x, H1, I1, r, d, u, rfl, hd, mu, q⟩
  obtain ⟨od, I2⟩ := I1.lock hd mu
  exact ⟨.ref d, _, I2, r, q od⟩
section
variable {X : Cx} {n : Nat} {W : XW}
@[simp] def Ob.lk : Ob → Ev → Rt R
  | .lst ds, ρ => .ok (.d (.list ds)) ρ
  | .dk kvs, ρ => .ok (.d (.dict kvs)) ρ
  | .dt _, _ => .no
theorem lk_aft {K : PySem.W.Frag} {W : XW} {H : Hp} {σ : St} {ρ ρ1 : Ev} {o : Ob} {Q : R → Ev → Hp → Prop} (h : Aft K n W H σ ρ (o.lk ρ1) Q) : o.nd = true ∧ ∀ H', Stp K n H σ ρ H' σ ρ1 → Q (.d o.d) ρ1 H' := by
  cases o with
  | dt _ => exact h.elim
  | _ => exact ⟨rfl, h⟩
@[simp] def eLock (m : Mo Ob) : Mo R := fun ρ => (m ρ).bind fun o ρ1 => o.lk ρ1
theorem lock_new {K : PySem.W.Frag} {H H' : Hp} {σ : St} {ρ ρ' : Ev} {p : Addr} {h : HO} {o : Ob} {ob : Obj} (s : Stp K n H σ ρ H' σ ρ') (np : H p = none) (e : H' p = some h) (r : ObR K H' h o) (no : ¬ Own σ ρ' p) (nd : o.nd = true) :
    Stp K n H σ ρ (upd H' p (.frz ob h)) σ ρ' ∧ Im K (upd H' p (.frz ob h)) (.ref p) o.d := by
  have g : Grow H' (upd H' p (.frz ob h)) := grow_upd e r.mut (noTab_code r.noTab)
  have im : Im K (upd H' p (.frz ob h)) (.ref p) o.d := by
    cases r with
    | lst r => exact .lst ⟨ob, upd_same⟩ (r.grow g)
    | dk r => exact .dic upd_same (r.grow g)
    | dt _ => cases nd
  have gd : Good K (upd H' p (.frz ob h)) σ ρ' := s.good.grow g (fun q u hq eq => by
    rw [upd_ne fun z => no (by rw [← z]; exact hq)]
    exact eq) (TabOk.upd e r.mut r.noTab)
  refine ⟨⟨gd, s.par, fun b u eb nb nt => ?_, s.news, fun b hb => s.live b (live_upd e b hb)⟩, im⟩
  rw [upd_ne (ne_of_none eb np)]
  exact s.kept b u eb nb nt
theorem xd_lock {e : Expr} {m : Mo Ob} (he : XF X n W e m) : XD X n W e (eLock m) := weakE (pe_frz he) fun σ H Q ⟨ρ, G, h⟩ => by
  refine ⟨ρ, G, ?_⟩
  unfold eLock at h
  generalize m ρ = r at h
  cases r with
  | no => exact h
  | ex c d ρ' => exact h
  | ok o ρ' =>
    intro H' s p ho np e r no
    obtain ⟨nd, h⟩ := lk_aft h
    refine ⟨p, ho, rfl, e, r.mut, fun od => ?_⟩
    obtain ⟨s2, im⟩ := lock_new (ob := od) s np e r no nd
    exact h _ s2 _ (.d im)
/-- a name whose thing is locked -/
@[simp] def eVarL (i : Nat) : Mo R := fun ρ => match ρ[i]? with
  | some (.own o) => o.lk (ρ.set i (.dat o.d))
  | _ => .no
theorem xd_varL {i : Nat} {x : Str} {pos : Pos} (hn : n ≤ i) (h : PE X (.Name x pos) (tVar i)) : XD X n W (.Name x pos) (eVarL i) := weakE (pe_frz h) fun σ H Q ⟨ρ, G, h⟩ => by
  unfold eVarL at h
  split at h
  · next o e =>
    obtain ⟨p, ho, e1, e2, r⟩ := G.own i o e
    obtain ⟨nd, h⟩ := lk_aft h
    refine ⟨_, e1, p, ho, rfl, e2, r.mut, fun od => ?_⟩
    obtain ⟨s, im⟩ := Stp.lock (ob := od) G hn e e1 e2 r nd
    exact h _ s _ (.d im)
  · exact h.elim
/-! ### tuples, lists -/
@[simp] def datas : List R → Option (List D)
  | [] => some []
  | .d x :: rs => (datas rs).map (x :: ·)
  | .v _ :: _ => none
theorem RRs.datas {K : PySem.W.Frag} {H : Hp} {σ : St} : ∀ {vs : List V} {rs : List R} {ds : List D}, RRs K H σ vs rs → datas rs = some ds → ImL K H vs ds
  | _, _, _, .nil, h => by
    cases h
    exact .nil
  | _, .d x :: rs, ds, .cons (.d y) ys, h => by
    have h : (Q.datas rs).map (x :: ·) = some ds := h
    cases e : Q.datas rs with
    | none =>
      rw [e] at h
      cases h
    | some es =>
      rw [e] at h
      cases h
      exact .cons y (RRs.datas ys e)
  | _, .v _ :: _, _, .cons (.v _) _, h => by cases h
theorem same_upd {H : Hp} {p : Addr} {o : HO} (h : H p = none) : Same H (upd H p o) := fun b u e => by
  rw [upd_ne (ne_of_none e h)]
  exact e
/-- a new tuple -/
theorem new_tup {pins : List (Addr × Obj)} {σ : L2.St} {H : Hp} {s : Shared} {xs : List V} {its : List Value} {Q : VK} (I : Inv X pins σ H s) (hz : xs.length ≤ sizeLine) (r : Vals xs its) (q : ∀ p o, H p = none → o.dict = none → Q (.ref p) (upd H p (.frz o (.tup xs)))) :
    ∃ x H', Inv X pins σ H' { s with heap := s.heap.push { cls := .type "tuple", data := .seq its.toArray } } ∧ RelV x (.ref s.heap.objs.size) ∧ Q x H' :=
  have hn : H s.heap.objs.size = none := I.hok.fresh (Nat.le_refl _)
  have ok : ObjOk X.prog X.w (upd H s.heap.objs.size (.frz { cls := .type "tuple", data := .seq its.toArray } (.tup xs))) (s.heap.push { cls := .type "tuple", data := .seq its.toArray }) s.heap.objs.size (.frz { cls := .type "tuple", data := .seq its.toArray } (.tup xs)) :=
    ⟨Heap.get?_push_size _ rfl, hz, its, r, ⟨_, Heap.get?_push_size _ rfl, rfl, _, rfl⟩⟩
  ⟨.ref s.heap.objs.size, _, I.laid (t' := s.toks) (fun b u e => Heap.get?_push_of_some _ e) (Nat.le_refl _) ok, rfl, q _ _ hn rfl⟩
def tTupN (t : TA) : TE := fun σ H Q => t σ H fun xs H1 => xs.length ≤ sizeLine ∧ ∀ p o, H1 p = none → o.dict = none → Q (.ref p) (upd H1 p (.frz o (.tup xs)))
theorem pe_tupN {es : List Expr} {x1} {pos : Pos} {t : TA} (h : PA X es t) : PE X (.Tuple es x1 pos) (tTupN t) := by
  refine ⟨fun pins s σ H Q I hq => ?_⟩
  refine wpAny_Tuple_spliced (thn (h.run pos pins s σ H _ I hq) fun us s1 ⟨xs, H1, I1, r, z, q⟩ => ⟨?_, new_tup I1 z r q⟩)
  rw [← r.length]
  exact z
def short (ds : List D) : Option (List D) := if ds.length ≤ sizeLine then some ds else none
@[simp] def eTup (m : Mo (List R)) : Mo R := fun ρ => (m ρ).bind fun rs ρ1 => lift ((datas rs).bind fun ds => (short ds).map .tuple) ρ1
theorem xd_tup {es : List Expr} {x1} {pos : Pos} {m : Mo (List R)} (h : XA X n W es m) : XD X n W (.Tuple es x1 pos) (eTup m) := weakE (pe_tupN h) fun σ H Q ⟨ρ, G, h⟩ => by
  refine ⟨ρ, G, (Aft.bind h).mono fun rs ρ1 H1 s1 h1 vs rvs => ?_⟩
  obtain ⟨d, e, q⟩ := Aft.out s1.good h1
  cases ed : datas rs with
  | none =>
    rw [ed] at e
    cases e
  | some ds =>
    rw [ed] at e
    have e : (short ds).map PyData.tuple = some d := e
    unfold short at e
    split at e
    · next le =>
      cases e
      have im := rvs.datas ed
      refine ⟨by rw [im.len]; exact le, fun p o hp ho => q _ _ (same_upd hp) (.tup ⟨o, upd_same, ho⟩ (im.same (same_upd hp)))⟩
    · cases e
@[simp] def fLst (m : Mo (List R)) : Mo Ob := fun ρ => (m ρ).bind fun rs ρ1 => match (datas rs).bind short with
  | some ds => .ok (.lst ds) ρ1
  | none => .no
theorem new_own {K : PySem.W.Frag} {H : Hp} {σ : St} {ρ : Ev} {p : Addr} (G : Good K H σ ρ) (h : H p = none) : ¬ Own σ ρ p := fun z => by
  obtain ⟨u, o, e, _⟩ := G.at z
  rw [h] at e
  cases e
theorem xf_lst {es : List Expr} {pos : Pos} {m : Mo (List R)} (h : XA X n W es m) : XF X n W (.List es pos) (fLst m) := weakE (pe_lst h) fun σ H Q ⟨ρ, G, h⟩ => by
  refine ⟨ρ, G, (Aft.bind h).mono fun rs ρ1 H1 s1 h1 vs rvs => ?_⟩
  split at h1
  · next ds e =>
    cases ed : datas rs with
    | none =>
      rw [ed] at e
      cases e
    | some es =>
      rw [ed] at e
      have e : short es = some ds := e
      unfold short at e
      split at e
      · next le =>
        cases e
        have im := rvs.datas ed
        refine ⟨by rw [im.len]; exact le, fun p hp => ?_⟩
        exact h1 _ (Stp.same s1.good (same_upd hp)) p _ (s1.live p hp) upd_same (.lst (im.same (same_upd hp))) (new_own s1.good hp)
      · cases e
  · exact h1.elim
end
end Q
namespace Q
open PySem PySem.Spec PyProof.Rows L2
variable [Tbl]
/-! ### statements -/
inductive Out
  | nx
  | bk
  | ct
  | rt (r : R)
  | rf (o : Ob)
def AftS (K : PySem.W.Frag) (n : Nat) (W : XW) (E : Ends) (H : Hp) (σ : St) (ρ : Ev) (r : Rt Out) : Prop := match r with
  | .no => False
  | .ok .nx ρ' => ∀ σ' H', Stp K n H σ ρ H' σ' ρ' → E.nx σ' H'
  | .ok .bk ρ' => ∀ σ' H', Stp K n H σ ρ H' σ' ρ' → E.bk σ' H'
  | .ok .ct ρ' => ∀ σ' H', Stp K n H σ ρ H' σ' ρ' → E.ct σ' H'
  | .ok (.rt r) ρ' => ∀ v σ' H', Stp K n H σ ρ H' σ' ρ' → RR K H' σ' v r → E.rt v H'
  | .ok (.rf o) ρ' => ∀ p h σ' H', Stp K n H σ ρ H' σ' ρ' → H p = none → H' p = some h → ObR K H' h o → ¬ Own σ' ρ' p → E.rt (.ref p) H'
  | .ex c d ρ' => ∀ σ' H', Stp K n H σ ρ H' σ' ρ' → W c d σ' H'
def tS (K : PySem.W.Frag) (n : Nat) (W : XW) (m : Mo Out) : TS := fun E σ H => ∃ ρ, Good K H σ ρ ∧ AftS K n W E H σ ρ (m ρ)
abbrev XS (X : Cx) (n : Nat) (W : XW) (s : Stmt) (m : Mo Out) : Prop := PS X s (tS X.K n W m)
abbrev XSs (X : Cx) (n : Nat) (W : XW) (s : List Stmt) (m : Mo Out) : Prop := PSs X s (tS X.K n W m)
section
variable {K : PySem.W.Frag} {n : Nat} {W : XW} {E : Ends} {H H1 : Hp} {σ σ1 : St} {ρ ρ1 : Ev}
/-- from a later state on -/
theorem AftS.on {r : Rt Out} (s : Stp K n H σ ρ H1 σ1 ρ1) (h : AftS K n W E H σ ρ r) : AftS K n W E H1 σ1 ρ1 r := by
  cases r with
  | no => exact h
  | ex c d ρ' => exact fun σ' H' s' => h σ' H' (s.trans s')
  | ok o ρ' => cases o with
    | nx => exact fun σ' H' s' => h σ' H' (s.trans s')
    | bk => exact fun σ' H' s' => h σ' H' (s.trans s')
    | ct => exact fun σ' H' s' => h σ' H' (s.trans s')
    | rt r => exact fun v σ' H' s' => h v σ' H' (s.trans s')
    | rf o => exact fun p u σ' H' s' np => h p u σ' H' (s.trans s') (s.live p np)
/-- an expression, then what follows -/
theorem AftS.bind {α : Type} {m : Rt α} {k : α → Ev → Rt Out} (h : AftS K n W E H σ ρ (m.bind k)) : Aft K n W H σ ρ m fun a ρ1 H1 => AftS K n W E H1 σ ρ1 (k a ρ1) := by
  cases m with
  | no => exact h
  | ok a ρ1 => exact fun H1 s1 => AftS.on s1 h
  | ex c d ρ1 => exact fun H1 s1 => h σ H1 s1
theorem AftS.bind' {α : Type} {m : Rt α} {k : α → Ev → Rt Out} (st : Stp K n H σ ρ H1 σ1 ρ1) (h : AftS K n W E H σ ρ (m.bind k)) : Aft K n W H1 σ1 ρ1 m fun a ρ2 _ => AftS K n W E H σ ρ (k a ρ2) := by
  cases m with
  | no => exact h
  | ok a ρ2 => exact fun H2 s2 => h
  | ex c d ρ2 => exact fun H2 s2 => h σ1 H2 (st.trans s2)
end
section
variable {X : Cx} {n : Nat} {W : XW}
theorem weakS {e : Stmt} {t t' : TS} (h : PS X e t) (q : ∀ E σ H, t' E σ H → t E σ H) : PS X e t' := ⟨fun pins s σ H E I z => h.run pins s σ H E I (q E σ H z)⟩
theorem weakSs {e : List Stmt} {t t' : TS} (h : PSs X e t) (q : ∀ E σ H, t' E σ H → t E σ H) : PSs X e t' := ⟨fun pins s σ H E I z => h.run pins s σ H E I (q E σ H z)⟩
@[simp] def bNil : Mo Out := fun ρ => .ok .nx ρ
@[simp] def bSeq (f g : Mo Out) : Mo Out := fun ρ => (f ρ).bind fun o ρ1 => match o with
  | .nx => g ρ1
  | o => .ok o ρ1
theorem xss_nil : XSs X n W [] bNil := weakSs pss_nil fun E σ H ⟨ρ, G, h⟩ => h σ H (Stp.refl G)
theorem seq_run {f g : Mo Out} {E : Ends} {σ : St} {H : Hp} (h : tS X.K n W (bSeq f g) E σ H) : tSeq (tS X.K n W f) (tS X.K n W g) E σ H := by
  obtain ⟨ρ, G, h⟩ := h
  refine ⟨ρ, G, ?_⟩
  unfold bSeq at h
  generalize f ρ = r at h
  cases r with
  | no => exact h
  | ex c d ρ' => exact h
  | ok o ρ' => cases o with
    | nx => exact fun σ' H' s => ⟨ρ', s.good, AftS.on s h⟩
    | bk => exact h
    | ct => exact h
    | rt r => exact h
    | rf o => exact h
theorem xss_cons {st : Stmt} {rest : List Stmt} {f g : Mo Out} (h1 : XS X n W st f) (h2 : XSs X n W rest g) : XSs X n W (st :: rest) (bSeq f g) := weakSs (pss_cons h1 h2) fun _ _ _ h => seq_run h
theorem xs_pass {pos : Pos} : XS X n W (.Pass pos) bNil := weakS ps_pass fun E σ H ⟨ρ, G, h⟩ => h σ H (Stp.refl G)
def bBrk : Mo Out := fun ρ => .ok .bk ρ
def bCnt : Mo Out := fun ρ => .ok .ct ρ
theorem xs_break {pos : Pos} : XS X n W (.Break pos) bBrk := weakS ps_break fun E σ H ⟨ρ, G, h⟩ => h σ H (Stp.refl G)
theorem xs_continue {pos : Pos} : XS X n W (.Continue pos) bCnt := weakS ps_continue fun E σ H ⟨ρ, G, h⟩ => h σ H (Stp.refl G)
@[simp] def bEx (f : Mo R) : Mo Out := fun ρ => (f ρ).bind fun _ ρ1 => .ok .nx ρ1
theorem xs_expr {e : Expr} {pos : Pos} {f : Mo R} (he : XD X n W e f) (hs : swapsWith e none pos.line X.env = pure false := by rfl) : XS X n W (.Expr e pos) (bEx f) := weakS (ps_expr he hs) fun E σ H ⟨ρ, G, h⟩ =>
  ⟨ρ, G, (AftS.bind h).mono fun a ρ1 H1 s1 h1 v rv => h1 σ H1 (Stp.refl s1.good)⟩
@[simp] def bRet (f : Mo R) : Mo Out := fun ρ => (f ρ).bind fun r ρ1 => .ok (.rt r) ρ1
theorem xs_ret {e : Expr} {pos : Pos} {f : Mo R} (he : XD X n W e f) : XS X n W (.Return (some e) pos) (bRet f) := weakS (ps_ret he) fun E σ H ⟨ρ, G, h⟩ =>
  ⟨ρ, G, (AftS.bind h).mono fun a ρ1 H1 s1 h1 v rv => h1 v σ H1 (Stp.refl s1.good) rv⟩
@[simp] def bRetF (f : Mo Ob) : Mo Out := fun ρ => (f ρ).bind fun o ρ1 => .ok (.rf o) ρ1
theorem xs_retF {e : Expr} {pos : Pos} {f : Mo Ob} (he : XF X n W e f) : XS X n W (.Return (some e) pos) (bRetF f) := weakS (ps_ret he) fun E σ H ⟨ρ, G, h⟩ => by
  refine ⟨ρ, G, ?_⟩
  unfold bRetF at h
  generalize f ρ = r at h
  cases r with
  | no => exact h
  | ex c d ρ' => exact fun H' s => h σ H' s
  | ok o ρ1 => exact fun H1 s1 p u np e r no => h p u σ H1 s1 np e r no
@[simp] def bIf (c : Mo Bool) (f g : Mo Out) : Mo Out := fun ρ => (c ρ).bind fun b ρ1 => if b = true then f ρ1 else g ρ1
theorem xs_if {c : Expr} {a b : List Stmt} {pos : Pos} {fc : Mo Bool} {f g : Mo Out} (hc : XB X n W c fc) (ha : XSs X n W a f) (hb : XSs X n W b g) : XS X n W (.If c a b pos) (bIf fc f g) := weakS (ps_if hc ha hb) fun E σ H ⟨ρ, G, h⟩ => by
  refine ⟨ρ, G, (AftS.bind h).mono fun k ρ1 H1 s1 h1 => ?_⟩
  cases k with
  | true => exact iteT ⟨ρ1, s1.good, h1⟩
  | false => exact iteF ⟨ρ1, s1.good, h1⟩
/-! ### stores -/
@[simp] def put (i : Nat) (s : Sl) (ρ : Ev) : Option Ev := if i < ρ.length then some (ρ.set i s) else none
@[simp] def nxt : Option Ev → Rt Out
  | some ρ => .ok .nx ρ
  | none => .no
@[simp] def bSet (i : Nat) (f : Mo R) : Mo Out := fun ρ => (f ρ).bind fun r ρ1 => match r with
  | .d x => nxt (put i (.dat x) ρ1)
  | .v _ => .no
theorem AftS.nxt {K : PySem.W.Frag} {E : Ends} {H : Hp} {σ : St} {ρ : Ev} {o : Option Ev} (h : AftS K n W E H σ ρ (nxt o)) : ∃ ρ', o = some ρ' ∧ ∀ σ' H', Stp K n H σ ρ H' σ' ρ' → E.nx σ' H' := by
  cases o with
  | none => exact h.elim
  | some ρ' => exact ⟨ρ', rfl, h⟩
theorem put_some {i : Nat} {s : Sl} {ρ ρ' : Ev} (h : put i s ρ = some ρ') : i < ρ.length ∧ ρ' = ρ.set i s := by
  unfold put at h
  split at h
  · next le =>
    cases h
    exact ⟨le, rfl⟩
  · cases h
theorem xs_set {i : Nat} {x : Str} {e : Expr} {pos pos' : Pos} {f : Mo R} (hn : n ≤ i) (hN : X.N.Nodup) (hi : X.N[i]? = some x) (hx : Loc X.env.scope x) (he : XD X n W e f) (hs : swapsWith e (some (.Name x pos')) pos.line X.env = pure false := by rfl) (hf : X.fn x = true ∨ X.env.scope.names.lookup x = some .local := by first | exact .inl rfl | exact .inr rfl | assumption) :
    XS X n W (.Assign [.Name x pos'] e pos) (bSet i f) := weakS (ps_set hN hi hx he hs hf) fun E σ H ⟨ρ, G, h⟩ => by
  refine ⟨ρ, G, (AftS.bind h).mono fun r ρ1 H1 s1 h1 v rv => ?_⟩
  cases rv with
  | d im =>
    obtain ⟨ρ2, e2, q⟩ := AftS.nxt h1
    obtain ⟨le, rfl⟩ := put_some e2
    exact q _ _ ((Stp.refl s1.good).set_dat hn le im)
  | v _ => exact h1.elim
@[simp] def bSetF (i : Nat) (f : Mo Ob) : Mo Out := fun ρ => (f ρ).bind fun o ρ1 => nxt (put i (.own o) ρ1)
theorem setF_run {i : Nat} {f : Mo Ob} {E : Ends} {σ : St} {H : Hp} (hn : n ≤ i) (h : tS X.K n W (bSetF i f) E σ H) : tF X.K n W f σ H fun v H1 => E.nx (σ.set i (some v)) H1 := by
  obtain ⟨ρ, G, h⟩ := h
  refine ⟨ρ, G, ?_⟩
  unfold bSetF at h
  generalize f ρ = r at h
  cases r with
  | no => exact h
  | ex c d ρ' => exact fun H' s => h σ H' s
  | ok o ρ1 =>
    intro H1 s1 p u np e r no
    obtain ⟨ρ2, e2, q⟩ := AftS.nxt h
    obtain ⟨le, rfl⟩ := put_some e2
    exact q _ _ (s1.set_own hn le e r no (.inr np))
theorem xs_setF {i : Nat} {x : Str} {e : Expr} {pos pos' : Pos} {f : Mo Ob} (hn : n ≤ i) (hN : X.N.Nodup) (hi : X.N[i]? = some x) (hx : Loc X.env.scope x) (he : XF X n W e f) (hs : swapsWith e (some (.Name x pos')) pos.line X.env = pure false := by rfl) (hf : X.fn x = true ∨ X.env.scope.names.lookup x = some .local := by first | exact .inl rfl | exact .inr rfl | assumption) :
    XS X n W (.Assign [.Name x pos'] e pos) (bSetF i f) := weakS (ps_set hN hi hx he hs hf) fun E σ H h => setF_run hn h
/-! ### targets -/
abbrev Tg := D → Ev → Option Ev
abbrev Tgs := List D → Ev → Option Ev
def AftG (K : PySem.W.Frag) (n : Nat) (is : List Nat) (H : Hp) (σ : St) (ρ : Ev) (r : Option Ev) (Q : St → Hp → Prop) : Prop := ∃ ρ', r = some ρ' ∧ ∀ σ' H', Stp K n H σ ρ H' σ' ρ' → (∀ j, j ∉ is → σ'[j]? = σ[j]?) → σ'.length = σ.length → Q σ' H'
def tG (K : PySem.W.Frag) (n : Nat) (is : List Nat) (m : Tg) : TG := fun v σ H Q => ∃ ρ d, Good K H σ ρ ∧ Im K H v d ∧ AftG K n is H σ ρ (m d ρ) Q
def tGs (K : PySem.W.Frag) (n : Nat) (is : List Nat) (m : Tgs) : TGs := fun vs σ H Q => ∃ ρ ds, Good K H σ ρ ∧ ImL K H vs ds ∧ AftG K n is H σ ρ (m ds ρ) Q
abbrev XG (X : Cx) (n : Nat) (is : List Nat) (t : Expr) (m : Tg) : Prop := PG X t (tG X.K n is m)
abbrev XGs (X : Cx) (n : Nat) (is : List Nat) (t : List Expr) (m : Tgs) : Prop := PGs X t (tGs X.K n is m)
theorem weakG {e : Expr} {t t' : TG} (h : PG X e t) (q : ∀ v σ H Q, t' v σ H Q → t v σ H Q) : PG X e t' := ⟨fun pins s σ H v u Q I r z => h.run pins s σ H v u Q I r (q v σ H Q z)⟩
theorem weakGs {e : List Expr} {t t' : TGs} (h : PGs X e t) (q : ∀ v σ H Q, t' v σ H Q → t v σ H Q) : PGs X e t' := ⟨fun pins s σ H v u Q I r z => h.run pins s σ H v u Q I r (q v σ H Q z)⟩
@[simp] def gN (i : Nat) : Tg := fun d ρ => put i (.dat d) ρ
theorem xg_name {i : Nat} {x : Str} {pos : Pos} (hn : n ≤ i) (hN : X.N.Nodup) (hi : X.N[i]? = some x) (hx : Loc X.env.scope x) (hf : X.fn x = true ∨ X.env.scope.names.lookup x = some .local := by first | exact .inl rfl | exact .inr rfl | assumption) : XG X n [i] (.Name x pos) (gN i) :=
  weakG (pg_name hN hi hx hf) fun v σ H Q ⟨ρ, d, G, im, ρ', e, h⟩ => by
    obtain ⟨le, rfl⟩ := put_some e
    exact h _ _ ((Stp.refl G).set_dat hn le im) (fun j hj => set_ne fun z => hj (by rw [z]; exact List.mem_singleton.mpr rfl)) List.length_set
@[simp] def gsNil : Tgs := fun ds ρ => match ds with
  | [] => some ρ
  | _ => none
@[simp] def gsCons (f : Tg) (g : Tgs) : Tgs := fun ds ρ => match ds with
  | d :: r => (f d ρ).bind fun ρ1 => g r ρ1
  | [] => none
theorem xgs_nil : XGs X n [] [] gsNil := weakGs pgs_nil fun vs σ H Q ⟨ρ, ds, G, im, ρ', e, h⟩ => by
  cases im with
  | nil =>
    cases e
    exact ⟨rfl, h _ _ (Stp.refl G) (fun _ _ => rfl) rfl⟩
  | cons _ _ => cases e
end
end Q
namespace Q
open PySem PySem.Spec PyProof.Rows L2
variable [Tbl]
section
variable {X : Cx} {n : Nat} {W : XW}
theorem xgs_cons {e : Expr} {es : List Expr} {i1 i2 : List Nat} {f : Tg} {g : Tgs} (h1 : XG X n i1 e f) (h2 : XGs X n i2 es g) (hs : (assignEach (e :: es) X.env).map (·.2) = assign e X.env :: (assignEach es X.env).map (·.2) := by rfl) : XGs X n (i1 ++ i2) (e :: es) (gsCons f g) :=
  weakGs (pgs_cons h1 h2 hs) fun vs σ H Q ⟨ρ, ds, G, im, ρ2, e, h⟩ => by
    cases im with
    | nil => cases e
    | @cons v vs d ds im r =>
      have e : (f d ρ).bind (fun ρ1 => g ds ρ1) = some ρ2 := e
      cases e1 : f d ρ with
      | none =>
        rw [e1] at e
        cases e
      | some ρ1 =>
        rw [e1] at e
        exact ⟨v, vs, rfl, ρ, d, G, im, ρ1, e1, fun σ1 H1 s1 n1 l1 => ⟨ρ1, ds, s1.good, r.grow (s1.grow G), ρ2, e, fun σ2 H2 s2 n2 l2 => h σ2 H2 (s1.trans s2) (fun j hj => (n2 j fun z => hj (List.mem_append_right _ z)).trans (n1 j fun z => hj (List.mem_append_left _ z))) (l2.trans l1)⟩⟩
@[simp] def gT (c : Nat) (g : Tgs) : Tg := fun d ρ => match d with
  | .tuple ds => if ds.length = c then g ds ρ else none
  | .dict [(.bool true, a), (.bool false, b)] => if c = 2 then g [a, b] ρ else none
  | _ => none
theorem xg_tup {es : List Expr} {k c : Nat} {is : List Nat} {pos : Pos} {g : Tgs} (hc : X.calm = true) (h : XGs X n is es g) (hn : (assignEach es X.env).length = c := by rfl) (hst : (assignEach es X.env).findIdx? (·.1) = none := by rfl) : XG X n is (.Tuple es k pos) (gT c g) :=
  weakG (pg_tup hc h hn hst) fun v σ H Q ⟨ρ, d, G, im, ρ', e, h⟩ => by
    cases im with
    | @tup a xs ds hs r =>
      have e : (if ds.length = c then g ds ρ else none) = some ρ' := e
      split at e
      · next le => exact ⟨_, _, rfl, hs.sq, by rw [r.len]; exact le, ρ, ds, G, r, ρ', e, h⟩
      · cases e
    | @prm t x y a b hs h1 h2 =>
      have e : (if c = 2 then g [a, b] ρ else none) = some ρ' := e
      split at e
      · next le =>
        subst le
        exact ⟨_, _, rfl, hs, rfl, ρ, [a, b], G, .cons h1 (.cons h2 .nil), ρ', e, h⟩
      · cases e
    | scr _ => cases e
    | dic _ r =>
      cases r with
      | nil => cases e
      | @cons k _ _ _ _ _ r => cases k <;> cases e
    | _ => cases e
@[simp] def bAsg (f : Mo R) (g : Tg) : Mo Out := fun ρ => (f ρ).bind fun r ρ1 => match r with
  | .d x => nxt (g x ρ1)
  | .v _ => .no
theorem xs_asg {tg e : Expr} {is : List Nat} {pos : Pos} {f : Mo R} {g : Tg} (he : XD X n W e f) (hg : XG X n is tg g) (hs : swapsWithSole [tg] e pos.line X.env = pure false := by rfl) (hw : swappedStores [tg] e X.env = pure none := by rfl)
    (h1 : (assignEach [tg] X.env).map (·.2) = [assign tg X.env] := by rfl) : XS X n W (.Assign [tg] e pos) (bAsg f g) := weakS (ps_asg he hg hs hw h1) fun E σ H ⟨ρ, G, h⟩ => by
  refine ⟨ρ, G, (AftS.bind h).mono fun r ρ1 H1 s1 h1 v rv => ?_⟩
  cases rv with
  | v _ => exact h1.elim
  | @d x im =>
    obtain ⟨ρ2, e2, q⟩ := AftS.nxt h1
    exact ⟨ρ1, x, s1.good, im, ρ2, e2, fun σ' H' s _ _ => q σ' H' s⟩
/-! ### a, b = x, y -/
/-- a value of either kind, to be stored -/
inductive M1
  | dd (m : Mo R)
  | ff (m : Mo Ob)
abbrev tM (K : PySem.W.Frag) (n : Nat) (W : XW) : M1 → TE
  | .dd m => tX K n W m
  | .ff m => tF K n W m
abbrev XM (X : Cx) (n : Nat) (W : XW) (e : Expr) (m : M1) : Prop := PE X e (tM X.K n W m)
@[simp] def runM : M1 → Ev → Rt Sl
  | .dd m, ρ => (m ρ).bind fun r ρ1 => match r with
    | .d x => .ok (.dat x) ρ1
    | .v _ => .no
  | .ff m, ρ => (m ρ).bind fun o ρ1 => .ok (.own o) ρ1
/-- what a value to be stored is: data, or new -/
inductive SR (K : PySem.W.Frag) (H0 H : Hp) (σ : St) (ρ : Ev) : V → Sl → Prop
  | dat {v : V} {d : D} : Im K H v d → SR K H0 H σ ρ v (.dat d)
  | own {p : Addr} {h : HO} {o : Ob} : H0 p = none → H p = some h → ObR K H h o → ¬ Own σ ρ p → SR K H0 H σ ρ (.ref p) (.own o)
theorem runM_run {K : PySem.W.Frag} {m : M1} {H H0 : Hp} {σ : St} {ρ ρ0 : Ev} {E : Ends} {k : Sl → Ev → Rt Out} {Q : VK} (st : Stp K n H0 σ ρ0 H σ ρ) (h : AftS K n W E H0 σ ρ0 ((runM m ρ).bind k))
    (q : ∀ v s ρ1 H1, Stp K n H σ ρ H1 σ ρ1 → SR K H H1 σ ρ1 v s → AftS K n W E H0 σ ρ0 (k s ρ1) → Q v H1) : tM K n W m σ H Q := by
  cases m with
  | dd m =>
    refine ⟨ρ, st.good, ?_⟩
    unfold runM at h
    dsimp only at h
    generalize m ρ = z at h
    cases z with
    | no => exact h
    | ex c e ρ' => exact fun H1 s => h σ H1 (st.trans s)
    | ok r ρ1 =>
      intro H1 s1 v rv
      cases rv with
      | v _ => exact h.elim
      | @d x im => exact q v (.dat x) ρ1 H1 s1 (.dat im) h
  | ff m =>
    refine ⟨ρ, st.good, ?_⟩
    unfold runM at h
    dsimp only at h
    generalize m ρ = z at h
    cases z with
    | no => exact h
    | ex c e ρ' => exact fun H1 s => h σ H1 (st.trans s)
    | ok o ρ1 => exact fun H1 s1 p u np e r no => q _ (.own o) ρ1 H1 s1 (.own np e r no) h
theorem SR.on {K : PySem.W.Frag} {H0 H1 H2 : Hp} {σ : St} {ρ1 ρ2 : Ev} {v : V} {s : Sl} (r : SR K H0 H1 σ ρ1 v s) (G : Good K H1 σ ρ1) (st : Stp K n H1 σ ρ1 H2 σ ρ2) : SR K H0 H2 σ ρ2 v s := by
  cases r with
  | dat im => exact .dat (im.grow (st.grow G))
  | own np e r no =>
    refine .own np (st.kept _ _ e no fun ps z => r.no_tbl z) (r.grow (st.grow G)) fun z => ?_
    rcases st.news _ z with z | z
    · exact no z
    · rw [e] at z
      cases z
theorem Stp.set_sr {K : PySem.W.Frag} {H H' H0 : Hp} {σ σ' : St} {ρ ρ' : Ev} {v : V} {s : Sl} (st : Stp K n H σ ρ H' σ' ρ') {i : Nat} (hn : n ≤ i) (hi : i < ρ'.length) (r : SR K H0 H' σ' ρ' v s) (h0 : ∀ p, H0 p = none → Own σ ρ p ∨ H p = none) :
    Stp K n H σ ρ H' (σ'.set i (some v)) (ρ'.set i s) := by
  cases r with
  | dat im => exact st.set_dat hn hi im
  | own np e r no => exact st.set_own hn hi e r no (h0 _ np)
@[simp] def bPar (i j : Nat) (a b : M1) : Mo Out := fun ρ => (runM a ρ).bind fun s ρ1 => (runM b ρ1).bind fun t ρ2 => nxt ((put i s ρ2).bind (put j t))
theorem xs_par {i j : Nat} {x y : Str} {a b : Expr} {ma mb : M1} {px py pt pos : Pos} {kt k2 pt2} (hni : n ≤ i) (hnj : n ≤ j) (hc : X.calm = true) (hN : X.N.Nodup) (hi : X.N[i]? = some x) (hj : X.N[j]? = some y) (hij : i ≠ j)
    (hx : X.env.scope.names.lookup x = some .local) (hy : X.env.scope.names.lookup y = some .local) (ha : XM X n W a ma) (hb : XM X n W b mb)
    (go : ∀ {ta : TA}, PA X [a, b] ta → PS X (.Assign [.Tuple [.Name x px, .Name y py] kt pt] (.Tuple [a, b] k2 pt2) pos) (tPar i j ta)) (s1 : starEach [a, b] X.env = (false, eval a X.env) :: starEach [b] X.env := by rfl) (s2 : starEach [b] X.env = (false, eval b X.env) :: starEach [] X.env := by rfl) :
    XS X n W (.Assign [.Tuple [.Name x px, .Name y py] kt pt] (.Tuple [a, b] k2 pt2) pos) (bPar i j ma mb) := weakS (go (pa_cons ha (pa_cons hb pa_nil s2) s1)) fun E σ H ⟨ρ, G, h⟩ => by
  refine runM_run (Stp.refl G) h fun v s ρ1 H1 s1 r1 h1 => ?_
  refine runM_run s1 h1 fun u t ρ2 H2 s2 r2 h2 => ?_
  refine ⟨v, u, rfl, ?_⟩
  obtain ⟨ρ4, e4, h4⟩ := AftS.nxt h2
  cases e3 : put i s ρ2 with
  | none =>
    rw [e3] at e4
    cases e4
  | some ρ3 =>
  rw [e3] at e4
  have e4 : put j t ρ3 = some ρ4 := e4
  obtain ⟨l1, rfl⟩ := put_some e3
  obtain ⟨l2, rfl⟩ := put_some e4
  have st := (s1.trans s2).set_sr hni l1 (r1.on s1.good s2) fun p hp => .inr hp
  refine h4 _ _ (st.set_sr hnj l2 (H0 := H1) ?_ fun p hp => .inr (s1.live p hp))
  cases r2 with
  | dat im => exact .dat im
  | @own q h o nq e r no =>
    refine .own nq e r fun z => ?_
    obtain ⟨k, o1, e1, e2⟩ := z
    by_cases w : i = k
    · subst w
      rw [set_at (by rw [s2.good.len]; exact l1)] at e2
      cases e2
      rw [set_at l1] at e1
      cases e1
      cases r1 with
      | own _ e3 _ _ =>
        rw [nq] at e3
        cases e3
    · rw [set_ne w] at e1 e2
      exact no ⟨k, o1, e1, e2⟩
end
end Q
namespace Q
open PySem PySem.Spec PyProof.Rows L2
variable [Tbl]
/-! ### what is walked -/
/-- the walk gives ds, one after another, as long as tuples and locked things stay -/
def Wk (K : PySem.W.Frag) (H1 : Hp) (ds : List D) (J : It) : Prop := Walk J ds.length (fun H => Grow H1 H) fun i H x H' => Same H H' ∧ ∃ d, ds[i]? = some d ∧ Im K H' x d
def tI (K : PySem.W.Frag) (n : Nat) (W : XW) (m : Mo (List D)) : TI := fun σ H R => ∃ ρ, Good K H σ ρ ∧ Aft K n W H σ ρ (m ρ) fun ds _ H' => ∀ J, Wk K H' ds J → R J H'
abbrev XI (X : Cx) (n : Nat) (W : XW) (tg e : Expr) (m : Mo (List D)) : Prop := PI X tg e (tI X.K n W m)
section
variable {X : Cx} {n : Nat} {W : XW} {tg : Expr}
theorem weakI {e : Expr} {t t' : TI} (h : PI X tg e t) (q : ∀ σ H Q, t' σ H Q → t σ H Q) : PI X tg e t' := ⟨fun pins s σ H Q I z => h.run pins s σ H Q I (q σ H Q z)⟩
theorem PI.or {e : Expr} {t t' : TI} (h : PI X tg e t) (h' : PI X tg e t') : PI X tg e fun σ H R => t σ H R ∨ t' σ H R := ⟨fun pins s σ H R I z => z.elim (h.run pins s σ H R I) (h'.run pins s σ H R I)⟩
def sign (c : Nat) : D := .str ⟨#[c]⟩
@[simp] def iterD : D → Option (List D)
  | .tuple ds => some ds
  | .list ds => some ds
  | .str x => some (x.cps.toList.map sign)
  | .dict [(.none, _)] => none
  | .dict ((.bool _, _) :: _) => none
  | .dict kvs => some (kvs.map Prod.fst)
  | _ => none
@[simp] def iSeq (f : Mo R) : Mo (List D) := fun ρ => (f ρ).bind fun r ρ1 => match r with
  | .d x => match iterD x with
    | some ds => .ok ds ρ1
    | none => .no
  | .v _ => .no
theorem wk_list {K : PySem.W.Frag} {H : Hp} {a : Addr} {xs : List V} {ds : List D} (h : LkL K H a xs) (r : ImL K H xs ds) : Wk K H ds (Itl K a) := by
  have w := walk_list (K := K) (a := a) (xs := xs)
  rw [r.len] at w
  refine w.mono (fun H' g => (g.l h).sq) fun i H1 x H2 hi g y => ?_
  obtain ⟨rfl, e⟩ := y
  obtain ⟨d, e2, im⟩ := r.get e
  exact ⟨Same.refl _, d, e2, im.grow g⟩
theorem wk_tup {K : PySem.W.Frag} {H : Hp} {a : Addr} {xs : List V} {ds : List D} (h : SqT K H a xs) (r : ImL K H xs ds) : Wk K H ds (Itt K a) := by
  have w := walk_tup (K := K) (a := a) (xs := xs)
  rw [r.len] at w
  refine w.mono (fun H' g => g.t h) fun i H1 x H2 hi g y => ?_
  obtain ⟨rfl, e⟩ := y
  obtain ⟨d, e2, im⟩ := r.get e
  exact ⟨Same.refl _, d, e2, im.grow g⟩
theorem wk_str {K : PySem.W.Frag} {H : Hp} {z : Str} : Wk K H (z.cps.toList.map sign) (Its z) := by
  have w := walk_str (z := z)
  have e : z.cps.size = (z.cps.toList.map sign).length := by rw [List.length_map, Array.length_toList]
  rw [e] at w
  refine w.mono (fun H' g => trivial) fun i H1 x H2 hi g y => ?_
  obtain ⟨rfl, c, e, rfl⟩ := y
  refine ⟨Same.refl _, sign c, ?_, .str _⟩
  rw [List.getElem?_map, Array.getElem?_toList, e]
  rfl
theorem ImKV.key {K : PySem.W.Frag} {H : Hp} : ∀ {kvs : List (Key × V)} {ds : List (D × D)} {i : Nat} {k : Key} {v : V}, ImKV K H kvs ds → kvs[i]? = some (k, v) → ∃ d, ds[i]? = some (keyD k, d) ∧ Im K H v d
  | _, _, 0, k, v, .cons h _, g => by
    cases (Option.some.inj g)
    exact ⟨_, rfl, h⟩
  | _, _, i + 1, k, v, .cons _ r, g => ImKV.key (i := i) r g
theorem ImKV.len {K : PySem.W.Frag} {H : Hp} : ∀ {kvs : List (Key × V)} {ds : List (D × D)}, ImKV K H kvs ds → kvs.length = ds.length
  | _, _, .nil => rfl
  | _, _, .cons _ r => by rw [List.length_cons, List.length_cons, ImKV.len r]
theorem im_key {K : PySem.W.Frag} {H : Hp} (k : Key) : Im K H (kV k) (keyD k) := by
  cases k with
  | inl i => exact .int i
  | inr x => exact .str x
theorem wk_keys {K : PySem.W.Frag} {H : Hp} {a : Addr} {o : Obj} {kvs : List (Key × V)} {ds : List (D × D)} (h : H a = some (.frz o (.dK kvs))) (r : ImKV K H kvs ds) : Wk K H (ds.map Prod.fst) (Itk a o kvs) := by
  have w := walk_keys (d := a) (o := o) (kvs := kvs)
  have e : kvs.length = (ds.map Prod.fst).length := by rw [List.length_map, r.len]
  rw [e] at w
  refine w.mono (fun H' g => g.2.1 _ _ _ h) fun i H1 x H2 hi g y => ?_
  obtain ⟨rfl, k, v, e, rfl⟩ := y
  obtain ⟨d, e2, _⟩ := r.key e
  refine ⟨Same.refl _, keyD k, ?_, im_key k⟩
  rw [List.getElem?_map, e2]
  rfl
theorem xi_seq {e : Expr} {f : Mo R} (h : XD X n W e f) : XI X n W tg e (iSeq f) := weakI (PI.or (PI.or (pi_list h) (pi_tup h)) (PI.or (pi_str h) (pi_keys h))) fun σ H Q ⟨ρ, G, h⟩ => by
  unfold iSeq at h
  cases e : f ρ with
  | no =>
    rw [e] at h
    exact h.elim
  | ex c d ρ' =>
    refine .inl (.inl ⟨ρ, G, ?_⟩)
    rw [e] at h ⊢
    exact h
  | ok r ρ1 =>
    rw [e] at h
    cases r with
    | v _ => exact h.elim
    | d x =>
      cases x with
      | list ds =>
        refine .inl (.inl ⟨ρ, G, ?_⟩)
        rw [e]
        intro H1 s1 v rv
        cases rv with
        | d im => cases im with
          | lst h1 h2 => exact ⟨_, rfl, ⟨_, h1.sq⟩, h H1 s1 _ (wk_list h1 h2)⟩
      | tuple ds =>
        refine .inl (.inr ⟨ρ, G, ?_⟩)
        rw [e]
        intro H1 s1 v rv
        cases rv with
        | d im => cases im with
          | tup h1 h2 => exact ⟨_, rfl, ⟨_, h1.sq⟩, h H1 s1 _ (wk_tup h1.sq h2)⟩
      | str z =>
        refine .inr (.inl ⟨ρ, G, ?_⟩)
        rw [e]
        intro H1 s1 v rv
        cases rv with
        | d im => cases im with
          | str _ => exact ⟨z, rfl, h H1 s1 _ wk_str⟩
      | dict kvs =>
        refine .inr (.inr ⟨ρ, G, ?_⟩)
        rw [e]
        intro H1 s1 v rv
        cases rv with
        | d im => cases im with
          | scr _ => exact h.elim
          | prm _ _ _ => exact h.elim
          | @dic a o ks ds h1 h2 =>
            refine ⟨_, _, rfl, .inl ⟨_, h1, ?_⟩⟩
            have ei : iterD (.dict kvs) = some (kvs.map Prod.fst) := by
              cases h2 with
              | nil => rfl
              | @cons k _ _ _ _ _ r => cases k <;> rfl
            have h : Aft X.K n W H σ ρ (match iterD (.dict kvs) with
              | some ds => Rt.ok ds ρ1
              | none => .no) fun ds _ H' => ∀ J, Wk X.K H' ds J → Q J H' := h
            rw [ei] at h
            exact h H1 s1 _ (wk_keys h1 h2)
      | none => exact h.elim
      | bool _ => exact h.elim
      | int _ => exact h.elim
/-! ### range -/
def rngD (lo : Int) (k : Nat) : List D := (List.range k).map fun i => .int (lo + (i : Nat))
noncomputable def small (i : Int) : Bool := cb (-(2 ^ 62) ≤ i ∧ i < 2 ^ 62)
noncomputable def range1D : List D → Option (List D)
  | [.int j] => if small j = true then some (rngD 0 j.toNat) else none
  | _ => none
noncomputable def range2D : List D → Option (List D)
  | [.int i, .int j] => if small i = true ∧ small j = true then some (rngD i (j - i).toNat) else none
  | _ => none
@[simp] def outL : Option (List D) → Mo (List D)
  | some ds, ρ => .ok ds ρ
  | none, _ => .no
theorem Aft.outL {K : PySem.W.Frag} {n : Nat} {W : XW} {H : Hp} {σ : St} {ρ ρ1 : Ev} {o : Option (List D)} {Q : List D → Ev → Hp → Prop} (h : Aft K n W H σ ρ (outL o ρ1) Q) : ∃ ds, o = some ds ∧ Aft K n W H σ ρ (.ok ds ρ1) Q := by
  cases o with
  | none => exact h.elim
  | some ds => exact ⟨ds, rfl, h⟩
@[simp] def iN (F : List D → Option (List D)) (f : Mo (List R)) : Mo (List D) := fun ρ => (f ρ).bind fun rs ρ1 => outL ((datas rs).bind F) ρ1
theorem wk_range {K : PySem.W.Frag} {H : Hp} {lo : Int} {k : Nat} : Wk K H (rngD lo k) (Itr lo k) := by
  have w := walk_range (lo := lo) (n := k)
  have e : k = (rngD lo k).length := by unfold rngD; rw [List.length_map, List.length_range]
  have w2 : Walk (Itr lo k) (rngD lo k).length (fun _ => True) (YFn fun i => .int (lo + i)) := by rw [← e]; exact w
  refine w2.mono (fun H' g => trivial) fun i H1 x H2 hi g y => ?_
  obtain ⟨rfl, rfl⟩ := y
  refine ⟨Same.refl _, .int (lo + (i : Nat)), ?_, .int _⟩
  unfold rngD at hi ⊢
  rw [List.length_map, List.length_range] at hi
  rw [List.getElem?_map, List.getElem?_range hi]
  rfl
theorem xi_range1 {a : Expr} {p pos : Pos} {f : Mo (List R)} (hg : Gl X "range") (hm : X.mg "range" = none) (ha : XA X n W [a] f) (hs : starEach [a] X.env = [(false, eval a X.env)] := by rfl) : XI X n W tg (.Call (.Name "range" p) [a] [] pos) (iN range1D f) :=
  weakI (pi_range1 hg hm ha hs) fun σ H Q ⟨ρ, G, h⟩ => by
    refine ⟨ρ, G, (Aft.bind h).mono fun rs ρ1 H1 s1 h1 vs rvs => ?_⟩
    obtain ⟨ds, e, h1⟩ := h1.outL
    · cases ed : datas rs with
      | none =>
        rw [ed] at e
        cases e
      | some es =>
        rw [ed] at e
        have e : range1D es = some ds := e
        unfold range1D at e
        split at e
        · next j _ =>
          split at e
          · next le =>
            cases e
            have im := rvs.datas ed
            cases im with
            | cons i1 r => cases r; cases i1; exact ⟨j, rfl, (of_cb le).1, (of_cb le).2, Aft.ok s1.good h1 _ wk_range⟩
          · cases e
        · cases e
theorem xi_range2 {a b : Expr} {p pos : Pos} {f : Mo (List R)} (hg : Gl X "range") (hm : X.mg "range" = none) (ha : XA X n W [a, b] f) (hs : starEach [a, b] X.env = [(false, eval a X.env), (false, eval b X.env)] := by rfl) (hs2 : starEach [b] X.env = [(false, eval b X.env)] := by rfl) :
    XI X n W tg (.Call (.Name "range" p) [a, b] [] pos) (iN range2D f) :=
  weakI (pi_range2 hg hm ha hs hs2) fun σ H Q ⟨ρ, G, h⟩ => by
    refine ⟨ρ, G, (Aft.bind h).mono fun rs ρ1 H1 s1 h1 vs rvs => ?_⟩
    obtain ⟨ds, e, h1⟩ := h1.outL
    · cases ed : datas rs with
      | none =>
        rw [ed] at e
        cases e
      | some es =>
        rw [ed] at e
        have e : range2D es = some ds := e
        unfold range2D at e
        split at e
        · next i j _ =>
          split at e
          · next le =>
            cases e
            have im := rvs.datas ed
            cases im with
            | cons i1 r => cases r with
              | cons i2 r =>
                cases r; cases i1; cases i2
                exact ⟨i, j, rfl, ⟨(of_cb le.1).1, (of_cb le.1).2, (of_cb le.2).1, (of_cb le.2).2⟩, Aft.ok s1.good h1 _ wk_range⟩
          · cases e
        · cases e
/-! ### for -/
def loopD (g : Tg) (b : Mo Out) : List D → Mo Out
  | [], ρ => .ok .nx ρ
  | d :: ds, ρ => match g d ρ with
    | none => .no
    | some ρ1 => (b ρ1).bind fun o ρ2 => match o with
      | .nx => loopD g b ds ρ2
      | .ct => loopD g b ds ρ2
      | .bk => .ok .nx ρ2
      | .rt r => .ok (.rt r) ρ2
      | .rf r => .ok (.rf r) ρ2
@[simp] def bFor (it : Mo (List D)) (g : Tg) (b : Mo Out) : Mo Out := fun ρ => (it ρ).bind fun ds ρ1 => loopD g b ds ρ1
theorem xs_for {iter : Expr} {body : List Stmt} {is : List Nat} {pos : Pos} {it : Mo (List D)} {g : Tg} {b : Mo Out} (hp : PassesOwn (model X.prog X.w) X.A X.env X.xe) (hc : X.calm = true) (hi : XI X n W tg iter it) (hg : XG X n is tg g) (hb : XSs X n W body b)
    (hs : ∀ x, foldedSetIterable iter X.env x = pure x := by intro _; rfl) : XS X n W (.For tg iter body [] pos) (bFor it g b) := weakS (ps_for hp hc hi hg hb hs) fun E σ H ⟨ρ, G, h⟩ => by
  refine ⟨ρ, G, (AftS.bind h).mono fun ds ρ1 H1 s1 h1 J wk => ?_⟩
  refine for_it wk (fun i σ' H' => ∃ ρ', Stp X.K n H1 σ ρ1 H' σ' ρ' ∧ AftS X.K n W E H1 σ ρ1 (loopD g b (ds.drop i) ρ')) ⟨ρ1, Stp.refl s1.good, h1⟩ (fun i σ' H' _ ⟨ρ', st, _⟩ => st.grow s1.good) (fun i x σ' H' H2 hi hP hY => ?_) (fun σ' H' ⟨ρ', st, h'⟩ => ?_)
  · obtain ⟨ρ', st, h'⟩ := hP
    obtain ⟨sm, d, ed, im⟩ := hY
    have es : ds.drop i = d :: ds.drop (i + 1) := by
      have lt : i < ds.length := hi
      rw [List.drop_eq_getElem_cons lt]
      rw [List.getElem?_eq_getElem lt] at ed
      rw [Option.some.inj ed]
    rw [es] at h'
    have st2 := st.trans (Stp.same st.good sm)
    unfold loopD at h'
    cases eg : g d ρ' with
    | none =>
      rw [eg] at h'
      exact h'.elim
    | some ρ2 =>
      rw [eg] at h'
      refine ⟨ρ', d, st2.good, im, ρ2, eg, fun σ3 H3 s3 _ _ => ⟨ρ2, s3.good, ?_⟩⟩
      have st3 := st2.trans s3
      dsimp only at h'
      generalize b ρ2 = z at h'
      cases z with
      | no => exact h'
      | ex c e ρ3 => exact fun σ4 H4 s4 => h' σ4 H4 (st3.trans s4)
      | ok o ρ3 => cases o with
        | nx => exact fun σ4 H4 s4 => ⟨ρ3, st3.trans s4, h'⟩
        | ct => exact fun σ4 H4 s4 => ⟨ρ3, st3.trans s4, h'⟩
        | bk => exact fun σ4 H4 s4 => h' σ4 H4 (st3.trans s4)
        | rt r => exact fun v σ4 H4 s4 rv => h' v σ4 H4 (st3.trans s4) rv
        | rf o => exact fun p u σ4 H4 s4 np => h' p u σ4 H4 (st3.trans s4) (st3.live p np)
  · rw [List.drop_length] at h'
    exact h' σ' H' st
/-! ### while -/
def whileD (c : Mo Bool) (b : Mo Out) : Nat → Mo Out
  | 0, _ => .no
  | k + 1, ρ => (c ρ).bind fun t ρ1 => if t = true then (b ρ1).bind fun o ρ2 => match o with
      | .nx => whileD c b k ρ2
      | .ct => whileD c b k ρ2
      | .bk => .ok .nx ρ2
      | .rt r => .ok (.rt r) ρ2
      | .rf r => .ok (.rf r) ρ2
    else .ok .nx ρ1
theorem xs_while {c : Expr} {body : List Stmt} {pos : Pos} {fc : Mo Bool} {b : Mo Out} (k : Nat) (hp : PassesOwn (model X.prog X.w) X.A X.env X.xe) (hc : XB X n W c fc) (hb : XSs X n W body b) : XS X n W (.While c body [] pos) (whileD fc b k) := weakS (ps_while hp hc hb) fun E σ H ⟨ρ, G, h⟩ => by
  refine ⟨fun m σ' H' => ∃ ρ', Stp X.K n H σ ρ H' σ' ρ' ∧ AftS X.K n W E H σ ρ (whileD fc b m ρ'), ⟨k, ρ, Stp.refl G, h⟩, fun m σ' H' hW => ?_⟩
  obtain ⟨ρ', st, h'⟩ := hW
  cases m with
  | zero => exact h'.elim
  | succ m =>
    refine ⟨ρ', st.good, (AftS.bind' st h').mono fun t ρ1 H1 s1 h1 => ?_⟩
    have st1 := st.trans s1
    cases t with
    | false => exact iteF (h1 σ' H1 st1)
    | true =>
      refine iteT ⟨fun σ2 H2 => ∃ ρ2, Stp X.K n H σ ρ H2 σ2 ρ2 ∧ AftS X.K n W E H σ ρ (whileD fc b m ρ2), fun σ2 H2 w2 => ⟨m, Nat.lt_succ_self m, w2⟩, ρ1, s1.good, ?_⟩
      have h1 : AftS X.K n W E H σ ρ ((b ρ1).bind fun o ρ2 => match o with
        | .nx => whileD fc b m ρ2
        | .ct => whileD fc b m ρ2
        | .bk => .ok .nx ρ2
        | .rt r => .ok (.rt r) ρ2
        | .rf r => .ok (.rf r) ρ2) := h1
      generalize b ρ1 = z at h1
      cases z with
      | no => exact h1
      | ex c e ρ3 => exact fun σ4 H4 s4 => h1 σ4 H4 (st1.trans s4)
      | ok o ρ3 => cases o with
        | nx => exact fun σ4 H4 s4 => ⟨ρ3, st1.trans s4, h1⟩
        | ct => exact fun σ4 H4 s4 => ⟨ρ3, st1.trans s4, h1⟩
        | bk => exact fun σ4 H4 s4 => h1 σ4 H4 (st1.trans s4)
        | rt r => exact fun v σ4 H4 s4 rv => h1 v σ4 H4 (st1.trans s4) rv
        | rf o => exact fun p u σ4 H4 s4 np => h1 p u σ4 H4 (st1.trans s4) (st1.live p np)
end
end Q
namespace Q
open PySem PySem.Spec PyProof.Rows L2
variable [Tbl]
/-! ### comprehensions -/
@[simp] def wipeE (ρ : Ev) : List Nat → Ev
  | [] => ρ
  | v :: vs => (wipeE ρ vs).set v .no
@[simp] def mixE (ρ0 ρ : Ev) : List Nat → Ev
  | [] => ρ
  | v :: vs => (mixE ρ0 ρ vs).set v (ρ0.getD v .no)
theorem wipeE_len (ρ : Ev) : ∀ vs, (wipeE ρ vs).length = ρ.length
  | [] => rfl
  | v :: vs => by
    show ((wipeE ρ vs).set v .no).length = _
    rw [List.length_set, wipeE_len ρ vs]
theorem mixE_len (ρ0 ρ : Ev) : ∀ vs, (mixE ρ0 ρ vs).length = ρ.length
  | [] => rfl
  | v :: vs => by
    show ((mixE ρ0 ρ vs).set v _).length = _
    rw [List.length_set, mixE_len ρ0 ρ vs]
theorem wipe_in {σ : St} {j : Nat} : ∀ {vs : List Nat}, j ∈ vs → j < σ.length → (wipe σ vs)[j]? = some none
  | v :: vs, h, lt => by
    show ((wipe σ vs).set v none)[j]? = some none
    by_cases e : v = j
    · subst e
      exact set_at (by rw [wipe_length]; exact lt)
    · rw [set_ne e]
      refine wipe_in ?_ lt
      rcases List.mem_cons.mp h with z | z
      · exact absurd z.symm e
      · exact z
theorem wipe_out {σ : St} {j : Nat} : ∀ {vs : List Nat}, j ∉ vs → (wipe σ vs)[j]? = σ[j]?
  | [], _ => rfl
  | v :: vs, h => by
    show ((wipe σ vs).set v none)[j]? = _
    rw [set_ne fun e => h (by rw [e]; exact List.mem_cons_self)]
    exact wipe_out fun z => h (List.mem_cons_of_mem _ z)
theorem wipeE_in {ρ : Ev} {j : Nat} : ∀ {vs : List Nat}, j ∈ vs → j < ρ.length → (wipeE ρ vs)[j]? = some .no
  | v :: vs, h, lt => by
    show ((wipeE ρ vs).set v .no)[j]? = some .no
    by_cases e : v = j
    · subst e
      exact set_at (by rw [wipeE_len]; exact lt)
    · rw [set_ne e]
      refine wipeE_in ?_ lt
      rcases List.mem_cons.mp h with z | z
      · exact absurd z.symm e
      · exact z
theorem wipeE_out {ρ : Ev} {j : Nat} : ∀ {vs : List Nat}, j ∉ vs → (wipeE ρ vs)[j]? = ρ[j]?
  | [], _ => rfl
  | v :: vs, h => by
    show ((wipeE ρ vs).set v .no)[j]? = _
    rw [set_ne fun e => h (by rw [e]; exact List.mem_cons_self)]
    exact wipeE_out fun z => h (List.mem_cons_of_mem _ z)
theorem wipeE_some {ρ : Ev} {j : Nat} {vs : List Nat} {s : Sl} (h : (wipeE ρ vs)[j]? = some s) (ne : s ≠ .no) : j ∉ vs ∧ ρ[j]? = some s := by
  have lt : j < ρ.length := by
    have := (List.getElem?_eq_some_iff.mp h).1
    rw [wipeE_len] at this
    exact this
  by_cases z : j ∈ vs
  · rw [wipeE_in z lt] at h
    cases h
    exact absurd rfl ne
  · rw [wipeE_out z] at h
    exact ⟨z, h⟩
theorem mixE_in {ρ0 ρ : Ev} {j : Nat} (l0 : ρ0.length = ρ.length) : ∀ {vs : List Nat}, j ∈ vs → j < ρ.length → (mixE ρ0 ρ vs)[j]? = ρ0[j]?
  | v :: vs, h, lt => by
    show ((mixE ρ0 ρ vs).set v _)[j]? = _
    by_cases e : v = j
    · subst e
      rw [set_at (by rw [mixE_len]; exact lt), List.getD_eq_getElem?_getD, List.getElem?_eq_getElem (by omega)]
      rfl
    · rw [set_ne e]
      refine mixE_in l0 ?_ lt
      rcases List.mem_cons.mp h with z | z
      · exact absurd z.symm e
      · exact z
theorem mixE_out {ρ0 ρ : Ev} {j : Nat} : ∀ {vs : List Nat}, j ∉ vs → (mixE ρ0 ρ vs)[j]? = ρ[j]?
  | [], _ => rfl
  | v :: vs, h => by
    show ((mixE ρ0 ρ vs).set v _)[j]? = _
    rw [set_ne fun e => h (by rw [e]; exact List.mem_cons_self)]
    exact mixE_out fun z => h (List.mem_cons_of_mem _ z)
theorem wipe_eq {σ σ2 : St} {vs : List Nat} (l : σ2.length = σ.length) (h : ∀ j, j ∉ vs → σ2[j]? = (wipe σ vs)[j]?) : wipe σ2 vs = wipe σ vs := by
  apply List.ext_getElem?
  intro j
  by_cases z : j ∈ vs
  · by_cases lt : j < σ.length
    · rw [wipe_in z lt, wipe_in z (by omega)]
    · rw [List.getElem?_eq_none (by rw [wipe_length]; omega), List.getElem?_eq_none (by rw [wipe_length]; omega)]
  · rw [wipe_out z, h j z]
section
variable {K : PySem.W.Frag} {n : Nat} {H H1 H2 H' : Hp} {σ σ1 σ2 σ' : St} {ρ ρ1 ρ2 ρ' : Ev} {vs : List Nat}
theorem Own.wipe {p : Addr} (h : Own (wipe σ vs) (wipeE ρ vs) p) : Own σ ρ p := by
  obtain ⟨i, o, e1, e2⟩ := h
  obtain ⟨ni, e3⟩ := wipeE_some e1 (fun z => nomatch z)
  rw [wipe_out ni] at e2
  exact ⟨i, o, e3, e2⟩
theorem Good.wipe (G : Good K H σ ρ) (vs : List Nat) : Good K H (wipe σ vs) (wipeE ρ vs) := by
  refine ⟨by rw [wipe_length, wipeE_len, G.len], fun i d h => ?_, fun i o h => ?_, fun i j o o' p h1 h2 h3 h4 => ?_, G.tab, fun i c f d h => ?_⟩
  · obtain ⟨ni, e⟩ := wipeE_some h (fun z => nomatch z)
    rw [wipe_out ni]
    exact G.dat i d e
  · obtain ⟨ni, e⟩ := wipeE_some h (fun z => nomatch z)
    rw [wipe_out ni]
    exact G.own i o e
  · obtain ⟨ni, e1⟩ := wipeE_some h1 (fun z => nomatch z)
    obtain ⟨nj, e2⟩ := wipeE_some h2 (fun z => nomatch z)
    rw [wipe_out ni] at h3
    rw [wipe_out nj] at h4
    exact G.dif i j o o' p e1 e2 h3 h4
  · obtain ⟨ni, e⟩ := wipeE_some h (fun z => nomatch z)
    rw [wipe_out ni]
    exact G.exc i c f d e
theorem Stp.wiped (s : Stp K n H σ ρ H' σ' ρ') (hv : ∀ v ∈ vs, n ≤ v) : Stp K n H σ ρ H' (wipe σ' vs) (wipeE ρ' vs) := by
  refine ⟨s.good.wipe vs, fun i hi => ?_, s.kept, fun p h => s.news p h.wipe, s.live⟩
  have ni : i ∉ vs := fun z => by
    have := hv i z
    omega
  rw [wipe_out ni, wipeE_out ni]
  exact s.par i hi
/-- behind a comprehension: its own names are as they were ahead -/
theorem Stp.mixed (G : Good K H σ ρ) (hv : ∀ v ∈ vs, n ≤ v) (ho : ∀ v ∈ vs, ∀ o, ρ[v]? ≠ some (.own o)) (s : Stp K n H (wipe σ vs) (wipeE ρ vs) H' (wipe σ vs) ρ') : Stp K n H σ ρ H' σ (mixE ρ ρ' vs) := by
  have l : ρ.length = ρ'.length := by
    have := s.good.len
    rw [wipe_length, G.len] at this
    exact this
  have g := s.grow (G.wipe vs)
  have own : ∀ i o, (mixE ρ ρ' vs)[i]? = some (.own o) → i ∉ vs ∧ ρ'[i]? = some (.own o) := fun i o h => by
    by_cases z : i ∈ vs
    · rw [mixE_in l z (by have := (List.getElem?_eq_some_iff.mp h).1; rw [mixE_len] at this; exact this)] at h
      exact absurd h (ho i z o)
    · rw [mixE_out z] at h
      exact ⟨z, h⟩
  have own2 : ∀ p, Own σ (mixE ρ ρ' vs) p → Own (wipe σ vs) ρ' p := fun p h => by
    obtain ⟨i, o, e1, e2⟩ := h
    obtain ⟨z, e3⟩ := own i o e1
    exact ⟨i, o, e3, by rw [wipe_out z]; exact e2⟩
  have ow3 : ∀ p, Own σ ρ p → Own (wipe σ vs) (wipeE ρ vs) p := fun p h => by
    obtain ⟨i, o, e1, e2⟩ := h
    have z : i ∉ vs := fun z => ho i z o e1
    exact ⟨i, o, by rw [wipeE_out z]; exact e1, by rw [wipe_out z]; exact e2⟩
  refine ⟨⟨by rw [mixE_len, ← l, G.len], fun i d h => ?_, fun i o h => ?_, fun i j o o' p h1 h2 h3 h4 => ?_, s.good.tab, fun i c f d h => ?_⟩, fun i hi => ⟨rfl, fun o h => ?_⟩, fun b o h nb => s.kept b o h fun z => nb z.wipe, fun p h => ?_, s.live⟩
  · by_cases z : i ∈ vs
    · rw [mixE_in l z (by have := (List.getElem?_eq_some_iff.mp h).1; rw [mixE_len] at this; exact this)] at h
      obtain ⟨v, e, im⟩ := G.dat i d h
      exact ⟨v, e, im.grow g⟩
    · rw [mixE_out z] at h
      obtain ⟨v, e, im⟩ := s.good.dat i d h
      rw [wipe_out z] at e
      exact ⟨v, e, im⟩
  · obtain ⟨z, e⟩ := own i o h
    obtain ⟨p, u, e1, e2⟩ := s.good.own i o e
    rw [wipe_out z] at e1
    exact ⟨p, u, e1, e2⟩
  · obtain ⟨z1, e1⟩ := own i o h1
    obtain ⟨z2, e2⟩ := own j o' h2
    exact s.good.dif i j o o' p e1 e2 (by rw [wipe_out z1]; exact h3) (by rw [wipe_out z2]; exact h4)
  · by_cases z : i ∈ vs
    · rw [mixE_in l z (by have := (List.getElem?_eq_some_iff.mp h).1; rw [mixE_len] at this; exact this)] at h
      exact (G.exc i c f d h).elim fun a q => ⟨a, q.1, q.2.grow g⟩
    · rw [mixE_out z] at h
      obtain ⟨v, e, im⟩ := s.good.exc i c f d h
      rw [wipe_out z] at e
      exact ⟨v, e, im⟩
  · have z : i ∉ vs := fun z => by
      have := hv i z
      omega
    rw [mixE_out z]
    exact (s.par i hi).2 o (by rw [wipeE_out z]; exact h)
  · rcases s.news p (own2 p h) with z | z
    · exact .inl z.wipe
    · exact .inr z
/-- a thing beside the slots is changed -/
theorem Stp.beside (s : Stp K n H σ ρ H' σ' ρ') {p : Addr} {h u : HO} (np : H p = none) (e : H' p = some h) (m : Mut (some h)) (nt : NoTab h) (no : ¬ Own σ' ρ' p) : Stp K n H σ ρ (upd H' p u) σ' ρ' := by
  refine ⟨s.good.grow (grow_upd e m (noTab_code nt)) (fun q o hq eq => ?_) (TabOk.upd e m nt), s.par, fun b o eb nb nt => ?_, s.news, fun b hb => s.live b (live_upd e b hb)⟩
  · rw [upd_ne fun z => no (by rw [← z]; exact hq)]
    exact eq
  · rw [upd_ne (ne_of_none eb np)]
    exact s.kept b o eb nb nt
end
abbrev W0 : XW := fun _ _ _ _ => False
@[simp] def Rt.bnd {α β : Type} : Rt α → (α → Ev → Rt β) → Rt β
  | .ok a ρ, k => k a ρ
  | _, _ => .no
def compD (g : Tg) (t : Mo Bool) (e : Mo R) (vs : List Nat) : List D → Mo (List D)
  | [], ρ => .ok [] ρ
  | d :: ds, ρ => match g d ρ with
    | none => .no
    | some ρ1 => (t ρ1).bnd fun b ρ2 => if b = true then (e ρ2).bnd fun r ρ3 => match r with
        | .d x => (compD g t e vs ds (wipeE ρ3 vs)).bnd fun xs ρ4 => .ok (x :: xs) ρ4
        | .v _ => .no
      else compD g t e vs ds (wipeE ρ2 vs)
@[simp] def noOwn (ρ : Ev) : List Nat → Bool
  | [] => true
  | v :: vs => (match ρ[v]? with
    | some (.own _) => false
    | _ => true) && noOwn ρ vs
theorem noOwn_at {ρ : Ev} : ∀ {vs : List Nat}, noOwn ρ vs = true → ∀ v ∈ vs, ∀ o, ρ[v]? ≠ some (.own o)
  | v :: vs, h, w, hw, o, e => by
    have h : ((match ρ[v]? with
      | some (.own _) => false
      | _ => true) && noOwn ρ vs) = true := h
    rw [Bool.and_eq_true] at h
    rcases List.mem_cons.mp hw with z | z
    · rw [← z, e] at h
      exact absurd h.1 Bool.false_ne_true
    · exact noOwn_at h.2 w z o e
@[simp] def fComp (it : Mo (List D)) (g : Tg) (t : Mo Bool) (e : Mo R) (vs : List Nat) : Mo Ob := fun ρ => (it ρ).bind fun ds ρ1 => if ds.length ≤ sizeLine ∧ noOwn ρ1 vs = true then (compD g t e vs ds (wipeE ρ1 vs)).bnd fun xs ρ2 => .ok (.lst xs) (mixE ρ1 ρ2 vs) else .no
@[simp] def bYes : Mo Bool := fun ρ => .ok true ρ
theorem xts_nil {X : Cx} {n : Nat} {W : XW} : PTs X [] (tXb X.K n W bYes) := ⟨fun pins s σ H Q I ⟨ρ, G, h⟩ => (pts_nil (X := X)).run pins s σ H Q I (Aft.ok G h)⟩
theorem xts_one {X : Cx} {n : Nat} {W : XW} {c : Expr} {f : Mo Bool} (h : XB X n W c f) : PTs X [c] (tXb X.K n W f) := pts_one h
section
variable {X : Cx} {n : Nat} {W : XW} {tg : Expr}
theorem comp_run {K : PySem.W.Frag} {is vs : List Nat} {it : Mo (List D)} {g : Tg} {t : Mo Bool} {e : Mo R} (his : ∀ i ∈ is, i ∈ vs) (hn : ∀ v ∈ vs, n ≤ v) (σ : St) (H : Hp) (Q : VK) (h : tF K n W (fComp it g t e vs) σ H Q) : tLc (tI K n W it) (tG K n is g) (tXb K n W0 t) (tX K n W0 e) vs σ H Q := by
  obtain ⟨ρ, G, h⟩ := h
  refine ⟨ρ, G, (Aft.bind h).mono fun ds ρ1 H1 s1 h1 J wk D hD => ?_⟩
  split at h1
  case isFalse => exact h1.elim
  case isTrue hc =>
  obtain ⟨hl, hno⟩ := hc
  have sD := same_upd (o := .lst []) hD
  have no1 : ¬ Own (wipe σ vs) (wipeE ρ1 vs) D := fun z => new_own s1.good hD z.wipe
  have stD : Stp K n H1 (wipe σ vs) (wipeE ρ1 vs) (upd H1 D (.lst [])) (wipe σ vs) (wipeE ρ1 vs) := Stp.same (s1.good.wipe vs) sD
  refine lc_it wk (fun i H' => ∃ ρ' acc ads, Stp K n H1 (wipe σ vs) (wipeE ρ1 vs) H' (wipe σ vs) ρ' ∧ H' D = some (.lst acc) ∧ ImL K H' acc ads ∧ acc.length ≤ i ∧ ¬ Own (wipe σ vs) ρ' D ∧
      ∃ xs ρ2, compD g t e vs (ds.drop i) ρ' = .ok xs ρ2 ∧ compD g t e vs ds (wipeE ρ1 vs) = .ok (ads ++ xs) ρ2) ?_ (fun i H' _ hP => ?_) (fun i x H' H2 hi hP hY => ?_) (fun H' hP => ?_)
  · cases ec : compD g t e vs ds (wipeE ρ1 vs) with
    | no =>
      rw [ec] at h1
      exact h1.elim
    | ex c d ρ' =>
      rw [ec] at h1
      exact h1.elim
    | ok xs ρ2 => exact ⟨_, [], [], stD, upd_same, .nil, Nat.le_refl _, no1, xs, ρ2, ec, rfl⟩
  · obtain ⟨ρ', acc, ads, st, _⟩ := hP
    exact st.grow (s1.good.wipe vs)
  · obtain ⟨ρ', acc, ads, st, eD, im, la, no, xs, ρ2, ec, et⟩ := hP
    obtain ⟨sm, d, ed, imx⟩ := hY
    have lt : i < ds.length := hi
    have es : ds.drop i = d :: ds.drop (i + 1) := by
      rw [List.drop_eq_getElem_cons lt]
      rw [List.getElem?_eq_getElem lt] at ed
      rw [Option.some.inj ed]
    rw [es] at ec
    have st2 := st.trans (Stp.same st.good sm)
    have eD2 := sm _ _ eD
    have im2 := im.same sm
    -- D is kept by a step
    have keep : ∀ {Ha Hb : Hp} {σa σb : St} {ρa ρb : Ev}, Good K Ha σa ρa → Ha D = some (.lst acc) → ¬ Own σa ρa D → Stp K n Ha σa ρa Hb σb ρb → Hb D = some (.lst acc) ∧ ¬ Own σb ρb D := fun {Ha Hb σa σb ρa ρb} G e no s => by
      refine ⟨s.kept _ _ e no (fun ps z => nomatch z), fun z => ?_⟩
      rcases s.news _ z with z | z
      · exact no z
      · rw [e] at z
        cases z
    unfold compD at ec
    cases eg : g d ρ' with
    | none =>
      rw [eg] at ec
      cases ec
    | some ρ3 =>
      rw [eg] at ec
      refine ⟨ρ', d, st2.good, imx, ρ3, eg, fun σ3 H3 s3 nj l3 => ?_⟩
      have l3 : σ3.length = σ.length := by rw [l3, wipe_length]
      have ew : wipe σ3 vs = wipe σ vs := wipe_eq l3 fun j hj => nj j fun z => hj (his j z)
      refine ⟨ew, ρ3, s3.good, ?_⟩
      obtain ⟨eD3, no3⟩ := keep st2.good eD2 no s3
      have im3 := im2.grow (s3.grow st2.good)
      have st3 := st2.trans s3
      dsimp only at ec
      cases ett : t ρ3 with
      | no =>
        rw [ett] at ec
        cases ec
      | ex c e ρ4 =>
        rw [ett] at ec
        cases ec
      | ok b ρ4 =>
        rw [ett] at ec
        intro H4 s4
        obtain ⟨eD4, no4⟩ := keep s3.good eD3 no3 s4
        have im4 := im3.grow (s4.grow s3.good)
        have st4 := st3.trans s4
        cases b with
        | false =>
          refine iteF ⟨wipeE ρ4 vs, acc, ads, ?_, eD4, im4, by omega, fun z => ?_, xs, ρ2, ec, et⟩
          · have := st4.wiped (vs := vs) hn
            rw [ew] at this
            exact this
          · rw [← ew] at z
            exact no4 z.wipe
        | true =>
          refine iteT ⟨ρ4, s4.good, ?_⟩
          have ec : (e ρ4).bnd (fun r ρ3 => match r with
            | .d x => (compD g t e vs (ds.drop (i + 1)) (wipeE ρ3 vs)).bnd fun xs ρ4 => .ok (x :: xs) ρ4
            | .v _ => .no) = .ok xs ρ2 := ec
          cases ee : e ρ4 with
          | no =>
            rw [ee] at ec
            cases ec
          | ex c f ρ5 =>
            rw [ee] at ec
            cases ec
          | ok r ρ5 =>
            rw [ee] at ec
            intro H5 s5 v rv
            obtain ⟨eD5, no5⟩ := keep s4.good eD4 no4 s5
            have im5 := im4.grow (s5.grow s4.good)
            have st5 := st4.trans s5
            cases rv with
            | v _ => cases ec
            | @d x imv =>
              have ec : (compD g t e vs (ds.drop (i + 1)) (wipeE ρ5 vs)).bnd (fun xs ρ4 => .ok (x :: xs) ρ4) = .ok xs ρ2 := ec
              cases er : compD g t e vs (ds.drop (i + 1)) (wipeE ρ5 vs) with
              | no =>
                rw [er] at ec
                cases ec
              | ex c f ρ6 =>
                rw [er] at ec
                cases ec
              | ok ys ρ6 =>
                rw [er] at ec
                cases ec
                have gu : Grow H5 (upd H5 D (.lst (acc ++ [v]))) := grow_upd eD5 trivial (noTab_code (h := .lst _) trivial)
                refine ⟨acc, eD5, by omega, wipeE ρ5 vs, acc ++ [v], ads ++ [x], ?_, upd_same, (im5.append (.cons imv .nil)).grow gu, by rw [List.length_append]; show acc.length + 1 ≤ _; omega, fun z => ?_, ys, ρ2, er, by rw [et, List.append_assoc]; rfl⟩
                · have := (st5.beside (u := .lst (acc ++ [v])) hD eD5 trivial trivial no5).wiped (vs := vs) hn
                  rw [ew] at this
                  exact this
                · rw [← ew] at z
                  exact no5 z.wipe
  · obtain ⟨ρ', acc, ads, st, eD, im, la, no, xs, ρ2, ec, et⟩ := hP
    rw [List.drop_length] at ec
    cases ec
    rw [List.append_nil] at et
    rw [et] at h1
    have stF := Stp.mixed s1.good hn (noOwn_at hno) st
    refine h1 H' stF D _ (s1.live D hD) eD (.lst im) fun z => ?_
    obtain ⟨j, o, e1, e2⟩ := z
    by_cases w : j ∈ vs
    · have l : ρ1.length = ρ'.length := by
        have a := s1.good.len
        have b := st.good.len
        rw [wipe_length] at b
        omega
      rw [mixE_in l w (by have := (List.getElem?_eq_some_iff.mp e1).1; rw [mixE_len] at this; exact this)] at e1
      exact noOwn_at hno j w o e1
    · rw [mixE_out w] at e1
      exact no ⟨j, o, e1, by rw [wipe_out w]; exact e2⟩
theorem xf_comp {elt iter : Expr} {ifs : List Expr} {scope : Scope} {own : List (Str × Nat)} {is vs : List Nat} {pos : Pos} {it : Mo (List D)} {g : Tg} {t : Mo Bool} {e : Mo R} (hc : X.calm = true) (hN : X.N.Nodup) (hv : vs = own.map (·.2)) (his : ∀ i ∈ is, i ∈ vs) (hn : ∀ v ∈ vs, n ≤ v)
    (hi : XI X n W tg iter it) (ok : BlkOk X.N X.env.scope scope own)
    (hg : ∀ (s : Shared) (H : Hp) (C : Addr) (cl : List (Str × Addr)) (fp : List Addr), PG (X.blk s H scope (compEnvC scope cl C X.env) fp) tg (tG X.K n is g)) (ht : ∀ (s : Shared) (H : Hp) (C : Addr) (cl : List (Str × Addr)) (fp : List Addr), PTs (X.blk s H scope (compEnvC scope cl C X.env) fp) ifs (tXb X.K n W0 t))
    (he : ∀ (s : Shared) (H : Hp) (C : Addr) (cl : List (Str × Addr)) (fp : List Addr), PE (X.blk s H scope (compEnvC scope cl C X.env) fp) elt (tX X.K n W0 e)) (hs : ∀ x, foldedSetIterable iter X.env x = pure x := by intro _; rfl) :
    XF X n W (.ListComp elt [⟨tg, iter, ifs, 0⟩] scope pos) (fComp it g t e vs) := by
  subst hv
  exact weakE (pe_lc hc hN hi ok hg ht he hs) (comp_run his hn)
/-- a thing is locked behind a statement -/
def tSFrz (t : TS) : TS := fun E σ H => t { E with nx := fun σ' H' => ∃ p u, H' p = some u ∧ Mut (some u) ∧ ∀ od, E.nx σ' (upd H' p (.frz od u)) } σ H
theorem ps_frz {st : Stmt} {t : TS} (h : PS X st t) : PS X st (tSFrz t) := by
  refine ⟨fun pins s σ H E I hw => thn (h.run pins s σ H _ I hw) fun f s1 q => ?_⟩
  cases f with
  | next =>
    obtain ⟨σ', H', I', p, u, e, mu, q⟩ := q
    obtain ⟨od, I2⟩ := I'.lock e mu
    exact ⟨σ', _, I2, q od⟩
  | brk => exact q
  | cont => exact q
  | ret u => exact q
theorem setD_run {i : Nat} {m : Mo Ob} {E : Ends} {σ : St} {H : Hp} (hn : n ≤ i) (h : tS X.K n W (bSet i (eLock m)) E σ H) : tF X.K n W m σ H fun v H1 => ∃ p u, H1 p = some u ∧ Mut (some u) ∧ ∀ od, E.nx (σ.set i (some v)) (upd H1 p (.frz od u)) := by
  obtain ⟨ρ, G, h⟩ := h
  refine ⟨ρ, G, ?_⟩
  unfold bSet eLock at h
  generalize m ρ = r at h
  cases r with
  | no => exact h
  | ex c d ρ' => exact fun H' s => h σ H' s
  | ok o ρ1 =>
    intro H1 s1 p u np e r no
    have nd : o.nd = true := by
      cases o with
      | dt _ => exact h.elim
      | _ => rfl
    have h : AftS X.K n W E H σ ρ (nxt (put i (.dat o.d) ρ1)) := by
      cases o with
      | dt _ => cases nd
      | _ => exact h
    refine ⟨p, u, e, r.mut, fun od => ?_⟩
    obtain ⟨s2, im⟩ := lock_new (ob := od) s1 np e r no nd
    obtain ⟨ρ2, e2, q⟩ := AftS.nxt h
    obtain ⟨le, rfl⟩ := put_some e2
    exact q _ _ (s2.set_dat hn le im)
theorem xs_setLc {i : Nat} {y : Str} {py : Pos} {elt iter : Expr} {ifs : List Expr} {scope : Scope} {own : List (Str × Nat)} {is vs : List Nat} {pos spos : Pos} {it : Mo (List D)} {g : Tg} {t : Mo Bool} {e : Mo R} (hni : n ≤ i) (hy : X.N[i]? = some y) (hyl : X.env.scope.names.lookup y = some .local)
    (hsw : swapsWith (.ListComp elt [⟨tg, iter, ifs, 0⟩] scope pos) (some (.Name y py)) spos.line X.env = pure true) (hc : X.calm = true) (hN : X.N.Nodup) (hv : vs = own.map (·.2)) (his : ∀ i ∈ is, i ∈ vs) (hn : ∀ v ∈ vs, n ≤ v)
    (hi : XI X n W tg iter it) (ok : BlkOk X.N X.env.scope scope own)
    (hg : ∀ (s : Shared) (H : Hp) (C : Addr) (cl : List (Str × Addr)) (fp : List Addr), PG (X.blk s H scope (compEnvC scope cl C X.env) fp) tg (tG X.K n is g)) (ht : ∀ (s : Shared) (H : Hp) (C : Addr) (cl : List (Str × Addr)) (fp : List Addr), PTs (X.blk s H scope (compEnvC scope cl C X.env) fp) ifs (tXb X.K n W0 t))
    (he : ∀ (s : Shared) (H : Hp) (C : Addr) (cl : List (Str × Addr)) (fp : List Addr), PE (X.blk s H scope (compEnvC scope cl C X.env) fp) elt (tX X.K n W0 e)) (hs : ∀ x, foldedSetIterable iter X.env x = pure x := by intro _; rfl) :
    XS X n W (.Assign [.Name y py] (.ListComp elt [⟨tg, iter, ifs, 0⟩] scope pos) spos) (bSetF i (fComp it g t e vs)) := by
  subst hv
  exact weakS (ps_setLc hc hN hy hyl hsw hi ok hg ht he hs) fun E σ H h => comp_run his hn σ H _ (setF_run hni h)
theorem xs_setLcD {i : Nat} {y : Str} {py : Pos} {elt iter : Expr} {ifs : List Expr} {scope : Scope} {own : List (Str × Nat)} {is vs : List Nat} {pos spos : Pos} {it : Mo (List D)} {g : Tg} {t : Mo Bool} {e : Mo R} (hni : n ≤ i) (hy : X.N[i]? = some y) (hyl : X.env.scope.names.lookup y = some .local)
    (hsw : swapsWith (.ListComp elt [⟨tg, iter, ifs, 0⟩] scope pos) (some (.Name y py)) spos.line X.env = pure true) (hc : X.calm = true) (hN : X.N.Nodup) (hv : vs = own.map (·.2)) (his : ∀ i ∈ is, i ∈ vs) (hn : ∀ v ∈ vs, n ≤ v)
    (hi : XI X n W tg iter it) (ok : BlkOk X.N X.env.scope scope own)
    (hg : ∀ (s : Shared) (H : Hp) (C : Addr) (cl : List (Str × Addr)) (fp : List Addr), PG (X.blk s H scope (compEnvC scope cl C X.env) fp) tg (tG X.K n is g)) (ht : ∀ (s : Shared) (H : Hp) (C : Addr) (cl : List (Str × Addr)) (fp : List Addr), PTs (X.blk s H scope (compEnvC scope cl C X.env) fp) ifs (tXb X.K n W0 t))
    (he : ∀ (s : Shared) (H : Hp) (C : Addr) (cl : List (Str × Addr)) (fp : List Addr), PE (X.blk s H scope (compEnvC scope cl C X.env) fp) elt (tX X.K n W0 e)) (hs : ∀ x, foldedSetIterable iter X.env x = pure x := by intro _; rfl) :
    XS X n W (.Assign [.Name y py] (.ListComp elt [⟨tg, iter, ifs, 0⟩] scope pos) spos) (bSet i (eLock (fComp it g t e vs))) := by
  subst hv
  exact weakS (ps_frz (ps_setLc hc hN hy hyl hsw hi ok hg ht he hs)) fun E σ H h => comp_run his hn σ H _ (setD_run hni h)
end
end Q
namespace Q
open PySem PySem.Spec PyProof.Rows L2 Gd
variable [Tbl]
/-! ### defs -/
abbrev Fn := List Sl → Rt Sl
def spD (K : PySem.W.Frag) (F : Fn) : Sp := fun vs H Q _ => ∃ as s as', Good K H (vs.map some) as ∧ F as = .ok s as' ∧ ∀ v H', Stp K vs.length H (vs.map some) as H' (vs.map some) as' → SR K H H' (vs.map some) as' v s → Q v H'
@[simp] def fin (n : Nat) (ρ : Ev) : Out → Rt Sl
  | .nx => .ok (.dat .none) (ρ.take n)
  | .rt (.d x) => .ok (.dat x) (ρ.take n)
  | .rt (.v i) => if n ≤ i then match ρ[i]? with
      | some (.own o) => .ok (.own o) (ρ.take n)
      | _ => .no
    else .no
  | .rf o => .ok (.own o) (ρ.take n)
  | _ => .no
@[simp] def fnOf (n N : Nat) (b : Mo Out) : Fn := fun as => if as.length = n then (b (as ++ List.replicate (N - n) .no)).bnd fun o ρ => fin n ρ o else .no
section
variable {K : PySem.W.Frag} {n : Nat} {H H' : Hp} {σ σ' : St} {ρ ρ' : Ev}
theorem Good.pad (G : Good K H σ ρ) (m : Nat) : Good K H (σ ++ List.replicate m none) (ρ ++ List.replicate m .no) := by
  have get : ∀ {i : Nat} {s : Sl}, (ρ ++ List.replicate m Sl.no)[i]? = some s → s ≠ .no → i < ρ.length ∧ ρ[i]? = some s := fun {i s} h ne => by
    by_cases lt : i < ρ.length
    · rw [List.getElem?_append_left lt] at h
      exact ⟨lt, h⟩
    · rw [List.getElem?_append_right (by omega)] at h
      have := List.mem_of_getElem? h
      exact absurd (List.mem_replicate.mp this).2 ne
  have sg : ∀ {i : Nat}, i < ρ.length → (σ ++ List.replicate m none)[i]? = σ[i]? := fun {i} lt => List.getElem?_append_left (by rw [G.len]; exact lt)
  refine ⟨by rw [List.length_append, List.length_append, List.length_replicate, List.length_replicate, G.len], fun i d h => ?_, fun i o h => ?_, fun i j o o' p h1 h2 h3 h4 => ?_, G.tab, fun i c f d h => ?_⟩
  · obtain ⟨lt, e⟩ := get h (fun z => nomatch z)
    rw [sg lt]
    exact G.dat i d e
  · obtain ⟨lt, e⟩ := get h (fun z => nomatch z)
    rw [sg lt]
    exact G.own i o e
  · obtain ⟨l1, e1⟩ := get h1 (fun z => nomatch z)
    obtain ⟨l2, e2⟩ := get h2 (fun z => nomatch z)
    rw [sg l1] at h3
    rw [sg l2] at h4
    exact G.dif i j o o' p e1 e2 h3 h4
  · obtain ⟨lt, e⟩ := get h (fun z => nomatch z)
    rw [sg lt]
    exact G.exc i c f d e
theorem Own.pad {m : Nat} {p : Addr} (l : σ.length = ρ.length) (h : Own (σ ++ List.replicate m none) (ρ ++ List.replicate m .no) p) : Own σ ρ p := by
  obtain ⟨i, o, e1, e2⟩ := h
  by_cases lt : i < ρ.length
  · rw [List.getElem?_append_left lt] at e1
    rw [List.getElem?_append_left (by omega)] at e2
    exact ⟨i, o, e1, e2⟩
  · rw [List.getElem?_append_right (by omega)] at e1
    cases (List.mem_replicate.mp (List.mem_of_getElem? e1)).2
theorem take_some {α : Type} {l : List α} {n i : Nat} {a : α} (h : (l.take n)[i]? = some a) : i < n ∧ l[i]? = some a := by
  have lt : i < n := by
    have := (List.getElem?_eq_some_iff.mp h).1
    rw [List.length_take] at this
    omega
  rw [List.getElem?_take_of_lt lt] at h
  exact ⟨lt, h⟩
/-- a body's steps, seen by the caller -/
theorem Stp.unpad {m : Nat} (G : Good K H σ ρ) (ln : ρ.length = n) (s : Stp K n H (σ ++ List.replicate m none) (ρ ++ List.replicate m .no) H' σ' ρ') (l' : n ≤ ρ'.length) : Stp K n H σ ρ H' σ (ρ'.take n) := by
  have sg : ∀ {i : Nat}, i < n → σ'[i]? = σ[i]? := fun {i} lt => ((s.par i lt).1).trans (List.getElem?_append_left (by rw [G.len, ln]; exact lt))
  have ow : ∀ p, Own σ (ρ'.take n) p → Own σ' ρ' p := fun p h => by
    obtain ⟨i, o, e1, e2⟩ := h
    obtain ⟨lt, e⟩ := take_some e1
    exact ⟨i, o, e, by rw [sg lt]; exact e2⟩
  have op : ∀ p, Own σ ρ p → Own (σ ++ List.replicate m none) (ρ ++ List.replicate m .no) p := fun p h => by
    obtain ⟨i, o, e1, e2⟩ := h
    have lt := (List.getElem?_eq_some_iff.mp e1).1
    exact ⟨i, o, by rw [List.getElem?_append_left lt]; exact e1, by rw [List.getElem?_append_left (by rw [G.len]; exact lt)]; exact e2⟩
  refine ⟨⟨by rw [List.length_take, G.len, ln]; omega, fun i d h => ?_, fun i o h => ?_, fun i j o o' p h1 h2 h3 h4 => ?_, s.good.tab, fun i c f d h => ?_⟩, fun i hi => ⟨rfl, fun o h => ?_⟩, fun b o e nb => s.kept b o e fun z => nb (z.pad G.len), fun p h => ?_, s.live⟩
  · obtain ⟨lt, e⟩ := take_some h
    rw [← sg lt]
    exact s.good.dat i d e
  · obtain ⟨lt, e⟩ := take_some h
    rw [← sg lt]
    exact s.good.own i o e
  · obtain ⟨l1, e1⟩ := take_some h1
    obtain ⟨l2, e2⟩ := take_some h2
    exact s.good.dif i j o o' p e1 e2 (by rw [sg l1]; exact h3) (by rw [sg l2]; exact h4)
  · obtain ⟨lt, e⟩ := take_some h
    rw [← sg lt]
    exact s.good.exc i c f d e
  · obtain ⟨o', e⟩ := (s.par i hi).2 o (by rw [List.getElem?_append_left (by omega)]; exact h)
    exact ⟨o', by rw [List.getElem?_take_of_lt hi]; exact e⟩
  · rcases s.news p (ow p h) with z | z
    · exact .inl (z.pad G.len)
    · exact .inr z
end
section
variable {P : Program} {w : World} {K : PySem.W.Frag} {mg : Str → Option Value} {base : Heap} {k : Nat} {f : Addr} {fd : FuncData}
theorem okD {x qual : Str} {st : Stmt} {N ps : List Str} {b : Mo Out} (F : Fun K x qual st f fd) (S : FnScope N ps (defScope st)) (hN : ps.length ≤ N.length)
    (B : ∀ (cdv : Value) (A : Around) (outer : List Env) (s : Shared) (H : Hp) (E : XK), fd.code = cdv → A.guards = some [] → Room k (A.deeper (envOfC qual (defScope st) s.heap.objs.size f cdv)) →
      XSs (cxOf CX0 P w K mg base N qual (defScope st) f cdv A outer s H E).nox ps.length W0 (defBody st) b) : FnG P w K mg base (k + 1) f fd ps (spD K (fnOf ps.length N.length b)) := by
  have lenF : ∀ {as : List Sl} {s : Sl} {as' : Ev}, fnOf ps.length N.length b as = .ok s as' → as.length = ps.length := fun {as s as'} e => by
    unfold fnOf at e
    split at e
    · next l => exact l
    · cases e
  refine okG F S (fun vs H Q E ⟨as, s, as', G, e, _⟩ => ?_) (fun cdv A outer s0 H vs Q E hc hg hr h => ?_)
  · have := G.len
    rw [List.length_map, lenF e] at this
    exact this
  · obtain ⟨as, s, as', G, e, q⟩ := h
    have la := lenF e
    have lv : vs.length = ps.length := by
      have := G.len
      rw [List.length_map, la] at this
      exact this
    refine ⟨_, B cdv A outer s0 H E hc hg hr, as ++ List.replicate (N.length - ps.length) .no, ?_, ?_⟩
    · unfold L2.start
      rw [lv]
      exact G.pad _
    · unfold fnOf at e
      rw [if_pos la] at e
      have st0 : L2.start N vs = vs.map some ++ List.replicate (N.length - ps.length) none := by
        unfold L2.start
        rw [lv]
      rw [st0]
      have unp : ∀ {σ' : St} {H' : Hp} {ρ' : Ev}, Stp K ps.length H (vs.map some ++ List.replicate (N.length - ps.length) none) (as ++ List.replicate (N.length - ps.length) .no) H' σ' ρ' → ps.length ≤ ρ'.length := fun {σ' H' ρ'} s => by
        rcases Nat.lt_or_ge ρ'.length ps.length with lt | ge
        · exfalso
          have l1 := s.good.len
          have := (s.par ρ'.length lt).1
          rw [List.getElem?_eq_none (by omega), List.getElem?_append_left (by rw [List.length_map, lv]; exact lt), List.getElem?_map, List.getElem?_eq_getElem (by omega)] at this
          cases this
        · exact ge
      show AftS K ps.length W0 { nx := fun _ H' => Q .non H', rt := Q } H (vs.map some ++ List.replicate (N.length - ps.length) none) (as ++ List.replicate (N.length - ps.length) .no) (b (as ++ List.replicate (N.length - ps.length) .no))
      generalize b (as ++ List.replicate (N.length - ps.length) .no) = z at e
      rw [lv] at q
      cases z with
      | no => cases e
      | ex c d ρ' => cases e
      | ok o ρ' =>
        have e : fin ps.length ρ' o = .ok s as' := e
        cases o with
        | bk => cases e
        | ct => cases e
        | nx =>
          cases e
          intro σ' H' s
          exact q _ _ (s.unpad G la (unp s)) (.dat .non)
        | rf o =>
          cases e
          intro p u σ' H' st np ep r no
          refine q _ _ (st.unpad G la (unp st)) (.own np ep r fun z => no ?_)
          obtain ⟨j, o1, ej, es⟩ := z
          obtain ⟨lj, ej⟩ := take_some ej
          exact ⟨j, o1, ej, by rw [(st.par j lj).1, List.getElem?_append_left (by rw [List.length_map, lv]; exact lj)]; exact es⟩
        | rt r =>
          intro v σ' H' st rv
          cases rv with
          | @d x im =>
            cases e
            exact q _ _ (st.unpad G la (unp st)) (.dat im)
          | @v i ei =>
            unfold fin at e
            dsimp only at e
            split at e
            · next le =>
              split at e
              · next o eo =>
                cases e
                obtain ⟨p, u, e1, e2, r⟩ := st.good.own i o eo
                rw [ei] at e1
                cases e1
                have su := st.unpad G la (unp st)
                refine q _ _ su (.own ?_ e2 r fun z => ?_)
                · rcases st.news p ⟨i, o, eo, ei⟩ with z | z
                  · exfalso
                    obtain ⟨j, o1, ej, es⟩ := z.pad G.len
                    have lj : j < ps.length := by
                      have := (List.getElem?_eq_some_iff.mp ej).1
                      omega
                    obtain ⟨o2, e2⟩ := (st.par j lj).2 o1 (by rw [List.getElem?_append_left (by omega)]; exact ej)
                    have e3 : σ'[j]? = some (some (.ref p)) := by rw [(st.par j lj).1, List.getElem?_append_left (by rw [List.length_map, lv]; exact lj)]; exact es
                    have := st.good.dif i j o o2 p eo e2 ei e3
                    omega
                  · exact z
                · obtain ⟨j, o1, ej, es⟩ := z
                  obtain ⟨lj, ej⟩ := take_some ej
                  have e3 : σ'[j]? = some (some (.ref p)) := by rw [(st.par j lj).1, List.getElem?_append_left (by rw [List.length_map, lv]; exact lj)]; exact es
                  have := st.good.dif i j o o1 p eo ej ei e3
                  omega
              · cases e
            · cases e
end
/-! ### calls -/
@[simp] def argS (ρ : Ev) : List R → Option (List Sl)
  | [] => some []
  | .d x :: rs => (argS ρ rs).map (.dat x :: ·)
  | .v i :: rs => match ρ[i]? with
    | some (.own o) => (argS ρ rs).map (.own o :: ·)
    | _ => none
@[simp] def vIdx : List R → List Nat
  | [] => []
  | .d _ :: rs => vIdx rs
  | .v i :: rs => i :: vIdx rs
@[simp] def backE (ρ : Ev) : List R → List Sl → Ev
  | .d _ :: rs, _ :: ss => backE ρ rs ss
  | .v i :: rs, s :: ss => (backE ρ rs ss).set i s
  | _, _ => ρ
theorem backE_len (ρ : Ev) : ∀ (rs : List R) (ss : List Sl), (backE ρ rs ss).length = ρ.length
  | [], _ => rfl
  | .d _ :: _, [] => rfl
  | .v _ :: _, [] => rfl
  | .d _ :: rs, _ :: ss => backE_len ρ rs ss
  | .v i :: rs, s :: ss => by
    show ((backE ρ rs ss).set i s).length = _
    rw [List.length_set, backE_len ρ rs ss]
theorem backE_out (ρ : Ev) : ∀ (rs : List R) (ss : List Sl) {i : Nat}, i ∉ vIdx rs → (backE ρ rs ss)[i]? = ρ[i]?
  | [], _, _, _ => rfl
  | .d _ :: _, [], _, _ => rfl
  | .v _ :: _, [], _, _ => rfl
  | .d _ :: rs, _ :: ss, _, h => backE_out ρ rs ss h
  | .v j :: rs, s :: ss, i, h => by
    show ((backE ρ rs ss).set j s)[i]? = _
    rw [set_ne fun z => h (by rw [z]; exact List.mem_cons_self)]
    exact backE_out ρ rs ss fun z => h (List.mem_cons_of_mem _ z)
theorem backE_in (ρ : Ev) : ∀ (rs : List R) (ss : List Sl) {i : Nat}, (vIdx rs).Nodup → i ∈ vIdx rs → i < ρ.length → rs.length = ss.length → ∃ (k : Nat) (s : Sl), rs[k]? = some (.v i) ∧ ss[k]? = some s ∧ (backE ρ rs ss)[i]? = some s
  | .d _ :: rs, _ :: ss, i, nd, h, lt, l => by
    obtain ⟨k, s, e1, e2, e3⟩ := backE_in ρ rs ss nd h lt (Nat.succ.inj l)
    exact ⟨k + 1, s, e1, e2, e3⟩
  | .v j :: rs, s :: ss, i, nd, h, lt, l => by
    have nd : (j :: vIdx rs).Nodup := nd
    obtain ⟨nj, nd⟩ := List.nodup_cons.mp nd
    by_cases e : j = i
    · subst e
      exact ⟨0, s, rfl, rfl, set_at (by rw [backE_len]; exact lt)⟩
    · have h : i ∈ j :: vIdx rs := h
      rcases List.mem_cons.mp h with z | z
      · exact absurd z.symm e
      · obtain ⟨k, t, e1, e2, e3⟩ := backE_in ρ rs ss nd z lt (Nat.succ.inj l)
        refine ⟨k + 1, t, e1, e2, ?_⟩
        show ((backE ρ rs ss).set j s)[i]? = _
        rw [set_ne e]
        exact e3
theorem argS_len (ρ : Ev) : ∀ {rs : List R} {as : List Sl}, argS ρ rs = some as → rs.length = as.length
  | [], as, h => by
    cases h
    rfl
  | .d x :: rs, as, h => by
    have h : (argS ρ rs).map (.dat x :: ·) = some as := h
    cases e : argS ρ rs with
    | none =>
      rw [e] at h
      cases h
    | some bs =>
      rw [e] at h
      cases h
      rw [List.length_cons, List.length_cons, argS_len ρ e]
  | .v i :: rs, as, h => by
    unfold argS at h
    split at h
    · cases e : argS ρ rs with
      | none =>
        rw [e] at h
        cases h
      | some bs =>
        rw [e] at h
        cases h
        rw [List.length_cons, List.length_cons, argS_len ρ e]
    · cases h
theorem argS_at (ρ : Ev) : ∀ {rs : List R} {as : List Sl} {k : Nat} {s : Sl}, argS ρ rs = some as → as[k]? = some s → (∃ x, rs[k]? = some (.d x) ∧ s = .dat x) ∨ ∃ i o, rs[k]? = some (.v i) ∧ ρ[i]? = some (.own o) ∧ s = .own o
  | [], as, k, s, h, e => by
    cases h
    cases e
  | .d x :: rs, as, k, s, h, e => by
    have h : (argS ρ rs).map (.dat x :: ·) = some as := h
    cases e1 : argS ρ rs with
    | none =>
      rw [e1] at h
      cases h
    | some bs =>
      rw [e1] at h
      cases h
      cases k with
      | zero =>
        cases e
        exact .inl ⟨x, rfl, rfl⟩
      | succ k => exact argS_at ρ (k := k) e1 e
  | .v i :: rs, as, k, s, h, e => by
    unfold argS at h
    split at h
    · next o eo =>
      cases e1 : argS ρ rs with
      | none =>
        rw [e1] at h
        cases h
      | some bs =>
        rw [e1] at h
        cases h
        cases k with
        | zero =>
          cases e
          exact .inr ⟨i, o, rfl, eo, rfl⟩
        | succ k => exact argS_at ρ (k := k) e1 e
    · cases h
theorem vIdx_mem : ∀ {rs : List R} {k i : Nat}, rs[k]? = some (.v i) → i ∈ vIdx rs
  | .d x :: rs, 0, i, h => by cases h
  | .d x :: rs, k + 1, i, h => vIdx_mem (rs := rs) (k := k) h
  | .v j :: rs, 0, i, h => by
    cases h
    exact List.mem_cons_self
  | .v j :: rs, k + 1, i, h => List.mem_cons_of_mem _ (vIdx_mem (rs := rs) (k := k) h)
theorem vIdx_uniq : ∀ {rs : List R} {k l i : Nat}, (vIdx rs).Nodup → rs[k]? = some (.v i) → rs[l]? = some (.v i) → k = l
  | .d x :: rs, 0, _, i, _, h, _ => by cases h
  | .d x :: rs, _ + 1, 0, i, _, _, h => by cases h
  | .d x :: rs, k + 1, l + 1, i, nd, h, h' => by rw [vIdx_uniq (rs := rs) (k := k) (l := l) nd h h']
  | .v j :: rs, 0, 0, i, _, _, _ => rfl
  | .v j :: rs, 0, l + 1, i, nd, h, h' => by
    cases h
    exact absurd (vIdx_mem (rs := rs) (k := l) h') (List.nodup_cons.mp (show (j :: vIdx rs).Nodup from nd)).1
  | .v j :: rs, k + 1, 0, i, nd, h, h' => by
    cases h'
    exact absurd (vIdx_mem (rs := rs) (k := k) h) (List.nodup_cons.mp (show (j :: vIdx rs).Nodup from nd)).1
  | .v j :: rs, k + 1, l + 1, i, nd, h, h' => by rw [vIdx_uniq (rs := rs) (k := k) (l := l) (List.nodup_cons.mp (show (j :: vIdx rs).Nodup from nd)).2 h h']
theorem RRs.at {K : PySem.W.Frag} {H : Hp} {σ : St} : ∀ {vs : List V} {rs : List R} {k : Nat} {r : R}, RRs K H σ vs rs → rs[k]? = some r → ∃ v, vs[k]? = some v ∧ RR K H σ v r
  | _, _, 0, _, .cons h _, e => by
    cases e
    exact ⟨_, rfl, h⟩
  | _, _, k + 1, _, .cons _ r, e => RRs.at (k := k) r e
section
variable {K : PySem.W.Frag} {n : Nat} {H H' : Hp} {σ : St} {ρ : Ev} {vs : List V} {rs : List R} {as as' : List Sl}
theorem args_good (G : Good K H σ ρ) (rv : RRs K H σ vs rs) (ea : argS ρ rs = some as) (nd : (vIdx rs).Nodup) : Good K H (vs.map some) as := by
  have la := argS_len ρ ea
  refine ⟨by rw [List.length_map, rv.len, la], fun k d h => ?_, fun k o h => ?_, fun k l o o' p h1 h2 h3 h4 => ?_, G.tab, fun k c f d h => ?_⟩
  · rcases argS_at ρ ea h with ⟨x, e, z⟩ | ⟨i, o, e, _, z⟩
    · cases z
      obtain ⟨v, ev, r⟩ := rv.at e
      cases r with
      | d im => exact ⟨v, by rw [List.getElem?_map, ev]; rfl, im⟩
    · cases z
  · rcases argS_at ρ ea h with ⟨x, e, z⟩ | ⟨i, o1, e, eo, z⟩
    · cases z
    · cases z
      obtain ⟨v, ev, r⟩ := rv.at e
      cases r with
      | v ei =>
        obtain ⟨p, u, e1, e2, r⟩ := G.own i o eo
        rw [ei] at e1
        cases e1
        exact ⟨p, u, by rw [List.getElem?_map, ev]; rfl, e2, r⟩
  · rcases argS_at ρ ea h1 with ⟨x, e, z⟩ | ⟨i, o1, e, eo, z⟩
    · cases z
    · rcases argS_at ρ ea h2 with ⟨x, e', z'⟩ | ⟨j, o2, e', eo', z'⟩
      · cases z'
      · obtain ⟨v, ev, r⟩ := rv.at e
        obtain ⟨u, eu, r'⟩ := rv.at e'
        rw [List.getElem?_map, ev] at h3
        rw [List.getElem?_map, eu] at h4
        cases h3
        cases h4
        cases r with
        | v ei => cases r' with
          | v ej =>
            have := G.dif i j o1 o2 p eo eo' ei ej
            subst this
            exact vIdx_uniq nd e e'
  · rcases argS_at ρ ea h with ⟨x, e, z⟩ | ⟨i, o1, e, eo, z⟩
    · cases z
    · cases z
theorem args_own (rv : RRs K H σ vs rs) (ea : argS ρ rs = some as) {p : Addr} (h : Own (vs.map some) as p) : ∃ (i : Nat) (o : Ob) (k : Nat), rs[k]? = some (.v i) ∧ ρ[i]? = some (.own o) ∧ σ[i]? = some (some (.ref p)) := by
  obtain ⟨k, o, e1, e2⟩ := h
  rcases argS_at ρ ea e1 with ⟨x, e, z⟩ | ⟨i, o1, e, eo, z⟩
  · cases z
  · obtain ⟨v, ev, r⟩ := rv.at e
    rw [List.getElem?_map, ev] at e2
    cases e2
    cases r with
    | v ei => exact ⟨i, o1, k, e, eo, ei⟩
/-- behind a call -/
theorem call_stp (G : Good K H σ ρ) (rv : RRs K H σ vs rs) (ea : argS ρ rs = some as) (nd : (vIdx rs).Nodup) (s : Stp K vs.length H (vs.map some) as H' (vs.map some) as') : Stp K n H σ ρ H' σ (backE ρ rs as') ∧ ∀ p, Own σ (backE ρ rs as') p → Own σ ρ p := by
  have la := argS_len ρ ea
  have lv := rv.len
  have la' : rs.length = as'.length := by
    have := s.good.len
    rw [List.length_map] at this
    omega
  have g := s.grow (args_good G rv ea nd)
  -- a slot that was handed in
  have hand : ∀ {i : Nat}, i ∈ vIdx rs → i < ρ.length → ∃ (o : Ob) (o' : Ob) (p : Addr) (u : HO), ρ[i]? = some (.own o) ∧ (backE ρ rs as')[i]? = some (.own o') ∧ σ[i]? = some (some (.ref p)) ∧ H' p = some u ∧ ObR K H' u o' := fun {i} hi lt => by
    obtain ⟨k, t, e1, e2, e3⟩ := backE_in ρ rs as' nd hi lt la'
    have lk : k < rs.length := (List.getElem?_eq_some_iff.mp e1).1
    obtain ⟨t0, et0⟩ : ∃ t0, as[k]? = some t0 := ⟨_, List.getElem?_eq_getElem (by omega)⟩
    rcases argS_at ρ ea et0 with ⟨x, e, z⟩ | ⟨j, o1, e, eo, z⟩
    · rw [e1] at e
      cases e
    · rw [e1] at e
      cases e
      subst z
      obtain ⟨o', eo'⟩ := (s.par k (by omega)).2 o1 et0
      rw [e2] at eo'
      cases eo'
      obtain ⟨v, ev, r⟩ := rv.at e1
      cases r with
      | v ei =>
        obtain ⟨p, u, f1, f2, f3⟩ := s.good.own k o' e2
        rw [List.getElem?_map, ev] at f1
        cases f1
        exact ⟨o1, o', p, u, eo, e3, ei, f2, f3⟩
  have own : ∀ {i : Nat} {o : Ob}, (backE ρ rs as')[i]? = some (.own o) → ∃ o', ρ[i]? = some (.own o') := fun {i o} h => by
    have lt : i < ρ.length := by
      have := (List.getElem?_eq_some_iff.mp h).1
      rw [backE_len] at this
      exact this
    by_cases hi : i ∈ vIdx rs
    · obtain ⟨o1, _, _, _, e, _⟩ := hand hi lt
      exact ⟨o1, e⟩
    · rw [backE_out ρ rs as' hi] at h
      exact ⟨o, h⟩
  have ow : ∀ {p : Addr}, Own (vs.map some) as p → Own σ ρ p := fun {p} h => by
    obtain ⟨i, o, k, _, e1, e2⟩ := args_own rv ea h
    exact ⟨i, o, e1, e2⟩
  refine ⟨⟨⟨by rw [backE_len, G.len], fun i d h => ?_, fun i o h => ?_, fun i j o o' p h1 h2 h3 h4 => ?_, s.good.tab, fun i c f d h => ?_⟩, fun i hi => ⟨rfl, fun o h => ?_⟩, fun b o e nb => s.kept b o e fun z => nb (ow z), fun p h => ?_, s.live⟩, fun p h => ?_⟩
  · have lt : i < ρ.length := by
      have := (List.getElem?_eq_some_iff.mp h).1
      rw [backE_len] at this
      exact this
    by_cases hi : i ∈ vIdx rs
    · obtain ⟨_, _, _, _, _, e, _⟩ := hand hi lt
      rw [h] at e
      cases e
    · rw [backE_out ρ rs as' hi] at h
      obtain ⟨v, e, im⟩ := G.dat i d h
      exact ⟨v, e, im.grow g⟩
  · have lt : i < ρ.length := by
      have := (List.getElem?_eq_some_iff.mp h).1
      rw [backE_len] at this
      exact this
    by_cases hi : i ∈ vIdx rs
    · obtain ⟨_, o', p, u, _, e, e2, e3, e4⟩ := hand hi lt
      rw [h] at e
      cases e
      exact ⟨p, u, e2, e3, e4⟩
    · rw [backE_out ρ rs as' hi] at h
      obtain ⟨p, u, e1, e2, r⟩ := G.own i o h
      refine ⟨p, u, e1, s.kept p u e2 (fun z => hi ?_) (fun ps z => r.no_tbl z), r.grow g⟩
      obtain ⟨j, o1, k, ek, f1, f2⟩ := args_own rv ea z
      have := G.dif i j o o1 p h f1 e1 f2
      subst this
      exact vIdx_mem ek
  · obtain ⟨a, ha⟩ := own h1
    obtain ⟨b, hb⟩ := own h2
    exact G.dif i j a b p ha hb h3 h4
  · have lt : i < ρ.length := by
      have := (List.getElem?_eq_some_iff.mp h).1
      rw [backE_len] at this
      exact this
    by_cases hi : i ∈ vIdx rs
    · obtain ⟨_, _, _, _, _, e, _⟩ := hand hi lt
      rw [h] at e
      cases e
    · rw [backE_out ρ rs as' hi] at h
      exact (G.exc i c f d h).elim fun a q => ⟨a, q.1, q.2.grow g⟩
  · have lt : i < ρ.length := (List.getElem?_eq_some_iff.mp h).1
    by_cases hv : i ∈ vIdx rs
    · obtain ⟨_, o', _, _, _, e, _⟩ := hand hv lt
      exact ⟨o', e⟩
    · exact ⟨o, by rw [backE_out ρ rs as' hv]; exact h⟩
  · obtain ⟨i, o, e1, e2⟩ := h
    obtain ⟨o', e⟩ := own e1
    exact .inl ⟨i, o', e, e2⟩
  · obtain ⟨i, o, e1, e2⟩ := h
    obtain ⟨o', e⟩ := own e1
    exact ⟨i, o', e, e2⟩
end
@[simp] def nodupB : List Nat → Bool
  | [] => true
  | i :: is => !is.contains i && nodupB is
theorem nodupB_iff : ∀ {is : List Nat}, nodupB is = true → is.Nodup
  | [], _ => List.nodup_nil
  | i :: is, h => by
    have h : (!is.contains i && nodupB is) = true := h
    rw [Bool.and_eq_true, Bool.not_eq_true'] at h
    refine List.nodup_cons.mpr ⟨fun z => ?_, nodupB_iff h.2⟩
    rw [List.contains_iff_mem.mpr z] at h
    exact absurd h.1 (by decide)
@[simp] def applyF (F : Fn) (rs : List R) (ρ : Ev) : Rt Sl := match argS ρ rs with
  | none => .no
  | some as => if nodupB (vIdx rs) = true then (F as).bnd fun s as' => .ok s (backE ρ rs as') else .no
@[simp] def eCall (F : Fn) (m : Mo (List R)) : Mo R := fun ρ => (m ρ).bind fun rs ρ1 => (applyF F rs ρ1).bnd fun s ρ2 => match s with
  | .dat x => .ok (.d x) ρ2
  | _ => .no
@[simp] def fCall (F : Fn) (m : Mo (List R)) : Mo Ob := fun ρ => (m ρ).bind fun rs ρ1 => (applyF F rs ρ1).bnd fun s ρ2 => match s with
  | .own o => .ok o ρ2
  | _ => .no
section
variable {X : Cx} {n : Nat} {W : XW} {k : Nat} {f : Addr} {fd : FuncData} {ps : List Str} {x : Str} {p pos : Pos} {e : Expr} {es : List Expr} {m : Mo (List R)} {F : Fn}
theorem apply_ok {rs : List R} {ρ ρ2 : Ev} {s : Sl} (h : applyF F rs ρ = .ok s ρ2) : ∃ as as', argS ρ rs = some as ∧ (vIdx rs).Nodup ∧ F as = .ok s as' ∧ ρ2 = backE ρ rs as' := by
  unfold applyF at h
  cases e : argS ρ rs with
  | none =>
    rw [e] at h
    cases h
  | some as =>
    rw [e] at h
    have h : (if nodupB (vIdx rs) = true then (F as).bnd fun s as' => .ok s (backE ρ rs as') else .no) = Rt.ok s ρ2 := h
    split at h
    · next nd =>
      cases ef : F as with
      | no =>
        rw [ef] at h
        cases h
      | ex c d q =>
        rw [ef] at h
        cases h
      | ok t q =>
        rw [ef] at h
        cases h
        exact ⟨as, q, rfl, nodupB_iff nd, ef, rfl⟩
    · cases h
theorem xd_call (G : FnG X.prog X.w X.K X.mg X.base k f fd ps (spD X.K F)) (g : X.A.guards = some []) (room : Room k X.A) (hg : Gl X x) (hm : X.mg x = some (.ref f)) (hk : PySem.W.keepIn X.K (.ref f) = true) (hb : Binds X.K fd ps [])
    (ha : XA X n W (e :: es) m) (hdb : (x == ("__debug__" : Str)) = false := by decide) (he : starEach (e :: es) X.env = (false, eval e X.env) :: starEach es X.env := by rfl) (hpl : (backTo pos (starEach es X.env)).any (·.1) = false := by rfl) :
    XD X n W (.Call (.Name x p) (e :: es) [] pos) (eCall F m) := weakE (pe_callG G g room hg hm hk hb ha hdb he hpl) fun σ H Q ⟨ρ, Gd, h⟩ => by
  refine ⟨ρ, Gd, (Aft.bind h).mono fun rs ρ1 H1 s1 h1 vs rvs => ?_⟩
  cases ea : applyF F rs ρ1 with
  | no =>
    rw [ea] at h1
    exact h1.elim
  | ex c d q =>
    rw [ea] at h1
    exact h1.elim
  | ok s ρ2 =>
    rw [ea] at h1
    obtain ⟨as, as', eb, nd, ef, rfl⟩ := apply_ok ea
    cases s with
    | no => exact h1.elim
    | exc _ _ _ => exact h1.elim
    | own o => exact h1.elim
    | dat d =>
      rw [List.append_nil]
      refine ⟨as, _, as', args_good s1.good rvs eb nd, ef, fun v H' st sr => ?_⟩
      cases sr with
      | dat im => exact h1 H' (call_stp s1.good rvs eb nd st).1 v (.d im)
theorem xf_call (G : FnG X.prog X.w X.K X.mg X.base k f fd ps (spD X.K F)) (g : X.A.guards = some []) (room : Room k X.A) (hg : Gl X x) (hm : X.mg x = some (.ref f)) (hk : PySem.W.keepIn X.K (.ref f) = true) (hb : Binds X.K fd ps [])
    (ha : XA X n W (e :: es) m) (hdb : (x == ("__debug__" : Str)) = false := by decide) (he : starEach (e :: es) X.env = (false, eval e X.env) :: starEach es X.env := by rfl) (hpl : (backTo pos (starEach es X.env)).any (·.1) = false := by rfl) :
    XF X n W (.Call (.Name x p) (e :: es) [] pos) (fCall F m) := weakE (pe_callG G g room hg hm hk hb ha hdb he hpl) fun σ H Q ⟨ρ, Gd, h⟩ => by
  refine ⟨ρ, Gd, (Aft.bind h).mono fun rs ρ1 H1 s1 h1 vs rvs => ?_⟩
  cases ea : applyF F rs ρ1 with
  | no =>
    rw [ea] at h1
    exact h1.elim
  | ex c d q =>
    rw [ea] at h1
    exact h1.elim
  | ok s ρ2 =>
    rw [ea] at h1
    obtain ⟨as, as', eb, nd, ef, rfl⟩ := apply_ok ea
    cases s with
    | no => exact h1.elim
    | exc _ _ _ => exact h1.elim
    | dat o => exact h1.elim
    | own o =>
      rw [List.append_nil]
      refine ⟨as, _, as', args_good s1.good rvs eb nd, ef, fun v H' st sr => ?_⟩
      cases sr with
      | own np ep r no =>
        obtain ⟨st2, bk⟩ := call_stp (n := n) s1.good rvs eb nd st
        exact h1 H' st2 _ _ (s1.live _ np) ep r fun z => new_own s1.good np (bk _ z)
end
end Q
namespace Q
open PySem PySem.Spec PyProof.Rows L2 Gd
variable [Tbl]
/-! ### operations on data -/
def rQ2 (K : PySem.W.Frag) (F : D → D → Option D) : R2 := fun x y H Q => ∃ a b d, Vw K H x a ∧ Vw K H y b ∧ F a b = some d ∧ ∀ v H', Same H H' → Im K H' v d → Q v H'
def rQ1 (K : PySem.W.Frag) (F : D → Option D) : V → Hp → VK → Prop := fun x H Q => ∃ a d, Vw K H x a ∧ F a = some d ∧ ∀ v H', Same H H' → Im K H' v d → Q v H'
def rQN (K : PySem.W.Frag) (F : List D → Option D) : List V → Hp → VK → Prop := fun xs H Q => ∃ as d, VwL K H xs as ∧ F as = some d ∧ ∀ v H', Same H H' → Im K H' v d → Q v H'
theorem q2 {K : PySem.W.Frag} {F : D → D → Option D} : Op2 K (rQ2 K F) F := fun x y a b d H Q hx hy e q => ⟨a, b, d, hx, hy, e, q⟩
theorem q1 {K : PySem.W.Frag} {F : D → Option D} : Op1 K (rQ1 K F) F := fun x a d H Q hx e q => ⟨a, d, hx, e, q⟩
theorem qN {K : PySem.W.Frag} {F : List D → Option D} : OpN K (rQN K F) F := fun xs as d H Q hx e q => ⟨as, d, hx, e, q⟩
theorem VwL.one {K : PySem.W.Frag} {H : Hp} {xs : List V} {a : D} (h : VwL K H xs [a]) : ∃ x, xs = [x] ∧ Vw K H x a := by
  cases h with
  | cons h r => cases r; exact ⟨_, rfl, h⟩
theorem VwL.two {K : PySem.W.Frag} {H : Hp} {xs : List V} {a b : D} (h : VwL K H xs [a, b]) : ∃ x y, xs = [x, y] ∧ Vw K H x a ∧ Vw K H y b := by
  cases h with
  | cons h r => cases r with
    | cons h2 r => cases r; exact ⟨_, _, rfl, h, h2⟩
section
variable {X : Cx}
/-- t + u: one of them where the other is empty, else a new one -/
def rCatN (K : PySem.W.Frag) : R2 := fun x y H Q => ∃ a b xs ys, x = .ref a ∧ y = .ref b ∧ SqT K H a xs ∧ SqT K H b ys ∧ xs.length + ys.length ≤ sizeLine ∧ (xs = [] → Q (.ref b) H) ∧ (ys = [] → Q (.ref a) H) ∧ ∀ p o, H p = none → o.dict = none → Q (.ref p) (upd H p (.frz o (.tup (xs ++ ys))))
theorem op_catN : OpR X (binaryOp .Add) (rCatN X.K) := by
  rintro pins s σ H x y v u Q I rx ry ⟨a, b, xs, ys, rfl, rfl, ha, hb, hz, q0, q1, q2⟩
  cases rx
  cases ry
  obtain ⟨its, r1, p1, _⟩ := I.tuple ha
  obtain ⟨its2, r2, p2, _⟩ := I.tuple hb
  by_cases hx : xs = []
  · subst hx
    cases r1
    exact cat_tup0 p1 p2 ⟨.ref b, H, I, rfl, q0 rfl⟩
  · have l12 : (its ++ its2).length ≤ sizeLine := by rw [List.length_append, ← r1.length, ← r2.length]; exact hz
    refine HT.cat_tup p1 p2 (fun z => hx (r1.nil_iff.mp z)) (fun z => ⟨.ref a, H, I, rfl, q1 (r2.nil_iff.mp z)⟩) (fun z => ?_) (by rw [← r1.length, ← r2.length]; exact hz)
    exact new_tup I (by rw [List.length_append]; exact hz) (r1.append r2) q2
@[simp] def addD : D → D → Option D
  | .int i, .int j => some (.int (i + j))
  | .str a, .str b => if a.length + b.length ≤ sizeLine then some (.str (a ++ b)) else none
  | .tuple a, .tuple b => if a.length + b.length ≤ sizeLine then some (.tuple (a ++ b)) else none
  | _, _ => none
theorem o_add : OpR X (binaryOp .Add) (rQ2 X.K addD) := by
  rintro pins s σ H x y v u Q I rx ry ⟨a, b, d, ha, hb, e, q⟩
  cases a with
  | int i => cases b with
    | int j =>
      cases e
      exact op_add pins s σ H x y v u Q I rx ry ⟨i, j, ha.int, hb.int, q _ H (Same.refl H) (.int _)⟩
    | _ => cases e
  | str z => cases b with
    | str w =>
      have e : (if z.length + w.length ≤ sizeLine then some (PyData.str (z ++ w)) else none) = some d := e
      split at e
      · next le =>
        cases e
        exact op_add_str pins s σ H x y v u Q I rx ry ⟨z, w, ha.str, hb.str, le, q _ H (Same.refl H) (.str _)⟩
      · cases e
    | _ => cases e
  | tuple as => cases b with
    | tuple bs =>
      have e : (if as.length + bs.length ≤ sizeLine then some (PyData.tuple (as ++ bs)) else none) = some d := e
      split at e
      · next le =>
        cases e
        obtain ⟨p, xs, rfl, hp, ip⟩ := ha.tupleN
        obtain ⟨r, ys, rfl, hr, ir⟩ := hb.tupleN
        refine op_catN pins s σ H _ _ v u Q I rx ry ⟨p, r, xs, ys, rfl, rfl, hp.sq, hr.sq, by rw [ip.len, ir.len]; exact le, fun z => ?_, fun z => ?_, fun t o ht ho => q _ _ (same_upd ht) (.tup ⟨o, upd_same, ho⟩ ((ip.append ir).same (same_upd ht)))⟩
        · subst z
          cases ip
          exact q _ H (Same.refl H) (.tup hr ir)
        · subst z
          cases ir
          rw [List.append_nil] at q
          exact q _ H (Same.refl H) (.tup hp ip)
      · cases e
    | _ => cases e
  | _ => cases e
@[simp] def subD : D → D → Option D
  | .int i, .int j => some (.int (i - j))
  | _, _ => none
theorem o_sub : OpR X (binaryOp .Sub) (rQ2 X.K subD) := by
  rintro pins s σ H x y v u Q I rx ry ⟨a, b, d, ha, hb, e, q⟩
  cases a with
  | int i => cases b with
    | int j =>
      cases e
      exact op_sub pins s σ H x y v u Q I rx ry ⟨i, j, ha.int, hb.int, q _ H (Same.refl H) (.int _)⟩
    | _ => cases e
  | _ => cases e
noncomputable def mid (i : Int) : Bool := cb (-(2 ^ 64) < i ∧ i < 2 ^ 64)
noncomputable def mulOk (i j : Int) : Bool := mid i || mid j || cb (i.natAbs.log2 + j.natAbs.log2 < 1000000)
noncomputable def mulD : D → D → Option D
  | .int i, .int j => if mulOk i j = true then some (.int (i * j)) else none
  | _, _ => none
theorem o_mul : OpR X (binaryOp .Mult) (rQ2 X.K mulD) := by
  rintro pins s σ H x y v u Q I rx ry ⟨a, b, d, ha, hb, e, q⟩
  cases a with
  | int i => cases b with
    | int j =>
      have e : (if mulOk i j = true then some (PyData.int (i * j)) else none) = some d := e
      split at e
      · next h =>
        cases e
        unfold mulOk at h
        rw [Bool.or_eq_true, Bool.or_eq_true] at h
        rcases h with (h | h) | h
        · exact op_mul pins s σ H x y v u Q I rx ry ⟨i, j, ha.int, hb.int, .inl (of_cb h), q _ H (Same.refl H) (.int _)⟩
        · exact op_mul pins s σ H x y v u Q I rx ry ⟨i, j, ha.int, hb.int, .inr (of_cb h), q _ H (Same.refl H) (.int _)⟩
        · exact op_mulW pins s σ H x y v u Q I rx ry ⟨i, j, ha.int, hb.int, (of_cb h : i.natAbs.log2 + j.natAbs.log2 < 1000000), q _ H (Same.refl H) (.int _)⟩
      · cases e
    | _ => cases e
  | _ => cases e
noncomputable def powD : D → D → Option D
  | .int i, .int j => if cb (0 ≤ j ∧ j ≤ 1000000 ∧ i.natAbs < 2 ^ 64) = true then some (.int (i ^ j.toNat)) else none
  | _, _ => none
theorem o_pow : OpR X (binaryOp .Pow) (rQ2 X.K powD) := by
  rintro pins s σ H x y v u Q I rx ry ⟨a, b, d, ha, hb, e, q⟩
  cases a with
  | int i => cases b with
    | int j =>
      have e : (if cb (0 ≤ j ∧ j ≤ 1000000 ∧ i.natAbs < 2 ^ 64) = true then some (PyData.int (i ^ j.toNat)) else none) = some d := e
      split at e
      · next h =>
        cases e
        exact op_pow pins s σ H x y v u Q I rx ry ⟨i, j, ha.int, hb.int, of_cb h, q _ H (Same.refl H) (.int _)⟩
      · cases e
    | _ => cases e
  | _ => cases e
noncomputable def fdivD : D → D → Option D
  | .int i, .int j => if cb (j ≠ 0 ∧ j.natAbs < 1073741824) = true then some (.int (i.fdiv j)) else none
  | _, _ => none
theorem o_fdiv : OpR X (binaryOp .FloorDiv) (rQ2 X.K fdivD) := by
  rintro pins s σ H x y v u Q I rx ry ⟨a, b, d, ha, hb, e, q⟩
  cases a with
  | int i => cases b with
    | int j =>
      have e : (if cb (j ≠ 0 ∧ j.natAbs < 1073741824) = true then some (PyData.int (i.fdiv j)) else none) = some d := e
      split at e
      · next h =>
        cases e
        exact op_fdivN pins s σ H x y v u Q I rx ry ⟨i, j, ha.int, hb.int, of_cb h, q _ H (Same.refl H) (.int _)⟩
      · cases e
    | _ => cases e
  | _ => cases e
def modD : D → D → Option D
  | .int i, .int j => if 0 < j then some (.int (i % j)) else none
  | _, _ => none
theorem o_mod : OpR X (binaryOp .Mod) (rQ2 X.K modD) := by
  rintro pins s σ H x y v u Q I rx ry ⟨a, b, d, ha, hb, e, q⟩
  cases a with
  | int i => cases b with
    | int j =>
      have e : (if 0 < j then some (PyData.int (i % j)) else none) = some d := e
      split at e
      · next h =>
        cases e
        exact op_mod pins s σ H x y v u Q I rx ry ⟨i, j, ha.int, hb.int, h, q _ H (Same.refl H) (.int _)⟩
      · cases e
    | _ => cases e
  | _ => cases e
@[simp] def negD : D → Option D
  | .int i => some (.int (-i))
  | _ => none
theorem o_neg : UnR X (unaryOp .USub) (rQ1 X.K negD) := by
  rintro pins s σ H x v Q I rx ⟨a, d, ha, e, q⟩
  cases a with
  | int i =>
    cases e
    exact un_neg pins s σ H x v Q I rx ⟨i, ha.int, q _ H (Same.refl H) (.int _)⟩
  | _ => cases e
/-- an order of numbers, of texts -/
def ordD (f : Int → Int → Bool) (g : Str → Str → Bool) : D → D → Option D
  | .int i, .int j => some (.bool (f i j))
  | .str i, .str j => some (.bool (g i j))
  | _, _ => none
theorem o_ord {op : CmpOp} {f : Int → Int → Bool} {g : Str → Str → Bool} (h1 : OpR X (compareOp op) (rI0 fun i j => .bl (f i j))) (h2 : OpR X (compareOp op) fun x y H Q => ∃ i j, x = .str i ∧ y = .str j ∧ Q (.bl (g i j)) H) : OpR X (compareOp op) (rQ2 X.K (ordD f g)) := by
  rintro pins s σ H x y v u Q I rx ry ⟨a, b, d, ha, hb, e, q⟩
  cases a with
  | int i => cases b with
    | int j =>
      cases e
      exact h1 pins s σ H x y v u Q I rx ry ⟨i, j, ha.int, hb.int, q _ H (Same.refl H) (.bl _)⟩
    | _ => cases e
  | str i => cases b with
    | str j =>
      cases e
      exact h2 pins s σ H x y v u Q I rx ry ⟨i, j, ha.str, hb.str, q _ H (Same.refl H) (.bl _)⟩
    | _ => cases e
  | _ => cases e
def ltD := ordD (fun i j => decide (i < j)) fun i j => decide (i.cps.toList < j.cps.toList)
def leD := ordD (fun i j => decide (i ≤ j)) fun i j => !decide (j.cps.toList < i.cps.toList)
def gtD := ordD (fun i j => decide (j < i)) fun i j => decide (j.cps.toList < i.cps.toList)
def geD := ordD (fun i j => decide (j ≤ i)) fun i j => !decide (i.cps.toList < j.cps.toList)
theorem o_lt : OpR X (compareOp .Lt) (rQ2 X.K ltD) := o_ord op_lt op_lt_str
theorem o_le : OpR X (compareOp .LtE) (rQ2 X.K leD) := o_ord op_le op_le_str
theorem o_gt : OpR X (compareOp .Gt) (rQ2 X.K gtD) := o_ord op_gt op_gt_str
theorem o_ge : OpR X (compareOp .GtE) (rQ2 X.K geD) := o_ord op_ge op_ge_str
/-! ### equality -/
mutual
theorem Im.dp {K : PySem.W.Frag} {H : Hp} : ∀ {v : V} (d : D), Im K H v d → d.canLay0 = true → Dp K H v d
  | _, .none, .non, _ => .non
  | _, .bool b, .bl _, _ => .bl b
  | _, .int i, .int _, _ => .int i
  | _, .str x, .str _, _ => .str x
  | _, .tuple ds, .tup h r, c => .tup h.sq (ImL.dp ds r c)
  | _, .list ds, .lst h r, c => .lst h.sq (ImL.dp ds r c)
  | _, .dict ds, .dic h r, c => by cases c
  | _, .dict _, .scr h, c => by cases c
  | _, .dict _, .prm _ _ _, c => by cases c
theorem ImL.dp {K : PySem.W.Frag} {H : Hp} : ∀ {vs : List V} (ds : List D), ImL K H vs ds → PyData.canLayAll0 ds = true → DpAll K H vs ds
  | _, [], .nil, _ => .nil
  | _, d :: ds, .cons h r, c => by
    have c : (d.canLay0 && PyData.canLayAll0 ds) = true := c
    rw [Bool.and_eq_true] at c
    exact .cons (Im.dp d h c.1) (ImL.dp ds r c.2)
end
theorem Vw.dp {K : PySem.W.Frag} {H : Hp} {v : V} {d : D} (h : Vw K H v d) (c : d.canLay0 = true) : Dp K H v d := by
  cases h with
  | im h => exact Im.dp d h c
  | lst e r => exact .lst (.inl (.inl e)) (ImL.dp _ r c)
  | dic _ _ => cases c
def eqD (a b : D) : Option Bool := if SeqAt.shaped a = true ∧ SeqAt.shaped b = true then some (PyData.eqv a b) else none
def twoS : D → D → Option Bool
  | .str x, .str y => some (x == y)
  | _, _ => none
theorem twoS_some {a b : D} {r : Bool} (h : twoS a b = some r) : ∃ x y, a = .str x ∧ b = .str y ∧ r = (x == y) := by
  unfold twoS at h
  split at h
  · cases h
    exact ⟨_, _, rfl, rfl, rfl⟩
  · cases h
def eqF (a b : D) : Option D := ((eqD a b).or (twoS a b)).map .bool
def neF (a b : D) : Option D := ((eqD a b).or (twoS a b)).map fun r => .bool (!r)
theorem or_some {α : Type} {a b : Option α} {r : α} (h : a.or b = some r) : a = some r ∨ b = some r := by
  cases a with
  | none => exact .inr h
  | some x => exact .inl h
theorem eqD_some {a b : D} {r : Bool} (h : eqD a b = some r) : SeqAt.shaped a = true ∧ SeqAt.shaped b = true ∧ r = PyData.eqv a b := by
  unfold eqD at h
  split at h
  · next c =>
    cases h
    exact ⟨c.1, c.2, rfl⟩
  · cases h
theorem map_some {α β : Type} {f : α → β} {o : Option α} {b : β} (h : o.map f = some b) : ∃ a, o = some a ∧ b = f a := by
  cases o with
  | none => cases h
  | some a =>
    cases h
    exact ⟨a, rfl, rfl⟩
theorem o_eq (hu : X.A.units + 64 < cLine) : OpR X (compareOp .Eq) (rQ2 X.K eqF) := by
  rintro pins s σ H x y v u Q I rx ry ⟨a, b, d, ha, hb, e, q⟩
  obtain ⟨r, e2, rfl⟩ := map_some e
  rcases or_some e2 with e2 | e2
  · obtain ⟨sa, sb, rfl⟩ := eqD_some e2
    exact op_eqD hu pins s σ H x y v u Q I rx ry ⟨a, b, ha.dp (SeqAt.canLay_of_shaped sa), hb.dp (SeqAt.canLay_of_shaped sb), sa, sb, q _ H (Same.refl H) (.bl _)⟩
  · obtain ⟨c, d, rfl, rfl, rfl⟩ := twoS_some e2
    obtain rfl := ha.str
    obtain rfl := hb.str
    refine op_eq pins s σ H _ _ v u Q I rx ry ⟨rfl, ?_⟩
    rw [dec_str]
    exact q _ H (Same.refl H) (.bl _)
theorem o_ne (hu : X.A.units + 64 < cLine) : OpR X (compareOp .NotEq) (rQ2 X.K neF) := by
  rintro pins s σ H x y v u Q I rx ry ⟨a, b, d, ha, hb, e, q⟩
  obtain ⟨r, e2, rfl⟩ := map_some e
  rcases or_some e2 with e2 | e2
  · obtain ⟨sa, sb, rfl⟩ := eqD_some e2
    exact op_neD hu pins s σ H x y v u Q I rx ry ⟨a, b, ha.dp (SeqAt.canLay_of_shaped sa), hb.dp (SeqAt.canLay_of_shaped sb), sa, sb, q _ H (Same.refl H) (.bl _)⟩
  · obtain ⟨c, d, rfl, rfl, rfl⟩ := twoS_some e2
    obtain rfl := ha.str
    obtain rfl := hb.str
    refine op_ne pins s σ H _ _ v u Q I rx ry ⟨rfl, ?_⟩
    rw [dec_str]
    exact q _ H (Same.refl H) (.bl _)
theorem eqAt_vw {pins : List (Addr × Obj)} {σ : L2.St} {H : Hp} {s : Shared} (I : Inv X pins σ H s) {A : Around} (hu : A.units + 64 < cLine) {x y : V} {a b : D} {r : Bool} {u v : Value} (hx : Vw X.K H x a) (hy : Vw X.K H y b) (e : eqD a b = some r) (rx : RelV x u) (ry : RelV y v) : SeqAt.EqAt A s u v r := by
  obtain ⟨sa, sb, rfl⟩ := eqD_some e
  obtain ⟨as, r1⟩ := Dp.reads I a x u (hx.dp (SeqAt.canLay_of_shaped sa)) rx
  obtain ⟨bs, r2⟩ := Dp.reads I b y v (hy.dp (SeqAt.canLay_of_shaped sb)) ry
  exact SeqAt.eqAt_reads a b A s u v as bs r1 r2 (SeqAt.canLay_of_shaped sa) (SeqAt.canLay_of_shaped sb) (SeqAt.room_of_shaped sa hu)
/-! ### x in xs -/
@[simp] def itemsD : D → Option (List D)
  | .tuple ys => some ys
  | .list ys => some ys
  | _ => none
def inD (x y : D) : Option Bool := (itemsD y).bind fun ys => if SeqAt.shaped x = true ∧ PyData.canLayAll0 ys = true then some (ys.any fun z => PyData.eqv z x) else none
def inF (x y : D) : Option D := (inD x y).map .bool
def ninF (x y : D) : Option D := (inD x y).map fun r => .bool (!r)
theorem inD_some {x y : D} {r : Bool} (h : inD x y = some r) : ∃ ys, (y = .tuple ys ∨ y = .list ys) ∧ SeqAt.shaped x = true ∧ PyData.canLayAll0 ys = true ∧ r = ys.any fun z => PyData.eqv z x := by
  unfold inD at h
  cases y with
  | tuple ys =>
    have h : (if SeqAt.shaped x = true ∧ PyData.canLayAll0 ys = true then some (ys.any fun z => PyData.eqv z x) else none) = some r := h
    split at h
    · next c =>
      cases h
      exact ⟨ys, .inl rfl, c.1, c.2, rfl⟩
    · cases h
  | list ys =>
    have h : (if SeqAt.shaped x = true ∧ PyData.canLayAll0 ys = true then some (ys.any fun z => PyData.eqv z x) else none) = some r := h
    split at h
    · next c =>
      cases h
      exact ⟨ys, .inr rfl, c.1, c.2, rfl⟩
    · cases h
  | _ => cases h
theorem o_in (hu : X.A.units + 65 < cLine) : OpR X (compareOp .In) (rQ2 X.K inF) := by
  rintro pins s σ H x y v u Q I rx ry ⟨a, b, d, ha, hb, e, q⟩
  obtain ⟨r, e2, rfl⟩ := map_some e
  obtain ⟨ys, hy, sx, cy, rfl⟩ := inD_some e2
  obtain ⟨as, r1⟩ := Dp.reads I a x v (ha.dp (SeqAt.canLay_of_shaped sx)) rx
  rcases hy with rfl | rfl
  · obtain ⟨bs, r2⟩ := Dp.reads I _ y u (hb.dp cy) ry
    exact SeqAt.in_tuple_reads r2 r1 cy (SeqAt.canLay_of_shaped sx) (room_in_shaped sx hu) ⟨.bl _, H, I, rfl, q _ H (Same.refl H) (.bl _)⟩
  · obtain ⟨bs, r2⟩ := Dp.reads I _ y u (hb.dp cy) ry
    exact SeqAt.in_list_reads r2 r1 cy (SeqAt.canLay_of_shaped sx) (room_in_shaped sx hu) ⟨.bl _, H, I, rfl, q _ H (Same.refl H) (.bl _)⟩
theorem o_nin (hu : X.A.units + 65 < cLine) : OpR X (compareOp .NotIn) (rQ2 X.K ninF) := by
  rintro pins s σ H x y v u Q I rx ry ⟨a, b, d, ha, hb, e, q⟩
  obtain ⟨r, e2, rfl⟩ := map_some e
  obtain ⟨ys, hy, sx, cy, rfl⟩ := inD_some e2
  obtain ⟨as, r1⟩ := Dp.reads I a x v (ha.dp (SeqAt.canLay_of_shaped sx)) rx
  rcases hy with rfl | rfl
  · obtain ⟨bs, r2⟩ := Dp.reads I _ y u (hb.dp cy) ry
    exact SeqAt.notIn_tuple_reads r2 r1 cy (SeqAt.canLay_of_shaped sx) (room_in_shaped sx hu) ⟨.bl _, H, I, rfl, q _ H (Same.refl H) (.bl _)⟩
  · obtain ⟨bs, r2⟩ := Dp.reads I _ y u (hb.dp cy) ry
    exact SeqAt.notIn_list_reads r2 r1 cy (SeqAt.canLay_of_shaped sx) (room_in_shaped sx hu) ⟨.bl _, H, I, rfl, q _ H (Same.refl H) (.bl _)⟩
/-! ### is None, is True -/
@[simp] def noneB : D → Bool
  | .none => true
  | _ => false
@[simp] def isND : D → D → Option D
  | a, .none => some (.bool (noneB a))
  | _, _ => none
theorem vw_non {K : PySem.W.Frag} {H : Hp} {x : V} {a : D} (h : Vw K H x a) : decide (x = .non) = noneB a := by
  cases h with
  | im h => cases h <;> rfl
  | lst _ _ => rfl
  | dic _ _ => rfl
theorem o_isN : OpR X (compareOp .Is) (rQ2 X.K isND) := by
  rintro pins s σ H x y v u Q I rx ry ⟨a, b, d, ha, hb, e, q⟩
  cases b with
  | none =>
    cases e
    refine op_isN pins s σ H x y v u Q I rx ry ⟨hb.non, ?_⟩
    rw [vw_non ha]
    exact q _ H (Same.refl H) (.bl _)
  | _ => cases e
@[simp] def notND : D → D → Option D
  | a, .none => some (.bool (!noneB a))
  | _, _ => none
theorem o_notN : OpR X (compareOp .IsNot) (rQ2 X.K notND) := by
  rintro pins s σ H x y v u Q I rx ry ⟨a, b, d, ha, hb, e, q⟩
  cases b with
  | none =>
    cases e
    refine op_notN pins s σ H x y v u Q I rx ry ⟨hb.non, ?_⟩
    rw [vw_non ha]
    exact q _ H (Same.refl H) (.bl _)
  | _ => cases e
@[simp] def isBD : D → D → Option D
  | .bool a, .bool b => some (.bool (decide (a = b)))
  | _, _ => none
@[simp] def notBD : D → D → Option D
  | .bool a, .bool b => some (.bool (!decide (a = b)))
  | _, _ => none
theorem o_isB : OpR X (compareOp .Is) (rQ2 X.K isBD) := by
  rintro pins s σ H x y v u Q I rx ry ⟨a, b, d, ha, hb, e, q⟩
  cases a with
  | bool i => cases b with
    | bool j =>
      cases e
      exact op_is_bl pins s σ H x y v u Q I rx ry ⟨i, j, ha.bl, hb.bl, q _ H (Same.refl H) (.bl _)⟩
    | _ => cases e
  | _ => cases e
theorem o_notB : OpR X (compareOp .IsNot) (rQ2 X.K notBD) := by
  rintro pins s σ H x y v u Q I rx ry ⟨a, b, d, ha, hb, e, q⟩
  cases a with
  | bool i => cases b with
    | bool j =>
      cases e
      exact op_isnot_bl pins s σ H x y v u Q I rx ry ⟨i, j, ha.bl, hb.bl, q _ H (Same.refl H) (.bl _)⟩
    | _ => cases e
  | _ => cases e
/-! ### xs[i] -/
def ixD : D → D → Option D
  | .tuple ds, .int i => atI ds i
  | .list ds, .int i => atI ds i
  | .dict [(.none, .list ds)], .int i => atI ds i
  | .str z, .int i => if z.length ≤ sizeLine then (atI z.cps.toList i).map sign else none
  | _, _ => none
theorem atI_im {K : PySem.W.Frag} {H : Hp} {xs : List V} {ds : List D} {i : Int} {d : D} (r : ImL K H xs ds) (h : atI ds i = some d) : ∃ x, atI xs i = some x ∧ Im K H x d := by
  unfold atI at h ⊢
  rw [r.len]
  cases e : ixN ds.length i with
  | none =>
    rw [e] at h
    cases h
  | some j =>
    rw [e] at h
    exact r.at h
theorem kv_none {K : PySem.W.Frag} {H : Hp} {kvs : List (Key × V)} {d : D} (h : ImKV K H kvs [(.none, d)]) : False := by
  generalize e : [(PyData.none, d)] = z at h
  cases h with
  | nil => cases e
  | @cons k _ _ _ _ _ _ =>
    injection e with e1 e2
    injection e1 with e3 e4
    cases k <;> cases e3
theorem vw_scr {K : PySem.W.Frag} {H : Hp} {v : V} {d : D} (h : Vw K H v (.dict [(.none, d)])) : ∃ (a : Addr) (ns : List Int), v = .ref a ∧ d = .list (ns.map PyData.int) ∧ SqL K H a (ns.map V.int) := by
  cases h with
  | im h => cases h with
    | scr h => exact ⟨_, _, rfl, rfl, h.sq⟩
    | dic h r => exact (kv_none r).elim
  | dic h r => exact (kv_none r).elim
theorem ints_im {K : PySem.W.Frag} {H : Hp} : ∀ (ns : List Int), ImL K H (ns.map V.int) (ns.map PyData.int)
  | [] => .nil
  | i :: ns => .cons (.int i) (ints_im ns)
theorem i_ix : IxR X (rQ2 X.K ixD) := by
  rintro value slice pins s σ H x y v u Q I rx ry ⟨a, b, d, ha, hb, e, q⟩ hs
  have seq : ∀ {p : Addr} {xs : List V} {ds : List D} {i : Int}, x = .ref p → SqL X.K H p xs → ImL X.K H xs ds → y = .int i → atI ds i = some d → wpAny (model X.prog X.w) X.A (subscriptTail value slice v u) (EP X pins σ Q) X.xe s := fun {p xs ds i} ex hp ip ey e => by
    subst ex ey
    obtain ⟨z, ez, iz⟩ := atI_im ip e
    exact ix_list value slice pins s σ H _ _ v u Q I rx ry ⟨p, xs, i, z, rfl, rfl, hp, ez, q _ H (Same.refl H) iz⟩ hs
  unfold ixD at e
  split at e
  · obtain ⟨p, xs, rfl, hp, ip⟩ := ha.tuple
    obtain ⟨z, ez, iz⟩ := atI_im ip e
    exact ix_tup value slice pins s σ H _ y v u Q I rx ry ⟨p, xs, _, z, rfl, hb.int, hp, ez, q _ H (Same.refl H) iz⟩ hs
  · obtain ⟨p, xs, rfl, hp, ip⟩ := ha.list
    exact seq rfl hp ip hb.int e
  · obtain ⟨p, ns, rfl, ed, hp⟩ := vw_scr ha
    cases ed
    exact seq rfl hp (ints_im ns) hb.int e
  · split at e
    · next le =>
      obtain ⟨c, ec, rfl⟩ := map_some e
      exact ix_str value slice pins s σ H _ y v u Q I rx ry ⟨_, _, c, ha.str, hb.int, le, ec, q _ H (Same.refl H) (.str _)⟩ hs
    · cases e
  · cases e
theorem xd_ix {n : Nat} {W : XW} {a b : Expr} {pos : Pos} {f g : Mo R} (ha : XD X n W a f) (hb : XD X n W b g) (hs : PlainIx b) : XD X n W (.Subscript a b pos) (e2 ixD f g) := weakE (pe_ix i_ix ha hb hs) (op2_run q2)
end
end Q
namespace Q
open PySem PySem.Spec PyProof.Rows L2 Gd
variable [Tbl]
section
variable {X : Cx} {n : Nat} {W : XW}
/-! ### built-in calls -/
theorem xd_callB {id : String} {F : List D → Option D} {x : Str} {p pos : Pos} {e : Expr} {es : List Expr} {m : Mo (List R)} (hc : CallR X (.builtin id) (rQN X.K F)) (hg : Gl X x) (hm : X.mg x = none) (hv : bootBuiltins x = some (.builtin id)) (ha : XA X n W (e :: es) m) (hn : x ≠ "__name__" := by decide) (hdb : (x == ("__debug__" : Str)) = false := by decide)
    (he : starEach (e :: es) X.env = (false, eval e X.env) :: starEach es X.env := by rfl) (hpl : (backTo pos (starEach es X.env)).any (·.1) = false := by rfl) : XD X n W (.Call (.Name x p) (e :: es) [] pos) (eN F m) := weakE (pe_callB hc hg hm hv ha hn hdb he hpl) (opN_run qN)
theorem xd_callT {T : String} {F : List D → Option D} {x : Str} {p pos : Pos} {e : Expr} {es : List Expr} {m : Mo (List R)} (hc : CallR X (.type T) (rQN X.K F)) (hg : Gl X x) (hm : X.mg x = none) (hv : bootBuiltins x = some (.type T)) (ha : XA X n W (e :: es) m) (hn : x ≠ "__name__" := by decide) (hdb : (x == ("__debug__" : Str)) = false := by decide)
    (he : starEach (e :: es) X.env = (false, eval e X.env) :: starEach es X.env := by rfl) (hpl : (backTo pos (starEach es X.env)).any (·.1) = false := by rfl) : XD X n W (.Call (.Name x p) (e :: es) [] pos) (eN F m) := weakE (pe_callTy hc hg hm hv ha hn hdb he hpl) (opN_run qN)
@[simp] def lenD : List D → Option D
  | [.tuple ds] => some (.int ds.length)
  | [.list ds] => some (.int ds.length)
  | [.dict [(.none, .list ds)]] => some (.int ds.length)
  | [.str z] => if z.length ≤ sizeLine then some (.int z.length) else none
  | _ => none
theorem c_len : CallR X (.builtin "len") (rQN X.K lenD) := by
  rintro pins s σ H xs us Q I r ⟨as, d, hx, e, q⟩
  unfold lenD at e
  split at e
  · cases e
    obtain ⟨x, rfl, h⟩ := hx.one
    obtain ⟨p, ys, rfl, hp, ip⟩ := h.tuple
    refine call_len pins s σ H _ us Q I r ⟨_, _, rfl, .inr ⟨ys, hp, rfl⟩, ?_⟩
    rw [ip.len]
    exact q _ H (Same.refl H) (.int _)
  · cases e
    obtain ⟨x, rfl, h⟩ := hx.one
    obtain ⟨p, ys, rfl, hp, ip⟩ := h.list
    refine call_len pins s σ H _ us Q I r ⟨_, _, rfl, .inl ⟨ys, hp, rfl⟩, ?_⟩
    rw [ip.len]
    exact q _ H (Same.refl H) (.int _)
  · cases e
    obtain ⟨x, rfl, h⟩ := hx.one
    obtain ⟨p, ns, rfl, ed, hp⟩ := vw_scr h
    cases ed
    refine call_len pins s σ H _ us Q I r ⟨_, _, rfl, .inl ⟨_, hp, rfl⟩, ?_⟩
    rw [List.length_map]
    rw [List.length_map] at q
    exact q _ H (Same.refl H) (.int _)
  · split at e
    · next le =>
      cases e
      obtain ⟨x, rfl, h⟩ := hx.one
      cases h.str
      exact call_len pins s σ H _ us Q I r ⟨_, _, rfl, ⟨le, rfl⟩, q _ H (Same.refl H) (.int _)⟩
    · cases e
  · cases e
def boolsD : List D → Option (List Bool)
  | [] => some []
  | .bool b :: ds => (boolsD ds).map (b :: ·)
  | _ :: _ => none
theorem bools_im {K : PySem.W.Frag} {H : Hp} : ∀ {xs : List V} {ds : List D} {bs : List Bool}, ImL K H xs ds → boolsD ds = some bs → xs = bs.map V.bl
  | _, [], bs, .nil, e => by
    cases e
    rfl
  | _, .bool b :: ds, bs, .cons h r, e => by
    cases h
    obtain ⟨cs, e2, rfl⟩ := map_some (show (boolsD ds).map (b :: ·) = some bs from e)
    rw [List.map_cons, bools_im r e2]
  | _, .none :: _, _, .cons _ _, e => by cases e
  | _, .int _ :: _, _, .cons _ _, e => by cases e
  | _, .str _ :: _, _, .cons _ _, e => by cases e
  | _, .list _ :: _, _, .cons _ _, e => by cases e
  | _, .tuple _ :: _, _, .cons _ _, e => by cases e
  | _, .dict _ :: _, _, .cons _ _, e => by cases e
def allD : List D → Option D
  | [.list ds] => (boolsD ds).map fun bs => .bool (bs.all id)
  | _ => none
def anyD : List D → Option D
  | [.list ds] => (boolsD ds).map fun bs => .bool (bs.any id)
  | _ => none
theorem c_all (hc : X.calm = true) : CallR X (.builtin "all") (rQN X.K allD) := by
  rintro pins s σ H xs us Q I r ⟨as, d, hx, e, q⟩
  unfold allD at e
  split at e
  · next ds =>
    obtain ⟨bs, e2, rfl⟩ := map_some e
    obtain ⟨x, rfl, h⟩ := hx.one
    obtain ⟨p, ys, rfl, hp, ip⟩ := h.list
    rw [bools_im ip e2] at hp
    exact cr_all hc pins s σ H _ us Q I r ⟨p, bs, rfl, hp, q _ H (Same.refl H) (.bl _)⟩
  · cases e
theorem c_any (hc : X.calm = true) : CallR X (.builtin "any") (rQN X.K anyD) := by
  rintro pins s σ H xs us Q I r ⟨as, d, hx, e, q⟩
  unfold anyD at e
  split at e
  · next ds =>
    obtain ⟨bs, e2, rfl⟩ := map_some e
    obtain ⟨x, rfl, h⟩ := hx.one
    obtain ⟨p, ys, rfl, hp, ip⟩ := h.list
    rw [bools_im ip e2] at hp
    exact cr_any hc pins s σ H _ us Q I r ⟨p, bs, rfl, hp, q _ H (Same.refl H) (.bl _)⟩
  · cases e
@[simp] def tupleD : List D → Option D
  | [.list ds] => some (.tuple ds)
  | [.tuple ds] => some (.tuple ds)
  | _ => none
theorem c_tuple : CallR X (.type "tuple") (rQN X.K tupleD) := by
  rintro pins s σ H xs us Q I r ⟨as, d, hx, e, q⟩
  unfold tupleD at e
  split at e
  · cases e
    obtain ⟨x, rfl, h⟩ := hx.one
    obtain ⟨p, ys, rfl, hp, ip⟩ := h.list
    obtain ⟨u, rfl, rx⟩ := vals1 r
    cases rx
    obtain ⟨its, r', pl, hz⟩ := I.list hp
    have hlen := r'.length
    refine call_tuple_list pl.isList (fun h' kp => ?_) (by simp only [List.size_toArray] <;> omega)
    exact new_tup (I.kept (t' := s.toks) kp) hz r' fun l o hl ho => q _ _ (same_upd hl) (.tup ⟨o, upd_same, ho⟩ (ip.same (same_upd hl)))
  · cases e
    obtain ⟨x, rfl, h⟩ := hx.one
    obtain ⟨p, ys, rfl, hp, ip⟩ := h.tupleN
    exact call_tuple_of pins s σ H _ us Q I r ⟨p, ys, rfl, .inr ⟨hp.sq, q _ H (Same.refl H) (.tup hp ip)⟩⟩
  · cases e
@[simp] def absD : List D → Option D
  | [.int i] => some (.int (if i < 0 then -i else i))
  | _ => none
theorem c_abs : CallR X (.builtin "abs") (rQN X.K absD) := by
  rintro pins s σ H xs us Q I r ⟨as, d, hx, e, q⟩
  unfold absD at e
  split at e
  · cases e
    obtain ⟨x, rfl, h⟩ := hx.one
    cases h.int
    exact call_abs pins s σ H _ us Q I r ⟨_, rfl, q _ H (Same.refl H) (.int _)⟩
  · cases e
@[simp] def max2D : List D → Option D
  | [.int i, .int j] => some (.int (if j > i then j else i))
  | _ => none
@[simp] def min2D : List D → Option D
  | [.int i, .int j] => some (.int (if j < i then j else i))
  | _ => none
theorem c_max2 (hc : X.calm = true) : CallR X (.builtin "max") (rQN X.K max2D) := by
  rintro pins s σ H xs us Q I r ⟨as, d, hx, e, q⟩
  unfold max2D at e
  split at e
  · cases e
    obtain ⟨x, y, rfl, h, h2⟩ := hx.two
    cases h.int
    cases h2.int
    exact call_max2 hc pins s σ H _ us Q I r ⟨_, _, rfl, q _ H (Same.refl H) (.int _)⟩
  · cases e
theorem c_min2 (hc : X.calm = true) : CallR X (.builtin "min") (rQN X.K min2D) := by
  rintro pins s σ H xs us Q I r ⟨as, d, hx, e, q⟩
  unfold min2D at e
  split at e
  · cases e
    obtain ⟨x, y, rfl, h, h2⟩ := hx.two
    cases h.int
    cases h2.int
    exact call_min2 hc pins s σ H _ us Q I r ⟨_, _, rfl, q _ H (Same.refl H) (.int _)⟩
  · cases e
@[simp] def intD : List D → Option D
  | [.int i] => some (.int i)
  | [.bool k] => some (.int (if k then 1 else 0))
  | _ => none
theorem c_int : CallR X (.type "int") (rQN X.K intD) := by
  rintro pins s σ H xs us Q I r ⟨as, d, hx, e, q⟩
  unfold intD at e
  split at e
  · cases e
    obtain ⟨x, rfl, h⟩ := hx.one
    cases h.int
    exact call_int1 pins s σ H _ us Q I r (.inl ⟨_, rfl, q _ H (Same.refl H) (.int _)⟩)
  · cases e
    obtain ⟨x, rfl, h⟩ := hx.one
    cases h.bl
    exact call_int1 pins s σ H _ us Q I r (.inr ⟨_, rfl, q _ H (Same.refl H) (.int _)⟩)
  · cases e
/-! ### repr -/
def reprD : List D → Option D
  | [d] => if d.showable = true ∧ d.hasDict = false ∧ d.depth ≤ 60 ∧ d.shown.length ≤ sizeLine then some (.str d.shown) else none
  | _ => none
mutual
theorem Im.dp2 {K : PySem.W.Frag} {H : Hp} : ∀ {v : V} (d : D), Im K H v d → d.hasDict = false → Dp K H v d
  | _, .none, .non, _ => .non
  | _, .bool b, .bl _, _ => .bl b
  | _, .int i, .int _, _ => .int i
  | _, .str x, .str _, _ => .str x
  | _, .tuple ds, .tup h r, c => .tup h.sq (ImL.dp2 ds r c)
  | _, .list ds, .lst h r, c => .lst h.sq (ImL.dp2 ds r c)
  | _, .dict ds, .dic h r, c => by cases c
  | _, .dict _, .scr h, c => by cases c
  | _, .dict _, .prm _ _ _, c => by cases c
theorem ImL.dp2 {K : PySem.W.Frag} {H : Hp} : ∀ {vs : List V} (ds : List D), ImL K H vs ds → PyData.hasDictAll ds = false → DpAll K H vs ds
  | _, [], .nil, _ => .nil
  | _, d :: ds, .cons h r, c => by
    have c : (d.hasDict || PyData.hasDictAll ds) = false := c
    rw [Bool.or_eq_false_iff] at c
    exact .cons (Im.dp2 d h c.1) (ImL.dp2 ds r c.2)
end
theorem Vw.dp2 {K : PySem.W.Frag} {H : Hp} {v : V} {d : D} (h : Vw K H v d) (c : d.hasDict = false) : Dp K H v d := by
  cases h with
  | im h => exact Im.dp2 d h c
  | lst e r => exact .lst (.inl (.inl e)) (ImL.dp2 _ r c)
  | dic _ _ => cases c
theorem c_repr (g : X.A.guards = some []) (hu : X.A.units + 64 < cLine) : CallR X (.builtin "repr") (rQN X.K reprD) := by
  rintro pins s σ H xs us Q I r ⟨as, d, hx, e, q⟩
  unfold reprD at e
  split at e
  · next a =>
    split at e
    · next c =>
      cases e
      obtain ⟨x, rfl, h⟩ := hx.one
      exact call_show g hu pins s σ H _ us Q I r ⟨x, a, rfl, h.dp2 c.2.1, c.1, c.2.1, c.2.2.1, c.2.2.2, q _ H (Same.refl H) (.str _)⟩
    · cases e
  · cases e
/-! ### isinstance -/
def kind : D → String
  | .none => "NoneType"
  | .bool _ => "bool"
  | .int _ => "int"
  | .str _ => "str"
  | .list _ => "list"
  | .tuple _ => "tuple"
  | .dict [(.none, _)] => "list"
  | .dict ((.bool _, _) :: _) => "tuple"
  | .dict _ => "dict"
theorem vw_ty {K : PySem.W.Frag} {H : Hp} {x : V} {d : D} (h : Vw K H x d) : TyX K H x (.type (kind d)) := by
  have lst : ∀ {a : Addr} {xs : List V}, SqL K H a xs → TyX K H (.ref a) (.type "list") := fun h => by
    rcases h with (h | ⟨o, h⟩) | ⟨o, its, n, h, c, _⟩
    · exact .base (.lst h)
    · exact .base (.frz h)
    · exact .kList h c
  have tup : ∀ {a : Addr} {xs : List V}, SqT K H a xs → TyX K H (.ref a) (.type "tuple") := fun h => by
    rcases h with (h | ⟨o, h⟩) | ⟨o, its, n, h, c, _⟩
    · exact .base (.tup h)
    · exact .fTuple h
    · exact .kTuple h c
  cases h with
  | im h => cases h with
    | non => exact .base .non
    | bl b => exact .base (.bl b)
    | int i => exact .base (.int i)
    | str z => exact .base (.str z)
    | tup h _ => exact tup h.sq
    | prm h _ _ => exact tup h
    | lst h _ => exact lst h.sq
    | scr h => exact lst h.sq
    | @dic a o ks ds h r =>
      have e : kind (.dict ds) = "dict" := by
        cases r with
        | nil => rfl
        | @cons k _ _ _ _ _ r => cases k <;> rfl
      rw [e]
      exact .fDict h
  | lst h _ => exact .base (.lst h)
  | @dic p ks ds h r =>
    have e : kind (.dict ds) = "dict" := by
      cases r with
      | nil => rfl
      | @cons k _ _ _ _ _ r => cases k <;> rfl
    rw [e]
    exact .base (.dK h)
end
end Q
namespace Q
open PySem PySem.Spec PyProof.Rows L2 Gd
variable [Tbl]
theorem sz1000 {n : Nat} (h : n ≤ 1000) : n ≤ sizeLine := Nat.le_trans h (by decide)
/-! ### sorted(t), t a tuple of texts -/
section
variable {prog : Program} {w : World} {A : Around} {E : Value → Shared → Prop} {s : Shared}
theorem collect_tup {l : Addr} {vs : List Value} {Q : List Value → Shared → Prop} (hl : IsTup s.heap l vs.toArray) (hsz : vs.length ≤ sizeLine)
    (h : ∀ h' : Heap, (∀ b o, s.heap.get? b = some o → h'.get? b = some o) → Q vs { s with heap := h' }) : wpAny (model prog w) A (collect (.ref l)) Q E s := by
  obtain ⟨o, ho, hc, n, hd⟩ := id hl
  unfold collect
  refine wpAny_bind (wpAny_runValue (codeAny_builtin entry_proto_collect' ?_))
  show wpAny _ _ (do again (.builtin "list.__iadd__" ⟨[← newList [], .ref l], []⟩)) _ _ s
  refine wpAny_bind (wpAny_newList (wpAny_pure ⟨Code.quiet_builtin _ (by decide +kernel), codeAny_builtin entry_list_iadd' ?_⟩))
  show wpAny _ _ (Builtin.List.listExtendWith (.ref s.heap.objs.size) (.ref l) (.ref s.heap.objs.size)) _ _ { s with heap := s.heap.push (seqObj "list" #[] 0) }
  unfold Builtin.List.listExtendWith
  have old : ∀ b u, s.heap.get? b = some u → (s.heap.push (seqObj "list" #[] 0)).get? b = some u := fun b u e => Heap.get?_push_of_some _ e
  have new : (s.heap.push (seqObj "list" #[] 0)).get? s.heap.objs.size = some (seqObj "list" #[] 0) := Heap.get?_push_size _ rfl
  refine wpAny_bind (wpAny_typeOf (T := "tuple") ⟨o, old _ _ ho, hc⟩ ?_)
  have tt : (Value.type "tuple" == Value.type "tuple") = true := by rfl
  rw [if_pos (by rw [tt]; simp)]
  refine wpAny_bind (listItems_at (old _ _ ho) hd ?_)
  refine wpAny_bind (listItems_at (xs := #[]) (n := 0) new rfl ?_)
  rw [if_neg (by simp)]
  refine wpAny_bind (listUpdate_at (xs := #[]) (n := 0) new rfl ?_ (Nat.zero_le _) ?_)
  · refine wpAny_pure ?_
    show wpAny (model prog w) A (do
      let o ← load s.heap.objs.size
      match o.data with
      | .seq xs _ => pure xs.toList
      | _ => unsupported "internal:collect") Q E _
    refine wpAny_bind (wpAny_load (get?_update_seq new _) ?_)
    show wpAny _ _ (pure ((#[] : Array Value) ++ vs.toArray).toList) Q E _
    have e : ((#[] : Array Value) ++ vs.toArray).toList = vs := by simp
    rw [e]
    refine wpAny_pure (h _ fun b u e => ?_)
    have ne : b ≠ s.heap.objs.size := Nat.ne_of_lt (Heap.lt_size e)
    rw [Heap.get?_update_ne _ _ _ _ ne]
    exact old b u e
  · show ((#[] : Array Value) ++ vs.toArray).size ≤ sizeLine + 1
    simp only [Array.size_append, List.size_toArray, List.length_nil]
    omega
end
def rSortT (K : PySem.W.Frag) : List V → Hp → VK → Prop := fun vs H Q => ∃ (a : Addr) (xs : List Str), vs = [V.ref a] ∧ SqT K H a (xs.map V.str) ∧ xs.length < 64 ∧ ∀ (ys : List Str) (p : Addr), ys.Perm xs → sortedS ys = true → H p = none → Q (.ref p) (upd H p (.lst (ys.map V.str)))
theorem cr_sortT0 {X : Cx} : CallR X (.builtin "sorted") (rSortT X.K) := by
  rintro pins s σ H vs us Q I r ⟨a, xs, rfl, ht, h64, q⟩
  obtain ⟨u, rfl, rx⟩ := vals1 r
  cases rx
  obtain ⟨its, rv, tp, _⟩ := I.tuple ht
  have hS := rv.strs
  have hlen : its.length = xs.length := by
    have z := rv.length
    rw [List.length_map] at z
    exact z.symm
  have sz : its.length ≤ sizeLine := sz1000 (by omega)
  refine Calls.call_function_entry kind_sorted plain_sorted entry_sorted (args_sorted1 _) ?_
  unfold Builtin.«sorted»
  refine wpAny_bind (m := checkCount "sorted" 1 1 _) (wpAny_pure ?_)
  refine wpAny_bind (collect_tup tp sz fun h' hk => ?_)
  have J : Inv X pins σ H { s with heap := h' } := I.kept (t' := s.toks) hk
  refine wpAny_bind (wpAny_newList ?_ sz)
  have at_new : (h'.push (seqObj "list" its.toArray 0)).get? h'.objs.size = some (seqObj "list" its.toArray 0) := Heap.get?_push_size _ rfl
  show wpAny _ _ _ _ _ { s with heap := h'.push (seqObj "list" its.toArray 0) }
  refine wpAny_bind (wpAny_holding (wpAny_call_entry slot_list_sort ⟨_, at_new, rfl⟩ entry_list_sort (list_sort_treeK strKind_oneLt (s := { s with heap := h'.push (seqObj "list" its.toArray 0) }) at_new hS.keysOf (fun _ _ _ e => keyKind_strs (by rw [← e]; exact hS)) (by omega) fun st hp hs => ⟨_, rfl, ?_⟩) (args_list_sort _)))
  obtain ⟨ys, g1, g2, g3⟩ := sorted_out_str hS hp hs
  obtain ⟨ep, he⟩ := sortedHeap_at (vs := its) (out := (arrOf st).map (·.2)) at_new
  have small : (ys.map V.str).length ≤ sizeLine := by
    rw [List.length_map, g2.length_eq]
    exact sz1000 (by omega)
  refine wpAny_pure ⟨_, rfl, .ref h'.objs.size, upd H h'.objs.size (.lst (ys.map V.str)), J.laid (t' := s.toks) (fun b u e => ?_) (Nat.le_refl _) ?_, rfl, q ys _ g2 g3 (J.hok.fresh (Nat.le_refl _))⟩
  · have lt : b < h'.objs.size := Heap.lt_size e
    rw [sortedHeap_old (Nat.ne_of_lt lt) (by rw [size_push']; exact Nat.lt_succ_of_lt lt)]
    exact Heap.get?_push_of_some _ e
  · exact ⟨small, ((arrOf st).map (·.2)).toList, ep, vals_of_strs g1, by rw [Array.toArray_toList]; exact he⟩
/-! ### what sorted rows are -/
def leS (x y : Str) : Prop := x.cps.toList ≤ y.cps.toList
instance (x y : Str) : Decidable (leS x y) := inferInstanceAs (Decidable (x.cps.toList ≤ y.cps.toList))
theorem leS_trans {x y z : Str} (a : leS x y) (b : leS y z) : leS x z := List.le_trans a b
theorem leS_total (x y : Str) : leS x y ∨ leS y x := List.le_total _ _
theorem leS_antisymm {x y : Str} (a : leS x y) (b : leS y x) : x = y := by
  have e : x.cps.toList = y.cps.toList := List.le_antisymm a b
  obtain ⟨xs⟩ := x
  obtain ⟨ys⟩ := y
  have e2 : xs = ys := Array.toList_inj.mp e
  rw [e2]
theorem rising_pw : ∀ (l : List Str) (p : Str), risingS p l = true → (p :: l).Pairwise leS
  | [], p, _ => List.pairwise_singleton _ _
  | x :: r, p, h => by
    have h : (!ltCps x.cps.toList p.cps.toList && risingS x r) = true := h
    rw [Bool.and_eq_true] at h
    have ih := rising_pw r x h.2
    have px : leS p x := by
      have z := h.1
      rw [ltCps_eq] at z
      simp only [Bool.not_eq_true', decide_eq_false_iff_not] at z
      exact z
    refine List.pairwise_cons.mpr ⟨fun y hy => ?_, ih⟩
    rcases List.mem_cons.mp hy with e | hy
    · rw [e]
      exact px
    · exact leS_trans px ((List.pairwise_cons.mp ih).1 y hy)
theorem sorted_pw {l : List Str} (h : sortedS l = true) : l.Pairwise leS := by
  cases l with
  | nil => exact List.Pairwise.nil
  | cons x r => exact rising_pw r x h
/-- the one sorted list -/
def srt (l : List Str) : List Str := l.mergeSort fun a b => decide (leS a b)
theorem srt_perm (l : List Str) : (srt l).Perm l := List.mergeSort_perm l _
theorem srt_pw (l : List Str) : (srt l).Pairwise leS := by
  have h := List.pairwise_mergeSort (le := fun a b => decide (leS a b)) (fun a b c h1 h2 => by
    simp only [decide_eq_true_eq] at h1 h2 ⊢
    exact leS_trans h1 h2) (fun a b => by
    simp only [Bool.or_eq_true, decide_eq_true_eq]
    exact leS_total a b) l
  exact h.imp fun h => of_decide_eq_true h
theorem pw_one {l m : List Str} (p : l.Perm m) (h : l.Pairwise leS) (h' : m.Pairwise leS) : l = m := List.Perm.eq_of_pairwise (fun a b _ _ x y => leS_antisymm x y) h h' p
theorem srt_one {l m : List Str} (p : l.Perm m) (h : sortedS l = true) : l = srt m := pw_one (p.trans (srt_perm m).symm) (sorted_pw h) (srt_pw m)
theorem srt_eq {l m : List Str} (p : l.Perm m) (h : l.Pairwise leS) : l = srt m := pw_one (p.trans (srt_perm m).symm) h (srt_pw m)
theorem srt_mem {l : List Str} {x : Str} : x ∈ srt l ↔ x ∈ l := (srt_perm l).mem_iff
theorem srt_len (l : List Str) : (srt l).length = l.length := (srt_perm l).length_eq
theorem srt_nodup {l : List Str} (h : l.Nodup) : (srt l).Nodup := (srt_perm l).nodup_iff.mpr h
end Q
namespace Q
open PySem PySem.Spec PyProof.Rows L2 Gd
variable [Tbl]
section
variable {X : Cx} {n : Nat} {W : XW}
/-! ### isinstance(x, T) -/
def isiB (T k : String) : Bool := if T = "int" then k == "int" || k == "bool" else k == T
def isiD (T : String) (d : D) : Option D := some (.bool (isiB T (kind d)))
def kits : List String := ["bool", "int", "str", "tuple", "list", "dict"]
theorem kit_all (T : String) (h : T ∈ kits) (d : D) : kitB (kind d) T = some (isiB T (kind d)) := by
  have go : ∀ T ∈ kits, ∀ k ∈ ["NoneType", "bool", "int", "str", "list", "tuple", "dict"], kitB k T = some (isiB T k) := by decide +kernel
  refine go T h (kind d) ?_
  unfold kind
  split <;> simp
theorem xd_isi {T : String} {e : Expr} {p pos q : Pos} {f : Mo R} (hT : T ∈ kits) (hg : Gl X "isinstance") (hm : X.mg "isinstance" = none) (ht : PE X (.Name (Str.ofString T) q) (tC (.ty T))) (he : XD X n W e f)
    (h1 : starEach [e, .Name (Str.ofString T) q] X.env = (false, eval e X.env) :: starEach [.Name (Str.ofString T) q] X.env := by rfl) (h2 : (backTo pos (starEach [.Name (Str.ofString T) q] X.env)).any (·.1) = false := by rfl) (h3 : starEach [.Name (Str.ofString T) q] X.env = (false, eval (.Name (Str.ofString T) q) X.env) :: starEach [] X.env := by rfl) :
    XD X n W (.Call (.Name "isinstance" p) [e, .Name (Str.ofString T) q] [] pos) (e1 (isiD T) f) :=
  weakE (pe_callB call_isi hg hm (by decide +kernel) (pa_cons he (pa_cons ht pa_nil h3) h1) (by decide) (by decide) h1 h2) fun σ H Q h => op1_run (r := fun x H1 Q => rIsi X.K [x, .ty T] H1 Q) (fun x a d H Q hv hf q => by
    cases hf
    exact ⟨x, _, _, _, _, rfl, .ty T, vw_ty hv, kit_ty (kit_all T hT a), q _ H (Same.refl H) (.bl _)⟩) σ H Q h
/-! ### slices -/
def tP (K : PySem.W.Frag) (n : Nat) (W : XW) (m : Mo (Option Int)) : TO := fun σ H Q => ∃ ρ, Good K H σ ρ ∧ Aft K n W H σ ρ (m ρ) fun o _ H' => Q o H'
abbrev XP (X : Cx) (n : Nat) (W : XW) (e : Option Expr) (m : Mo (Option Int)) : Prop := PO X e (tP X.K n W m)
@[simp] def pNo : Mo (Option Int) := fun ρ => .ok none ρ
@[simp] def pSo (f : Mo R) : Mo (Option Int) := fun ρ => (f ρ).bind fun r ρ1 => match look ρ1 r with
  | some (.int i) => .ok (some i) ρ1
  | _ => .no
theorem weakO {e : Option Expr} {t t' : TO} (h : PO X e t) (q : ∀ σ H Q, t' σ H Q → t σ H Q) : PO X e t' := ⟨fun pins s σ H Q I z => h.run pins s σ H Q I (q σ H Q z)⟩
theorem xp_no : XP X n W none pNo := weakO po_none fun σ H Q ⟨ρ, G, h⟩ => Aft.ok G h
theorem xp_so {e : Expr} {f : Mo R} (he : XD X n W e f) : XP X n W (some e) (pSo f) := weakO (po_some he) fun σ H Q ⟨ρ, G, h⟩ => by
  refine ⟨ρ, G, (Aft.bind h).mono fun r ρ1 H1 s1 h1 v rv => ?_⟩
  split at h1
  · next i e => exact ⟨i, (rv.see s1.good e).int, Aft.ok s1.good h1⟩
  · exact h1.elim
def cutL {α : Type} (xs : List α) (lo hi : Option Int) : List α := (xs.drop (HT.sIx xs.length 0 lo)).take (HT.sIx xs.length xs.length hi - HT.sIx xs.length 0 lo)
theorem ImL.cut {K : PySem.W.Frag} {H : Hp} {xs : List V} {ds : List D} (r : ImL K H xs ds) (lo hi : Option Int) : ImL K H (cutV xs lo hi) (cutL ds lo hi) := by
  unfold cutV cutL
  rw [r.len]
  exact (r.drop _).take _
theorem cutL_all {α : Type} (xs : List α) (lo hi : Option Int) (h : HT.sIx xs.length 0 lo = 0 ∧ HT.sIx xs.length xs.length hi = xs.length) : cutL xs lo hi = xs := by
  unfold cutL
  rw [h.1, h.2, List.drop_zero, Nat.sub_zero, List.take_length]
@[simp] def cutD (d : D) (lo hi : Option Int) : Option D := match d with
  | .tuple ds => some (.tuple (cutL ds lo hi))
  | .str z => if z.length ≤ sizeLine then some (.str (cutS z lo hi)) else none
  | _ => none
theorem s_cut : SlR X fun x lo hi H Q => ∃ a d, Vw X.K H x a ∧ cutD a lo hi = some d ∧ ∀ v H', Same H H' → Im X.K H' v d → Q v H' := by
  rintro pins s σ H x v vl vu lo hi sl Q I rx hs pl pu ⟨a, d, ha, e, q⟩
  cases a with
  | tuple ds =>
    cases e
    obtain ⟨p, xs, rfl, hp, ip⟩ := ha.tupleN
    by_cases c : HT.sIx xs.length 0 lo = 0 ∧ HT.sIx xs.length xs.length hi = xs.length
    · refine sl_tupA pins s σ H _ v vl vu lo hi sl Q I rx hs pl pu ⟨p, xs, rfl, hp.sq, fun c => ?_, fun n => absurd c n⟩
      rw [ip.len] at c
      rw [cutL_all ds lo hi c] at q
      exact q _ H (Same.refl H) (.tup hp ip)
    · cases rx
      obtain ⟨its, r, ht, hz⟩ := I.tuple hp.sq
      have hlen : its.toArray.size = xs.length := by rw [List.size_toArray]; exact r.length.symm
      refine ⟨"tuple", _, PyProof.Rows.slot_tuple_getitem.lookup, ht.typeIs, ?_⟩
      refine HT.getItem_tuple_cut ht hs pl pu (by rw [hlen]; exact c) ?_ (by rw [hlen]; exact hz)
      rw [hlen]
      exact new_tup (xs := cutV xs lo hi) I (Nat.le_trans (cutV_length xs lo hi) hz) ((r.drop (HT.sIx xs.length 0 lo)).take (HT.sIx xs.length xs.length hi - HT.sIx xs.length 0 lo)) fun t o ht ho => q _ _ (same_upd ht) (.tup ⟨o, upd_same, ho⟩ ((ip.cut lo hi).same (same_upd ht)))
  | str z =>
    have e : (if z.length ≤ sizeLine then some (PyData.str (cutS z lo hi)) else none) = some d := e
    split at e
    · next le =>
      cases e
      exact sl_str pins s σ H _ v vl vu lo hi sl Q I rx hs pl pu ⟨z, ha.str, le, q _ H (Same.refl H) (.str _)⟩
    · cases e
  | _ => cases e
@[simp] def eSl (f : Mo R) (lo hi : Mo (Option Int)) : Mo R := fun ρ => (f ρ).bind fun r ρ1 => (lo ρ1).bind fun l ρ2 => (hi ρ2).bind fun h ρ3 => lift ((look ρ3 r).bind fun d => cutD d l h) ρ3
theorem xd_sl {e : Expr} {lo hi : Option Expr} {p2 pos : Pos} {f : Mo R} {l h : Mo (Option Int)} (he : XD X n W e f) (hl : XP X n W lo l) (hh : XP X n W hi h) : XD X n W (.Subscript e (.Slice lo hi none p2) pos) (eSl f l h) := weakE (pe_slice s_cut he hl hh) fun σ H Q ⟨ρ, G, h⟩ => by
  refine ⟨ρ, G, (Aft.bind h).mono fun r ρ1 H1 s1 h1 v rv => ⟨ρ1, s1.good, (Aft.bind h1).mono fun l ρ2 H2 s2 h2 => ⟨ρ2, s2.good, (Aft.bind h2).mono fun u ρ3 H3 s3 h3 => ?_⟩⟩⟩
  obtain ⟨d, e, q⟩ := Aft.out s3.good h3
  have g := (s2.grow s1.good).trans (s3.grow s2.good)
  cases ea : look ρ3 r with
  | none =>
    rw [ea] at e
    cases e
  | some x =>
    rw [ea] at e
    exact ⟨x, d, (rv.grow g).see s3.good ea, e, q⟩
/-! ### new lists -/
@[simp] def asL : Option (List D) → Mo Ob := fun o ρ => match o with
  | some ds => .ok (.lst ds) ρ
  | none => .no
theorem new_out {K : PySem.W.Frag} {H0 H : Hp} {σ : St} {ρ : Ev} {o : Option (List D)} {Q : VK} (G : Good K H σ ρ) (h0 : ∀ p, H p = none → H0 p = none) (h : Aft K n W H σ ρ (asL o ρ) fun o _ H' => ∀ p h, H0 p = none → H' p = some h → ObR K H' h o → ¬ Own σ ρ p → Q (.ref p) H') :
    ∃ ds, o = some ds ∧ ∀ p vs, H p = none → ImL K H vs ds → Q (.ref p) (upd H p (.lst vs)) := by
  cases o with
  | none => exact h.elim
  | some ds => exact ⟨ds, rfl, fun p vs hp im => h _ (Stp.same G (same_upd hp)) p _ (h0 p hp) upd_same (.lst (im.same (same_upd hp))) (new_own G hp)⟩
@[simp] def fN (F : List D → Option (List D)) (m : Mo (List R)) : Mo Ob := fun ρ => (m ρ).bind fun rs ρ1 => asL ((looks ρ1 rs).bind F) ρ1
def rFN (K : PySem.W.Frag) (F : List D → Option (List D)) : List V → Hp → VK → Prop := fun xs H Q => ∃ as ds, VwL K H xs as ∧ F as = some ds ∧ ∀ p vs, H p = none → ImL K H vs ds → Q (.ref p) (upd H p (.lst vs))
theorem asL_ρ {o : Option (List D)} {ρ ρ' : Ev} {b : Ob} (h : asL o ρ = .ok b ρ') : ρ' = ρ := by
  cases o with
  | none => cases h
  | some ds =>
    cases h
    rfl
theorem fN_run {F : List D → Option (List D)} {m : Mo (List R)} (σ : St) (H : Hp) (Q : VK) (h : tF X.K n W (fN F m) σ H Q) : tXs X.K n W m σ H fun xs H1 => rFN X.K F xs H1 Q := by
  obtain ⟨ρ, G, h⟩ := h
  refine ⟨ρ, G, (Aft.bind h).mono fun rs ρ1 H1 s1 h1 vs rvs => ?_⟩
  have h2 : Aft X.K n W H1 σ ρ1 (asL ((looks ρ1 rs).bind F) ρ1) fun o _ H' => ∀ p h, H p = none → H' p = some h → ObR X.K H' h o → ¬ Own σ ρ1 p → Q (.ref p) H' := by
    generalize hz : (looks ρ1 rs).bind F = z at h1 ⊢
    cases z with
    | none => exact h1
    | some ds => exact h1
  obtain ⟨ds, e, q⟩ := new_out s1.good s1.live h2
  cases ea : looks ρ1 rs with
  | none =>
    rw [ea] at e
    cases e
  | some as =>
    rw [ea] at e
    exact ⟨as, ds, rvs.see s1.good ea, e, q⟩
theorem xf_callB {id : String} {F : List D → Option (List D)} {x : Str} {p pos : Pos} {e : Expr} {es : List Expr} {m : Mo (List R)} (hc : CallR X (.builtin id) (rFN X.K F)) (hg : Gl X x) (hm : X.mg x = none) (hv : bootBuiltins x = some (.builtin id)) (ha : XA X n W (e :: es) m) (hn : x ≠ "__name__" := by decide) (hdb : (x == ("__debug__" : Str)) = false := by decide)
    (he : starEach (e :: es) X.env = (false, eval e X.env) :: starEach es X.env := by rfl) (hpl : (backTo pos (starEach es X.env)).any (·.1) = false := by rfl) : XF X n W (.Call (.Name x p) (e :: es) [] pos) (fN F m) := weakE (pe_callB hc hg hm hv ha hn hdb he hpl) fN_run
theorem xf_callT {T : String} {F : List D → Option (List D)} {x : Str} {p pos : Pos} {e : Expr} {es : List Expr} {m : Mo (List R)} (hc : CallR X (.type T) (rFN X.K F)) (hg : Gl X x) (hm : X.mg x = none) (hv : bootBuiltins x = some (.type T)) (ha : XA X n W (e :: es) m) (hn : x ≠ "__name__" := by decide) (hdb : (x == ("__debug__" : Str)) = false := by decide)
    (he : starEach (e :: es) X.env = (false, eval e X.env) :: starEach es X.env := by rfl) (hpl : (backTo pos (starEach es X.env)).any (·.1) = false := by rfl) : XF X n W (.Call (.Name x p) (e :: es) [] pos) (fN F m) := weakE (pe_callTy hc hg hm hv ha hn hdb he hpl) fN_run
@[simp] def listD : List D → Option (List D)
  | [.list ds] => some ds
  | [.tuple ds] => some ds
  | _ => none
theorem c_list : CallR X (.type "list") (rFN X.K listD) := by
  rintro pins s σ H xs us Q I r ⟨as, d, hx, e, q⟩
  unfold listD at e
  split at e
  · cases e
    obtain ⟨x, rfl, h⟩ := hx.one
    obtain ⟨p, ys, rfl, hp, ip⟩ := h.list
    exact call_list_of pins s σ H _ us Q I r ⟨p, ys, rfl, .inl hp, fun l hl => q l ys hl ip⟩
  · cases e
    obtain ⟨x, rfl, h⟩ := hx.one
    obtain ⟨p, ys, rfl, hp, ip⟩ := h.tuple
    exact call_list_of pins s σ H _ us Q I r ⟨p, ys, rfl, .inr hp, fun l hl => q l ys hl ip⟩
  · cases e
def strsD : List D → Option (List Str)
  | [] => some []
  | .str x :: ds => (strsD ds).map (x :: ·)
  | _ :: _ => none
theorem strsD_eq : ∀ {ds : List D} {ns : List Str}, strsD ds = some ns → ds = ns.map PyData.str
  | [], ns, e => by
    cases e
    rfl
  | .str x :: ds, ns, e => by
    obtain ⟨cs, e2, rfl⟩ := map_some (show (strsD ds).map (x :: ·) = some ns from e)
    rw [List.map_cons, ← strsD_eq e2]
  | .none :: _, _, e => by cases e
  | .bool _ :: _, _, e => by cases e
  | .int _ :: _, _, e => by cases e
  | .list _ :: _, _, e => by cases e
  | .tuple _ :: _, _, e => by cases e
  | .dict _ :: _, _, e => by cases e
theorem strsD_of : ∀ (ns : List Str), strsD (ns.map PyData.str) = some ns
  | [] => rfl
  | x :: ns => by
    show (strsD (ns.map PyData.str)).map (x :: ·) = _
    rw [strsD_of ns]
    rfl
def sortS (ds : List D) : Option (List D) := (strsD ds).bind fun ns => if ns.length < 64 then some ((srt ns).map PyData.str) else none
theorem sortS_some {ds es : List D} (h : sortS ds = some es) : ∃ ns, ds = ns.map PyData.str ∧ ns.length < 64 ∧ es = (srt ns).map PyData.str := by
  unfold sortS at h
  cases e : strsD ds with
  | none =>
    rw [e] at h
    cases h
  | some ns =>
    rw [e] at h
    have h : (if ns.length < 64 then some ((srt ns).map PyData.str) else none) = some es := h
    split at h
    · next l =>
      cases h
      exact ⟨ns, strsD_eq e, l, rfl⟩
    · cases h
def sortedD : List D → Option (List D)
  | [.list ds] => sortS ds
  | [.tuple ds] => sortS ds
  | [.dict kvs] => sortS (kvs.map Prod.fst)
  | _ => none
theorem ImKV.strs {K : PySem.W.Frag} {H : Hp} : ∀ {kvs : List (Key × V)} {ds : List (D × D)} {ns : List Str}, ImKV K H kvs ds → ds.map Prod.fst = ns.map PyData.str → kvs.map (·.1) = ns.map Sum.inr
  | _, _, [], .nil, _ => rfl
  | _, _, _ :: _, .nil, e => by cases e
  | _, _, [], .cons _ _, e => by cases e
  | (k, _) :: _, _, m :: ns, .cons h r, e => by
    injection e with e1 e2
    cases k with
    | inl i => cases e1
    | inr x =>
      cases e1
      rw [List.map_cons, List.map_cons, ImKV.strs r e2]
theorem vw_dict {K : PySem.W.Frag} {H : Hp} {v : V} {ds : List (D × D)} (h : Vw K H v (.dict ds)) (no : ∀ d, ds ≠ [(.none, d)]) (no2 : ∀ a b, ds ≠ [(.bool true, a), (.bool false, b)]) : ∃ a kvs, v = .ref a ∧ Rd H a (.dK kvs) ∧ ImKV K H kvs ds := by
  cases h with
  | im h => cases h with
    | scr h => exact absurd rfl (no _)
    | prm _ _ _ => exact absurd rfl (no2 _ _)
    | dic h r => exact ⟨_, _, rfl, .inr ⟨_, h⟩, r⟩
  | dic h r => exact ⟨_, _, rfl, .inl h, r⟩
theorem c_sorted (hc : X.calm = true) : CallR X (.builtin "sorted") (rFN X.K sortedD) := by
  rintro pins s σ H xs us Q I r ⟨as, d, hx, e, q⟩
  unfold sortedD at e
  split at e
  · obtain ⟨ns, rfl, l, rfl⟩ := sortS_some e
    obtain ⟨x, rfl, h⟩ := hx.one
    obtain ⟨p, ys, rfl, hp, ip⟩ := h.list
    rw [ip.strs] at hp
    refine cr_sortedS pins s σ H _ us Q I r ⟨p, ns, rfl, hp, l, fun zs t pm so ht => ?_⟩
    rw [srt_one pm so]
    exact q t _ ht (ImL.of_strs _)
  · obtain ⟨ns, rfl, l, rfl⟩ := sortS_some e
    obtain ⟨x, rfl, h⟩ := hx.one
    obtain ⟨p, ys, rfl, hp, ip⟩ := h.tuple
    rw [ip.strs] at hp
    refine cr_sortT0 pins s σ H _ us Q I r ⟨p, ns, rfl, hp, l, fun zs t pm so ht => ?_⟩
    rw [srt_one pm so]
    exact q t _ ht (ImL.of_strs _)
  · next kvs =>
    obtain ⟨ns, ek, l, rfl⟩ := sortS_some e
    obtain ⟨x, rfl, h⟩ := hx.one
    obtain ⟨p, ys, rfl, hp, ip⟩ := vw_dict h (fun d z => by
      subst z
      cases ns <;> cases ek) fun a b z => by
      subst z
      cases ns <;> cases ek
    refine call_sortedD hc pins s σ H _ us Q I r ⟨p, ys, ns, rfl, hp, ip.strs ek, l, fun zs t pm so ht => ?_⟩
    rw [srt_one pm so]
    exact q t _ ht (ImL.of_strs _)
  · cases e
/-! ### list + list, list slices -/
theorem list_rd {K : PySem.W.Frag} {H : Hp} {v : V} {ds : List D} (h : Vw K H v (.list ds)) : ∃ a xs, v = .ref a ∧ Rd H a (.lst xs) ∧ ImL K H xs ds := by
  cases h with
  | im h => cases h with
    | lst h r => exact ⟨_, _, rfl, .inr h, r⟩
  | lst h r => exact ⟨_, _, rfl, .inl h, r⟩
theorem rd_obj {pins : List (Addr × Obj)} {σ : L2.St} {H : Hp} {s : Shared} (I : Inv X pins σ H s) {a : Addr} {xs : List V} (h : Rd H a (.lst xs)) : ∃ (its : List Value) (m : Nat), Vals xs its ∧ s.heap.get? a = some { cls := .type "list", data := .seq its.toArray m } := by
  obtain ⟨_, its, m, r, e⟩ := h.ok I.hok
  exact ⟨its, m, r, e⟩
def cat2 : D → D → Option (List D)
  | .list a, .list b => if a.length + b.length ≤ sizeLine then some (a ++ b) else none
  | _, _ => none
def rF2 (K : PySem.W.Frag) (F : D → D → Option (List D)) : R2 := fun x y H Q => ∃ a b ds, Vw K H x a ∧ Vw K H y b ∧ F a b = some ds ∧ ∀ p vs, H p = none → ImL K H vs ds → Q (.ref p) (upd H p (.lst vs))
theorem o_cat : OpR X (binaryOp .Add) (rF2 X.K cat2) := by
  rintro pins s σ H x y v u Q I rx ry ⟨a, b, d, ha, hb, e, q⟩
  unfold cat2 at e
  split at e
  · split at e
    · next le =>
      cases e
      obtain ⟨p, xs, rfl, hp, ip⟩ := list_rd ha
      obtain ⟨t, ys, rfl, ht, it⟩ := list_rd hb
      cases rx
      cases ry
      obtain ⟨its, m, r, e1⟩ := rd_obj I hp
      obtain ⟨its2, m2, r2, e2⟩ := rd_obj I ht
      have l1 := r.length
      have l2 := r2.length
      have l3 := ip.len
      have l4 := it.len
      refine PySem.P.add_list e1 e2 ?_ (by rw [List.size_toArray, List.size_toArray]; omega)
      have ea : its.toArray ++ its2.toArray = (its ++ its2).toArray := by simp
      rw [ea]
      exact ⟨.ref _, _, I.lnew (t' := s.toks) (r.append r2) (by rw [List.length_append]; omega), rfl, q _ _ I.fresh (ip.append it)⟩
    · cases e
  · cases e
@[simp] def f2 (F : D → D → Option (List D)) (f g : Mo R) : Mo Ob := fun ρ => (f ρ).bind fun a ρ1 => (g ρ1).bind fun b ρ2 => asL ((look ρ2 a).bind fun x => (look ρ2 b).bind fun y => F x y) ρ2
theorem f2_run {F : D → D → Option (List D)} {f g : Mo R} (σ : St) (H : Hp) (Q : VK) (h : tF X.K n W (f2 F f g) σ H Q) : tX X.K n W f σ H fun x H1 => tX X.K n W g σ H1 fun y H2 => rF2 X.K F x y H2 Q := by
  obtain ⟨ρ, G, h⟩ := h
  refine ⟨ρ, G, (Aft.bind h).mono fun a ρ1 H1 s1 h1 v rv => ⟨ρ1, s1.good, (Aft.bind h1).mono fun b ρ2 H2 s2 h2 u ru => ?_⟩⟩
  have h3 : Aft X.K n W H2 σ ρ2 (asL ((look ρ2 a).bind fun x => (look ρ2 b).bind fun y => F x y) ρ2) fun o _ H' => ∀ p h, H p = none → H' p = some h → ObR X.K H' h o → ¬ Own σ ρ2 p → Q (.ref p) H' := by
    generalize ((look ρ2 a).bind fun x => (look ρ2 b).bind fun y => F x y) = z at h2 ⊢
    cases z with
    | none => exact h2
    | some ds => exact h2
  obtain ⟨ds, e, q⟩ := new_out s2.good (fun p hp => s1.live p (s2.live p hp)) h3
  cases ea : look ρ2 a with
  | none =>
    rw [ea] at e
    cases e
  | some x =>
    rw [ea] at e
    cases eb : look ρ2 b with
    | none =>
      rw [eb] at e
      cases e
    | some y =>
      rw [eb] at e
      exact ⟨x, y, ds, (rv.grow (s2.grow s1.good)).see s2.good ea, ru.see s2.good eb, e, q⟩
theorem xf_cat {a b : Expr} {pos : Pos} {f g : Mo R} (ha : XD X n W a f) (hb : XD X n W b g) : XF X n W (.BinOp a .Add b pos) (f2 cat2 f g) := weakE (pe_op o_cat ha hb) f2_run
@[simp] def fSl (f : Mo R) (lo hi : Mo (Option Int)) : Mo Ob := fun ρ => (f ρ).bind fun r ρ1 => (lo ρ1).bind fun l ρ2 => (hi ρ2).bind fun h ρ3 => asL ((look ρ3 r).bind fun d => match d with
  | .list ds => some (cutL ds l h)
  | _ => none) ρ3
theorem xf_sl {e : Expr} {lo hi : Option Expr} {p2 pos : Pos} {f : Mo R} {l h : Mo (Option Int)} (he : XD X n W e f) (hl : XP X n W lo l) (hh : XP X n W hi h) : XF X n W (.Subscript e (.Slice lo hi none p2) pos) (fSl f l h) := weakE (pe_slice sl_list he hl hh) fun σ H Q ⟨ρ, G, h⟩ => by
  refine ⟨ρ, G, (Aft.bind h).mono fun r ρ1 H1 s1 h1 v rv => ⟨ρ1, s1.good, (Aft.bind h1).mono fun l ρ2 H2 s2 h2 => ⟨ρ2, s2.good, (Aft.bind h2).mono fun u ρ3 H3 s3 h3 => ?_⟩⟩⟩
  have h4 : Aft X.K n W H3 σ ρ3 (asL ((look ρ3 r).bind fun d => match d with
    | .list ds => some (cutL ds l u)
    | _ => none) ρ3) fun o _ H' => ∀ p h, H p = none → H' p = some h → ObR X.K H' h o → ¬ Own σ ρ3 p → Q (.ref p) H' := by
    generalize ((look ρ3 r).bind fun d => match d with
      | .list ds => some (cutL ds l u)
      | _ => none) = z at h3 ⊢
    cases z with
    | none => exact h3
    | some ds => exact h3
  obtain ⟨ds, e, q⟩ := new_out s3.good (fun p hp => s1.live p (s2.live p (s3.live p hp))) h4
  have g := (s2.grow s1.good).trans (s3.grow s2.good)
  cases ea : look ρ3 r with
  | none =>
    rw [ea] at e
    cases e
  | some x =>
    rw [ea] at e
    cases x with
    | list es =>
      cases e
      obtain ⟨p, xs, rfl, hp, ip⟩ := ((rv.grow g).see s3.good ea).list
      exact ⟨p, xs, rfl, hp, fun t ht => q t _ ht (ip.cut l u)⟩
    | _ => cases e
end
end Q
namespace Q
open PySem PySem.Spec PyProof.Rows L2 Gd
variable [Tbl]
section
variable {X : Cx} {n : Nat} {W : XW}
/-! ### methods that change a list of a slot's own -/
def rMut (K : PySem.W.Frag) (F : List D → List D → Option (D × List D)) : V → List V → Hp → VK → Prop := fun x vs H Q => ∃ l xs ds as res ds', x = .ref l ∧ H l = some (.lst xs) ∧ ImL K H xs ds ∧ ImL K H vs as ∧ F ds as = some (res, ds') ∧
  ∀ xs' v, ImL K H xs' ds' → Im K H v res → Q v (upd H l (.lst xs'))
@[simp] def outM (i : Nat) : Option (D × List D) → Mo R
  | some (res, ds'), ρ => .ok (.d res) (ρ.set i (.own (.lst ds')))
  | none, _ => .no
@[simp] def eMut (F : List D → List D → Option (D × List D)) (i : Nat) (m : Mo (List R)) : Mo R := fun ρ => match ρ[i]? with
  | some (.own (.lst _)) => (m ρ).bind fun rs ρ1 => match ρ1[i]? with
    | some (.own (.lst ds)) => outM i ((datas rs).bind (F ds)) ρ1
    | _ => .no
  | _ => .no
theorem own_lst {K : PySem.W.Frag} {H : Hp} {σ : St} {ρ : Ev} (G : Good K H σ ρ) {i : Nat} {ds : List D} (e : ρ[i]? = some (.own (.lst ds))) : ∃ p xs, σ[i]? = some (some (.ref p)) ∧ H p = some (.lst xs) ∧ ImL K H xs ds := by
  obtain ⟨p, h, e1, e2, r⟩ := G.own i _ e
  cases r with
  | lst r => exact ⟨p, _, e1, e2, r⟩
theorem mut_run {F : List D → List D → Option (D × List D)} {i : Nat} {m : Mo (List R)} (σ : St) (H : Hp) (Q : VK) (h : tX X.K n W (eMut F i m) σ H Q) :
    tVar i σ H fun x H1 => tyV X.K "list" x H1 ∧ tXs X.K n W m σ H1 fun vs H2 => rMut X.K F x vs H2 Q := by
  obtain ⟨ρ, G, h⟩ := h
  unfold eMut at h
  split at h
  · next ds0 e0 =>
    obtain ⟨p, xs, e1, e2, _⟩ := own_lst G e0
    refine ⟨_, e1, .inl ⟨rfl, _, .inl (.inl e2)⟩, ρ, G, (Aft.bind h).mono fun rs ρ1 H1 s1 h1 vs rvs => ?_⟩
    split at h1
    · next ds e3 =>
      cases e4 : (datas rs).bind (F ds) with
      | none =>
        rw [e4] at h1
        exact h1.elim
      | some pr =>
        obtain ⟨res, ds'⟩ := pr
        rw [e4] at h1
        obtain ⟨p', xs', f1, f2, im⟩ := own_lst s1.good e3
        rw [e1] at f1
        cases f1
        cases ed : datas rs with
        | none =>
          rw [ed] at e4
          cases e4
        | some as =>
          rw [ed] at e4
          refine ⟨p, xs', ds, as, res, ds', rfl, f2, im, rvs.datas ed, e4, fun ys v i1 i2 => ?_⟩
          have st := Stp.write (n := n) s1.good e3 e1 f2 (.lst im) (h' := .lst ys) (.lst i1)
          exact h1 _ st v (.d (i2.grow (grow_upd f2 trivial (noTab_code (h := .lst _) trivial))))
    · exact h1.elim
  · exact h.elim
theorem xd_mut {F : List D → List D → Option (D × List D)} {name : Str} {id : String} {i : Nat} {x : Str} {p apos cpos : Pos} {e : Expr} {es : List Expr} {m : Mo (List R)} (hm : MtR X id (rMut X.K F)) (slot : Slot "list" name id) (hty : typeOf (.builtin id) = pure (.type "method_descriptor")) (hx : PE X (.Name x p) (tVar i)) (ha : XA X n W (e :: es) m)
    (hbase : attributeBase (.Name x p) name X.env (eval (.Name x p) X.env) = eval (.Name x p) X.env := by rfl)
    (hfew : ((backTo cpos (starEach (e :: es) X.env)).all (fun x => !x.1) && (backToKw cpos (keywordEach [] X.env)).all (fun x => x.1.isSome) && decide ((e :: es).length + ([] : List Keyword).length + (if ([] : List Keyword).isEmpty then 0 else 1) < 30)) = true := by rfl)
    (hline : (apos.endLine == cpos.line) = true := by rfl) (hs : starEach (e :: es) X.env = (false, eval e X.env) :: starEach es X.env := by rfl) (hplain : (backTo cpos (starEach es X.env)).any (·.1) = false := by rfl) :
    XD X n W (.Call (.Attribute (.Name x p) name apos) (e :: es) [] cpos) (eMut F i m) := weakE (pe_bm PySem.F.plainAttrs_list slot hty hm hx ha hbase hfew hline hs hplain) mut_run
def appF (ds : List D) : List D → Option (D × List D)
  | [x] => if ds.length < sizeLine then some (.none, ds ++ [x]) else none
  | _ => none
theorem m_app : MtR X "list.append" (rMut X.K appF) := by
  rintro pins s σ H x vs v us Q I rx rv ⟨l, xs, ds, as, res, ds', rfl, e, im, ia, ef, q⟩
  unfold appF at ef
  split at ef
  · split at ef
    · next lt =>
      cases ef
      cases ia with
      | cons i1 r =>
        cases r
        exact mt_append pins s σ H _ _ v us Q I rx rv ⟨l, xs, _, rfl, rfl, e, by rw [im.len]; exact lt, q _ _ (im.append (.cons i1 .nil)) .non⟩
    · cases ef
  · cases ef
noncomputable def popF (ds : List D) : List D → Option (D × List D)
  | [.int i] => if cb (-(2 ^ 63) ≤ i ∧ i < 2 ^ 63) = true then (seqIndex? i ds.length).bind fun k => ds[k]?.map fun y => (y, ds.eraseIdx k) else none
  | _ => none
theorem ImL.erase {K : PySem.W.Frag} {H : Hp} : ∀ {xs : List V} {ds : List D} (k : Nat), ImL K H xs ds → ImL K H (xs.eraseIdx k) (ds.eraseIdx k)
  | _, _, _, .nil => .nil
  | _, _, 0, .cons _ r => r
  | _, _, k + 1, .cons h r => .cons h (ImL.erase k r)
theorem m_pop : MtR X "list.pop" (rMut X.K popF) := by
  rintro pins s σ H x vs v us Q I rx rv ⟨l, xs, ds, as, res, ds', rfl, e, im, ia, ef, q⟩
  unfold popF at ef
  split at ef
  · next i =>
    split at ef
    · next b =>
      cases ek : seqIndex? i ds.length with
      | none =>
        rw [ek] at ef
        cases ef
      | some k =>
        rw [ek] at ef
        obtain ⟨y, ey, ez⟩ := map_some (show ds[k]?.map (fun y => (y, ds.eraseIdx k)) = some (res, ds') from ef)
        cases ez
        cases ia with
        | cons i1 r =>
          cases r
          cases i1
          obtain ⟨w, ew, iw⟩ := im.at ey
          exact mt_popAt pins s σ H _ _ v us Q I rx rv ⟨l, xs, i, k, w, rfl, rfl, e, (of_cb b).1, (of_cb b).2, by rw [im.len]; exact ek, ew, q _ _ (im.erase k) iw⟩
    · cases ef
  · cases ef
noncomputable def insF (ds : List D) : List D → Option (D × List D)
  | [.int i, y] => if cb (ds.length < sizeLine ∧ 0 ≤ i ∧ i < 2 ^ 63) = true then some (.none, ds.take i.toNat ++ [y] ++ ds.drop i.toNat) else none
  | _ => none
theorem m_ins : MtR X "list.insert" (rMut X.K insF) := by
  rintro pins s σ H x vs v us Q I rx rv ⟨l, xs, ds, as, res, ds', rfl, e, im, ia, ef, q⟩
  unfold insF at ef
  split at ef
  · split at ef
    · next b =>
      cases ef
      cases ia with
      | cons i1 r => cases r with
        | cons i2 r =>
          cases r
          cases i1
          exact mt_insert pins s σ H _ _ v us Q I rx rv ⟨l, xs, _, _, rfl, rfl, e, by rw [im.len]; exact (of_cb b).1, (of_cb b).2.1, (of_cb b).2.2, q _ _ (((im.take _).append (.cons i2 .nil)).append (im.drop _)) .non⟩
    · cases ef
  · cases ef
/-! ### xs.extend(ys) -/
def rExtQ (K : PySem.W.Frag) : V → List V → Hp → VK → Prop := fun x vs H Q => ∃ l b xs zs, x = .ref l ∧ vs = [.ref b] ∧ H l = some (.lst xs) ∧ (Rd H b (.lst zs) ∨ SqT K H b zs) ∧ xs.length + zs.length ≤ sizeLine ∧ Q .non (upd H l (.lst (xs ++ zs)))
theorem mt_extQ : MtR X "list.extend" (rExtQ X.K) := by
  rintro pins s σ H x vs v us Q I rx rv ⟨l, b, xs, zs, rfl, rfl, hl, hb, hz, q⟩
  cases rx
  obtain ⟨u, rfl, ru⟩ := rv.one
  cases ru
  obtain ⟨z1, its, m, r1, len1, e1⟩ := I.lstM hl
  rcases hb with hb | hb
  · obtain ⟨its2, m2, r2, e2⟩ := rd_obj I hb
    have len2 := r2.length
    have hsz : its.toArray.size + its2.toArray.size ≤ sizeLine := by rw [List.size_toArray, List.size_toArray]; omega
    have hlong : ¬ (!its.toArray.isEmpty && Builtin.List.listTooLong (its.toArray.size + its2.toArray.size)) = true := by
      rw [notLongL hsz, Bool.and_false]
      exact Bool.false_ne_true
    refine call_meets F.slot_list_extend ⟨_, e1, rfl⟩ F.entry_list_extend (F.args_list_extend_2 _ _)
      (AutoSeq1.list_extend_list_list_0 l its.toArray m b its2.toArray m2 hlong (by rw [List.size_toArray]; omega) (by omega)) ⟨e1, e2, ?_⟩
    refine ⟨.non, _, I.lset (its' := its ++ its2) hl e1 (by simp) (r1.append r2) ?_, rfl, q⟩
    rw [List.length_append]
    exact hz
  · obtain ⟨its2, r2, ⟨o2, e2, c2, n2, d2⟩, _⟩ := I.tuple hb
    have len2 := r2.length
    refine wpAny_call_entry F.slot_list_extend ⟨_, e1, rfl⟩ F.entry_list_extend ?_ (F.args_list_extend_2 _ _)
    show wpAny _ _ (Builtin.List.listExtendWith (.ref l) (.ref b) .none) _ _ s
    unfold Builtin.List.listExtendWith
    refine wpAny_bind (wpAny_typeOf (T := "tuple") ⟨o2, e2, c2⟩ ?_)
    have tt : (Value.type "tuple" == Value.type "tuple") = true := by rfl
    rw [if_pos (by rw [tt]; simp)]
    refine wpAny_bind (listItems_at e2 d2 ?_)
    refine wpAny_bind (listItems_at e1 rfl ?_)
    have small : its.toArray.size + its2.toArray.size ≤ sizeLine := by
      rw [List.size_toArray, List.size_toArray]
      omega
    rw [if_neg (by rw [notLongL small, Bool.and_false]; exact Bool.false_ne_true)]
    refine wpAny_bind (listUpdate_at e1 rfl ?_ (by rw [List.size_toArray]; omega) (by rw [Array.size_append]; omega))
    refine wpAny_pure ⟨_, rfl, .non, _, I.lset (its' := its ++ its2) (t' := s.toks) hl e1 (by simp) (r1.append r2) ?_, rfl, q⟩
    rw [List.length_append]
    exact hz
@[simp] def eExt (i : Nat) (f : Mo R) : Mo R := fun ρ => match ρ[i]? with
  | some (.own (.lst _)) => (f ρ).bind fun r ρ1 => match ρ1[i]? with
    | some (.own (.lst ds)) => match (look ρ1 r).bind itemsD with
      | some es => if ds.length + es.length ≤ sizeLine then .ok (.d .none) (ρ1.set i (.own (.lst (ds ++ es)))) else .no
      | none => .no
    | _ => .no
  | _ => .no
theorem xd_ext {i : Nat} {x : Str} {p apos cpos : Pos} {e : Expr} {f : Mo R} (hx : PE X (.Name x p) (tVar i)) (he : XD X n W e f)
    (hbase : attributeBase (.Name x p) "extend" X.env (eval (.Name x p) X.env) = eval (.Name x p) X.env := by rfl)
    (hfew : ((backTo cpos (starEach [e] X.env)).all (fun x => !x.1) && (backToKw cpos (keywordEach [] X.env)).all (fun x => x.1.isSome) && decide ([e].length + ([] : List Keyword).length + (if ([] : List Keyword).isEmpty then 0 else 1) < 30)) = true := by rfl)
    (hline : (apos.endLine == cpos.line) = true := by rfl) (hs : starEach [e] X.env = (false, eval e X.env) :: starEach [] X.env := by rfl) (hplain : (backTo cpos (starEach [] X.env)).any (·.1) = false := by rfl) :
    XD X n W (.Call (.Attribute (.Name x p) "extend" apos) [e] [] cpos) (eExt i f) := weakE (pe_bm PySem.F.plainAttrs_list PySem.F.slot_list_extend PySem.F.type_list_extend mt_extQ hx (pa_cons he pa_nil hs) hbase hfew hline hs hplain) fun σ H Q ⟨ρ, G, h⟩ => by
  unfold eExt at h
  split at h
  · next ds0 e0 =>
    obtain ⟨p, xs, e1, e2, _⟩ := own_lst G e0
    refine ⟨_, e1, .inl ⟨rfl, _, .inl (.inl e2)⟩, ρ, G, (Aft.bind h).mono fun r ρ1 H1 s1 h1 v rv => ?_⟩
    split at h1
    · next ds e3 =>
      split at h1
      · next es e4 =>
        split at h1
        · next le =>
          obtain ⟨p', xs', f1, f2, im⟩ := own_lst s1.good e3
          rw [e1] at f1
          cases f1
          have out : ∀ {b : Addr} {zs : List V}, v = .ref b → (Rd H1 b (.lst zs) ∨ SqT X.K H1 b zs) → ImL X.K H1 zs es → rExtQ X.K (.ref p) [v] H1 Q := fun {b zs} ev hb iz => by
            subst ev
            refine ⟨p, b, xs', zs, rfl, rfl, f2, hb, by rw [im.len, iz.len]; exact le, ?_⟩
            exact h1 _ (Stp.write (n := n) s1.good e3 e1 f2 (.lst im) (h' := .lst (xs' ++ zs)) (.lst (im.append iz))) .non (.d .non)
          cases el : look ρ1 r with
          | none =>
            rw [el] at e4
            cases e4
          | some d =>
            rw [el] at e4
            have vw := rv.see s1.good el
            cases d with
            | tuple ys =>
              cases e4
              obtain ⟨b, zs, ev, hb, iz⟩ := vw.tuple
              exact out ev (.inr hb) iz
            | list ys =>
              cases e4
              obtain ⟨b, zs, ev, hb, iz⟩ := list_rd vw
              exact out ev (.inl hb) iz
            | _ => cases e4
        · exact h1.elim
      · exact h1.elim
    · exact h1.elim
  · exact h.elim
end
end Q
namespace Q
open PySem PySem.Spec PyProof.Rows L2 Gd
variable [Tbl]
/-! ### for i, x in enumerate(t), t a tuple -/
set_option maxHeartbeats 2000000 in
theorem enum_new1 {v : Value} {o : Obj} {W : Heap → Prop} (B : Begins v o W) : Meets (Builtin.«enumerate.__new__» ⟨[.type "enumerate", v], []⟩) (fun _ R s => W s.heap ∧
    R (.ok (.ret (.ref (s.heap.push o).objs.size))) { s with heap := (s.heap.push o).push { cls := .type "enumerate", data := .fields #[.none, .bool false, .ref s.heap.objs.size, rawInt 0, .none, .none] } }) :=
  .of_wp fun prog w A R s hyp => by
    obtain ⟨hp, gn, dr, tk, os⟩ := s
    obtain ⟨h1, hyp⟩ := hyp
    have hsub := sub_enumerate
    have it : ∀ {A' : Around} {E : Value → Shared → Prop} {Q : Value → Shared → Prop}, Q (.ref hp.objs.size) ⟨hp.push o, gn, dr, tk, os⟩ → wpAny (model prog w) A' (pyIter v) Q E ⟨hp, gn, dr, tk, os⟩ := fun z => B.iter prog w _ _ ⟨hp, gn, dr, tk, os⟩ _ h1 z
    wp_walk using it
    refine wpAny_stack_any fun st => wpAny_pure ?_
    split
    · rename_i cc _ _ _ _ _
      cases (cc == Value.type "enumerate") <;> (wp_walk using it; exact ⟨_, rfl, hyp⟩)
    · wp_walk using it
      exact ⟨_, rfl, hyp⟩
theorem call_enum1 {prog : Program} {w : World} {A : Around} {E : Value → Shared → Prop} {s : Shared} {v : Value} {o : Obj} {W : Heap → Prop} {Q : Value → Shared → Prop} (B : Begins v o W) (h1 : W s.heap)
    (h : ∀ h', IsEnum h' (s.heap.objs.size + 1) s.heap.objs.size 0 .none → h'.get? s.heap.objs.size = some o → (∀ b u, s.heap.get? b = some u → h'.get? b = some u) → Q (.ref (s.heap.objs.size + 1)) { s with heap := h' }) :
    wpAny (model prog w) A (call (.type "enumerate") [v]) Q E s := by
  refine callType_new F.called_enumerate (by decide) (F.typeCall_enumerate_1 _) (F.newCall_enumerate_1 _) (fun obj => F.args_object_init_2 obj _) F.entry_enumerate_new (enum_new1 B) ⟨h1, ?_⟩
  have sz : (s.heap.push o).objs.size = s.heap.objs.size + 1 := Heap.size_push ..
  show _ ∧ _
  rw [sz]
  have en : IsEnum ((s.heap.push o).push { cls := .type "enumerate", data := .fields #[.none, .bool false, .ref s.heap.objs.size, rawInt 0, .none, .none] }) (s.heap.objs.size + 1) s.heap.objs.size 0 .none := by
    have z := Heap.get?_push_size (s.heap.push o) (o := { cls := .type "enumerate", data := .fields #[.none, .bool false, .ref s.heap.objs.size, rawInt 0, .none, .none] }) rfl
    rw [sz] at z
    exact z
  exact ⟨⟨_, en, rfl⟩, h _ en (Heap.get?_push_of_some _ (Heap.get?_push_size _ B.free)) fun b u x => Heap.get?_push_of_some _ (Heap.get?_push_of_some _ x)⟩
/-- the tuple at a, each item in a new pair with its place -/
def Ent (K : PySem.W.Frag) (a : Addr) : It :=
  ⟨fun i H => ∃ (xs : List V) (x : V), SqT K H a xs ∧ xs[i]? = some x, fun i H v H' => ∃ T x, v = .ref T ∧ H T = none ∧ H' = upd H T (.tup [.int (i : Nat), x]) ∧ ∀ xs, SqT K H a xs → xs[i]? = some x, fun i H => ∃ xs : List V, SqT K H a xs ∧ xs.length ≤ i⟩
theorem turn_ent {P : Program} {w : World} {K : PySem.W.Frag} {elts : List Expr} {kk : Nat} {tpos : Pos} (a e it : Addr) :
    Turn P w K (.Tuple elts kk tpos) (Ent K a) [e, it] e (fun i h => (∃ old, IsEnum h e it ((i : Nat) : Int) old) ∧ h.IsTupleIter it a i ∧ e ≠ it) where
  mem := by simp
  obj := fun i h st b hb => by
    obtain ⟨⟨old, he⟩, ⟨o, ho, hc, hd⟩, _⟩ := st
    rcases (by simpa using hb : b = e ∨ b = it) with z | z
    · subst z
      exact ⟨_, he, fun v q => nomatch q⟩
    · subst z
      exact ⟨o, ho, fun v q => by rw [hd] at q; cases q⟩
  keep := by
    rintro i h h' ⟨⟨old, he⟩, ⟨o, ho, r⟩, ne⟩ k
    exact ⟨⟨old, k e (by simp) _ he⟩, ⟨o, k it (by simp) _ ho, r⟩, ne⟩
  item := by
    intro X hP hw hK hc i pins s σ H E I hf st hg
    subst hP hw hK
    obtain ⟨⟨old, he⟩, hit, hne⟩ := st
    obtain ⟨xs, x, hq, hx⟩ := hg
    obtain ⟨its, rv, tp, hz⟩ := I.tuple hq
    obtain ⟨u, hu, ru⟩ := rv.get hx
    have hel : e < s.heap.objs.size := Heap.lt_size he
    have hil : it < s.heap.objs.size := by
      obtain ⟨_, z, _⟩ := hit
      exact Heap.lt_size z
    have nai : a ≠ it := fun z => by
      obtain ⟨o1, e1, c1, _⟩ := tp
      obtain ⟨o2, e2, c2, _⟩ := hit
      rw [z, e2] at e1
      cases e1
      rw [c2] at c1
      exact absurd (Value.type.inj c1) (by decide)
    have nae : e ≠ a := fun z => by
      obtain ⟨o1, e1, c1, _⟩ := tp
      rw [← z] at e1
      have e2 : s.heap.get? e = _ := he
      rw [e2] at e1
      cases e1
      exact absurd (Value.type.inj c1) (by decide)
    have hil2 : i < its.toArray.size := by
      rw [List.size_toArray]
      exact (List.getElem?_eq_some_iff.mp hu).1
    refine wpAny_pyNext_enum_itemD (Draws.tuple (A := X.A.in1) (I.ok.hd hc) it a nai its.toArray) he ⟨hit, tp⟩ hil2 hne (by simp [hne, nae]) fun y h' tk py eo st' hT sz hk => ?_
    have ey : y = u := by
      have z : its[i]? = some y := by simpa using py
      rw [hu] at z
      exact (Option.some.inj z).symm
    subst ey
    refine ⟨_, rfl, wpAny_letOwnedTupleGo_enum (s := { s with heap := h', toks := tk + 1 }) eo fun h2 he2 sb => ?_⟩
    have hT2 : h2.get? s.heap.objs.size = some { cls := .type "tuple", data := .seq #[.int i tk, y] } := (sb.2 _ (Nat.ne_of_gt hel)).trans hT
    have new : ObjOk X.prog X.w (upd H s.heap.objs.size (.tup [.int (i : Nat), x])) h2 s.heap.objs.size (.tup [.int (i : Nat), x]) :=
      ⟨(by show 2 ≤ sizeLine; decide), [.int i tk, y], .cons ⟨_, rfl⟩ (.cons ru .nil), ⟨_, hT2, rfl, _, rfl⟩⟩
    have J : Inv X pins σ (upd H s.heap.objs.size (.tup [.int (i : Nat), x])) { s with heap := h2, toks := tk + 1 } := by
      refine I.turnedNew (ch := [e, it]) (fun b ob hb q => ?_) hf (Nat.le_refl _) new
      have n1 : b ≠ e := fun z => hb (by simp [z])
      have n2 : b ≠ it := fun z => hb (by simp [z])
      exact (sb.2 b n1).trans (hk b ob n1 n2 q)
    refine ⟨.ref s.heap.objs.size, _, J, rfl, ⟨_, x, rfl, I.hok.fresh (Nat.le_refl _), rfl, fun ys hy => ?_⟩, ⟨⟨y, ?_⟩, ?_, hne⟩, fun b hb => ?_⟩
    · rw [I.tuple_inj hy hq]
      exact hx
    · have e1 : ((i + 1 : Nat) : Int) = (i : Int) + 1 := by omega
      rw [e1]
      exact he2
    · obtain ⟨o, ho, r⟩ := st'.1
      exact ⟨o, (sb.2 it hne.symm).trans ho, r⟩
    · have lt : b < s.heap.objs.size := by
        rcases (by simpa using hb : b = e ∨ b = it) with z | z
        · rw [z]
          exact hel
        · rw [z]
          exact hil
      rw [upd_ne (Nat.ne_of_lt lt)]
      exact (hf b hb).1
  done := by
    intro X hP hw hK hc i pins s σ H E I hf st hg
    subst hP hw hK
    obtain ⟨⟨old, he⟩, hit, hne⟩ := st
    obtain ⟨xs, hq, hx⟩ := hg
    obtain ⟨its, rv, tp, hz⟩ := I.tuple hq
    obtain ⟨f0, f1, f2, f3, f4, f5⟩ := hf it (by simp)
    have hT : s.TypeIs (.ref e) "enumerate" := ⟨_, he, rfl⟩
    have len := rv.length
    unfold pyNext
    refine wpAny_bind (wpAny_attempt (wpAny_callSpecial?_slot (name := Str.ofString "__next__") hT F.slot_enumerate_next (wpAny_call_entry F.slot_enumerate_next hT F.entry_enumerate_next ?_ (F.args_enumerate_next_1 _))))
    show wpAny _ _ (field (.ref e) 2 >>= _) _ _ _
    refine wpAny_bind (wpAny_field he rfl (x := .ref it) rfl ?_)
    refine wpAny_bind (wpAny_nextOf_tuple_end (I.ok.hd hc) hit tp (by simp; omega) fun h' x he' hx' => ?_)
    obtain ⟨o, ho, hcl⟩ := hx'
    refine wpAny_bind (wpAny_isInstance (T := "StopIteration") (b := true) ⟨o, ho, hcl⟩ isSubtype_stop ?_)
    exact wpAny_pure ⟨rfl, I.turned (t' := s.toks) (fun b o hb q => he' b o hb q) f0 f1 f3 f4 f5⟩
  self := fun A i s Q E st h => let ⟨⟨_, he⟩, _⟩ := st; wpAny_pyIter_enum he h
def iEnt (K : PySem.W.Frag) (ta : TA) : TI := fun σ H R => ta σ H fun vs H1 => ∃ a xs, vs = [.ref a] ∧ SqT K H1 a xs ∧ R (Ent K a) H1
theorem pi_ent {X : Cx} {e : Expr} {ta : TA} {p pos tpos : Pos} {elts : List Expr} {kk : Nat} (hg : Gl X "enumerate") (hm : X.mg "enumerate" = none) (ha : PA X [e] ta) (hs : starEach [e] X.env = [(false, eval e X.env)] := by rfl) :
    PI X (.Tuple elts kk tpos) (.Call (.Name "enumerate" p) [e] [] pos) (iEnt X.K ta) := by
  refine ⟨fun pins s σ H R I h => ?_⟩
  refine Call_ (ld_blt I hg hm boot_enumerate (PyProof.Rows.callWith_type1 (thn (ha.run pos pins s σ H _ I h) ?_) hs rfl))
  rintro us s1 ⟨vs, H1, I1, r1, a, xs, rfl, hq, q⟩
  obtain ⟨u, rfl, rx⟩ := vals1 r1
  cases rx
  obtain ⟨its, rv, tp, hz⟩ := I1.tuple hq
  refine call_enum1 (begins_tuple a its.toArray) tp fun h' en it hk => wpAny_pyIter_enum en ?_
  refine ⟨s1.heap.objs.size + 1, [s1.heap.objs.size + 1, s1.heap.objs.size], _, _, H1, rfl, I1.kept (t' := s1.toks) hk, turn_ent a (s1.heap.objs.size + 1) s1.heap.objs.size, ⟨⟨.none, en⟩, ⟨_, it, rfl, rfl⟩, Nat.succ_ne_self _⟩, fun b hb => ?_, q⟩
  have le : s1.heap.objs.size ≤ b := by
    rcases (by simpa using hb : b = s1.heap.objs.size + 1 ∨ b = s1.heap.objs.size) with z | z
    · rw [z]
      exact Nat.le_add_right _ _
    · rw [z]
      exact Nat.le_refl _
  exact I1.fpOk le (I1.hok.fresh le)
/-- the loop over it -/
theorem for_ent {K : PySem.W.Frag} {a : Addr} {xs : List V} {g : TG} {tb : TS} {D : Ends} {σ : L2.St} {H : Hp} (Pv : Nat → L2.St → Hp → Prop) (h0 : Pv 0 σ H) (hl : ∀ i σ H, i ≤ xs.length → Pv i σ H → SqT K H a xs)
    (hs : ∀ i x T σ H, xs[i]? = some x → Pv i σ H → H T = none → g (.ref T) σ (upd H T (.tup [.int (i : Nat), x])) fun σ2 H2 => tb { D with nx := Pv (i + 1), ct := Pv (i + 1), bk := D.nx } σ2 H2) (hd : ∀ σ H, Pv xs.length σ H → D.nx σ H) :
    ∃ W : Nat → Nat → L2.St → Hp → Prop, (∃ m, W 0 m σ H) ∧ ∀ i m σ H, W i m σ H →
      ((Ent K a).stop i H ∧ D.nx σ H) ∨ ((Ent K a).go i H ∧ ∃ N : L2.St → Hp → Prop, (∀ σ' H', N σ' H' → ∃ m', m' < m ∧ W (i + 1) m' σ' H') ∧ ∀ x H', (Ent K a).yld i H x H' → g x σ H' fun σ2 H2 => tb { D with nx := N, ct := N, bk := D.nx } σ2 H2) := by
  refine ⟨fun i m σ H => (m + i = xs.length) ∧ Pv i σ H, ⟨xs.length, rfl, h0⟩, fun i m σ H h => ?_⟩
  obtain ⟨em, p⟩ := h
  have sq := hl i σ H (by omega) p
  rcases Nat.lt_or_ge i xs.length with lt | ge
  · refine Or.inr ⟨⟨xs, xs[i], sq, List.getElem?_eq_getElem lt⟩, Pv (i + 1), fun σ' H' p' => ⟨m - 1, by omega, by omega, p'⟩, ?_⟩
    rintro v H' ⟨T, x, rfl, nT, rfl, y⟩
    exact hs i x T σ H (y xs sq) p nT
  · have ei : i = xs.length := by omega
    rw [ei] at p
    exact Or.inl ⟨⟨xs, sq, by omega⟩, hd σ H p⟩
end Q
namespace Q
open PySem PySem.Spec PyProof.Rows L2 Gd RZ
variable [Tbl]
section
variable {X : Cx} {n : Nat} {W : XW}
/-! ### enumerate, zip -/
/-- a pair that a walk makes: it is only taken apart -/
def pairD (a b : D) : D := .dict [(.bool true, a), (.bool false, b)]
def enumD (ds : List D) : List D := ds.zipIdx.map fun p => pairD (.int (p.2 : Nat)) p.1
def zipD (ds es : List D) : List D := List.zipWith pairD ds es
theorem enumD_len (ds : List D) : (enumD ds).length = ds.length := by
  unfold enumD
  rw [List.length_map, List.length_zipIdx]
theorem enumD_at {ds : List D} {i : Nat} {d : D} (h : ds[i]? = some d) : (enumD ds)[i]? = some (pairD (.int (i : Nat)) d) := by
  unfold enumD
  rw [List.getElem?_map, List.getElem?_zipIdx, h, Nat.zero_add]
  rfl
theorem wk_pair {K : PySem.W.Frag} {H : Hp} {ds : List D} {J : It} {G : Hp → Prop} {fx fy : Nat → Option V} (w : Walk J ds.length G (YPair fx fy)) (hG : ∀ H', Grow H H' → G H')
    (hi : ∀ i x y, fx i = some x → fy i = some y → ∃ a b, ds[i]? = some (pairD a b) ∧ Im K H x a ∧ Im K H y b) : Wk K H ds J := by
  refine w.mono hG fun i H1 v H2 lt g y => ?_
  obtain ⟨T, x, z, rfl, nT, rfl, e1, e2⟩ := y
  obtain ⟨a, b, ed, ia, ib⟩ := hi i x z e1 e2
  have sm := same_upd (o := .tup [x, z]) nT
  exact ⟨sm, _, ed, .prm (.inl (.inl upd_same)) ((ia.grow g).same sm) ((ib.grow g).same sm)⟩
theorem walk_entQ {K : PySem.W.Frag} {a : Addr} {xs : List V} : Walk (Ent K a) xs.length (fun H => SqT K H a xs) (YPair (fun i => some (.int (i : Nat))) (fun i => xs[i]?)) := by
  refine ⟨fun i _ hi q => ⟨xs, xs[i], q, by simp [hi]⟩, fun _ q => ⟨xs, q, Nat.le_refl _⟩, fun i H v H' _ q y => ?_⟩
  obtain ⟨T, x, h1, h2, h3, h4⟩ := y
  exact ⟨T, .int (i : Nat), x, h1, h2, h3, rfl, h4 xs q⟩
theorem enum_hi {K : PySem.W.Frag} {H : Hp} {xs : List V} {ds : List D} (r : ImL K H xs ds) : ∀ i x y, (fun i : Nat => some (V.int (i : Nat))) i = some x → (fun i : Nat => xs[i]?) i = some y → ∃ a b, (enumD ds)[i]? = some (pairD a b) ∧ Im K H x a ∧ Im K H y b := fun i x y e1 e2 => by
  cases e1
  obtain ⟨d, ed, id⟩ := r.get e2
  exact ⟨_, d, enumD_at ed, .int _, id⟩
@[simp] def iMap (F : List D → Option (List D)) (m : Mo (List R)) : Mo (List D) := fun ρ => (m ρ).bind fun rs ρ1 => outL ((datas rs).bind F) ρ1
@[simp] def enF : List D → Option (List D)
  | [d] => (itemsD d).map enumD
  | _ => none
theorem xi_enum {e : Expr} {f : Mo (List R)} {p pos tpos : Pos} {elts : List Expr} {kk : Nat} (hg : Gl X "enumerate") (hm : X.mg "enumerate" = none) (ha : XA X n W [e] f) (hs : starEach [e] X.env = [(false, eval e X.env)] := by rfl) :
    XI X n W (.Tuple elts kk tpos) (.Call (.Name "enumerate" p) [e] [] pos) (iMap enF f) := weakI (PI.or (pi_ent hg hm ha hs) (pi_enum hg hm ha hs)) fun σ H Q ⟨ρ, G, h⟩ => by
  unfold iMap at h
  cases ef : f ρ with
  | no =>
    rw [ef] at h
    exact h.elim
  | ex c d ρ' =>
    refine .inl ⟨ρ, G, ?_⟩
    rw [ef] at h ⊢
    exact h
  | ok rs ρ1 =>
    rw [ef] at h
    have h : Aft X.K n W H σ ρ (outL ((datas rs).bind enF) ρ1) fun ds _ H' => ∀ J, Wk X.K H' ds J → Q J H' := h
    cases ed : datas rs with
    | none =>
      rw [ed] at h
      exact h.elim
    | some as =>
      rw [ed] at h
      have h : Aft X.K n W H σ ρ (outL (enF as) ρ1) fun ds _ H' => ∀ J, Wk X.K H' ds J → Q J H' := h
      cases as with
      | nil => exact h.elim
      | cons d rest => cases rest with
        | cons _ _ => exact h.elim
        | nil =>
        cases d with
        | tuple ds =>
          refine .inl ⟨ρ, G, ?_⟩
          rw [ef]
          intro H1 s1 vs rvs
          cases rvs.datas ed with
          | cons i1 r =>
            cases r
            cases i1 with
            | @tup a xs _ ht ir =>
              refine ⟨a, xs, rfl, ht.sq, h H1 s1 _ (wk_pair (G := fun H => SqT X.K H a xs) ?_ (fun H' g => g.t ht.sq) (enum_hi ir))⟩
              rw [enumD_len, ← ir.len]
              exact walk_entQ
        | list ds =>
          refine .inr ⟨ρ, G, ?_⟩
          rw [ef]
          intro H1 s1 vs rvs
          cases rvs.datas ed with
          | cons i1 r =>
            cases r
            cases i1 with
            | @lst a xs _ ht ir =>
              refine ⟨a, xs, rfl, ht.sq, h H1 s1 _ (wk_pair (G := fun H => SqL X.K H a xs) ?_ (fun H' g => (g.l ht).sq) (enum_hi ir))⟩
              rw [enumD_len, ← ir.len]
              exact walk_enum
        | _ => exact h.elim
@[simp] def zipF : List D → Option (List D)
  | [.tuple a, .tuple b] => some (zipD a b)
  | [.list a, .list b] => some (zipD a b)
  | _ => none
theorem zipD_len (a b : List D) : (zipD a b).length = min a.length b.length := List.length_zipWith
theorem zip_hi {K : PySem.W.Frag} {H : Hp} {xs ys : List V} {ds es : List D} (r : ImL K H xs ds) (r' : ImL K H ys es) : ∀ i x y, (fun i : Nat => xs[i]?) i = some x → (fun i : Nat => ys[i]?) i = some y → ∃ a b, (zipD ds es)[i]? = some (pairD a b) ∧ Im K H x a ∧ Im K H y b := fun i x y e1 e2 => by
  obtain ⟨d, ed, id⟩ := r.get e1
  obtain ⟨e, ee, ie⟩ := r'.get e2
  refine ⟨d, e, ?_, id, ie⟩
  unfold zipD
  rw [List.getElem?_zipWith, ed, ee]
theorem walk_zipTQ {K : PySem.W.Frag} {a b : Addr} {xs ys : List V} {k : Nat} (hk : k = min xs.length ys.length) : Walk (ItzT K a b) k (fun H => SqT K H a xs ∧ SqT K H b ys) (YPair (fun i => xs[i]?) (fun i => ys[i]?)) := by
  subst hk
  refine ⟨fun i _ hi q => ?_, fun _ q => ⟨xs, ys, q.1, q.2, by omega⟩, fun i H v H' _ q y => ?_⟩
  · have h1 : i < xs.length := by omega
    have h2 : i < ys.length := by omega
    exact ⟨xs, ys, xs[i], ys[i], q.1, q.2, by simp [h1], by simp [h2]⟩
  · obtain ⟨T, x, z, h1, h2, h3, h4, h5⟩ := y
    exact ⟨T, x, z, h1, h2, h3, h4 xs q.1, h5 ys q.2⟩
theorem xi_zip {e e2 : Expr} {f : Mo (List R)} {p pos tpos : Pos} {elts : List Expr} {kk : Nat} (hg : Gl X "zip") (hm : X.mg "zip" = none) (ha : XA X n W [e, e2] f)
    (hs : starEach [e, e2] X.env = (false, eval e X.env) :: starEach [e2] X.env := by rfl) (hpl : (backTo pos (starEach [e2] X.env)).any (·.1) = false := by rfl) :
    XI X n W (.Tuple elts kk tpos) (.Call (.Name "zip" p) [e, e2] [] pos) (iMap zipF f) := weakI (pi_zipA hg hm ha hs hpl) fun σ H Q ⟨ρ, G, h⟩ => by
  refine ⟨ρ, G, (Aft.bind h).mono fun rs ρ1 H1 s1 h1 vs rvs => ?_⟩
  obtain ⟨ds, e, h1⟩ := h1.outL
  · cases ed : datas rs with
    | none =>
      rw [ed] at e
      cases e
    | some as =>
      rw [ed] at e
      have e : zipF as = some ds := e
      unfold zipF at e
      split at e
      · cases e
        cases rvs.datas ed with
        | cons i1 r => cases r with
          | cons i2 r =>
            cases r
            cases i1 with
            | @tup a xs _ ha ia => cases i2 with
              | @tup b ys _ hb ib =>
                refine ⟨a, b, xs, ys, rfl, .inr ⟨ha.sq, hb.sq, Aft.ok s1.good h1 _ (wk_pair (G := fun H => SqT X.K H a xs ∧ SqT X.K H b ys) (walk_zipTQ ?_) (fun H' g => ⟨g.t ha.sq, g.t hb.sq⟩) (zip_hi ia ib))⟩⟩
                rw [zipD_len, ia.len, ib.len]
      · cases e
        cases rvs.datas ed with
        | cons i1 r => cases r with
          | cons i2 r =>
            cases r
            cases i1 with
            | @lst a xs _ ha ia => cases i2 with
              | @lst b ys _ hb ib =>
                refine ⟨a, b, xs, ys, rfl, .inl ⟨ha.sq, hb.sq, Aft.ok s1.good h1 _ (wk_pair (G := fun H => SqL X.K H a xs ∧ SqL X.K H b ys) (walk_zip ?_) (fun H' g => ⟨(g.l ha).sq, (g.l hb).sq⟩) (zip_hi ia ib))⟩⟩
                rw [zipD_len, ia.len, ib.len]
      · cases e
/-! ### dict([(k, v), ..]) -/
def keyOf : D → Option Key
  | .int i => some (.inl i)
  | .str x => some (.inr x)
  | _ => none
def putG (kvs : List (Key × D)) (k : Key) (v : D) : List (Key × D) := if (kvs.any fun kv => decide (kv.1 = k)) = true then kvs.map (fun kv => if kv.1 = k then (kv.1, v) else kv) else kvs ++ [(k, v)]
def pairsD : List D → Option (List (Key × D))
  | [] => some []
  | .tuple [k, v] :: ds => match keyOf k, pairsD ds with
    | some k, some r => some ((k, v) :: r)
    | _, _ => none
  | _ :: _ => none
def mergeG (kvs more : List (Key × D)) : List (Key × D) := more.foldl (fun acc kv => putG acc kv.1 kv.2) kvs
def toKV (kvs : List (Key × D)) : List (D × D) := kvs.map fun kv => (keyD kv.1, kv.2)
inductive ImG (K : PySem.W.Frag) (H : Hp) : List (Key × V) → List (Key × D) → Prop
  | nil : ImG K H [] []
  | cons {k : Key} {v : V} {d : D} {r : List (Key × V)} {ds : List (Key × D)} : Im K H v d → ImG K H r ds → ImG K H ((k, v) :: r) ((k, d) :: ds)
theorem ImG.kv {K : PySem.W.Frag} {H : Hp} : ∀ {kvs : List (Key × V)} {ds : List (Key × D)}, ImG K H kvs ds → ImKV K H kvs (toKV ds)
  | _, _, .nil => .nil
  | _, _, .cons h r => .cons h (ImG.kv r)
theorem ImG.any {K : PySem.W.Frag} {H : Hp} {k : Key} : ∀ {kvs : List (Key × V)} {ds : List (Key × D)}, ImG K H kvs ds → (kvs.any fun kv => decide (kv.1 = k)) = ds.any fun kv => decide (kv.1 = k)
  | _, _, .nil => rfl
  | _, _, .cons h r => by rw [List.any_cons, List.any_cons, ImG.any r]
theorem ImG.repl {K : PySem.W.Frag} {H : Hp} {k : Key} {v : V} {d : D} (hv : Im K H v d) : ∀ {kvs : List (Key × V)} {ds : List (Key × D)}, ImG K H kvs ds → ImG K H (kvs.map fun kv => if kv.1 = k then (kv.1, v) else kv) (ds.map fun kv => if kv.1 = k then (kv.1, d) else kv)
  | _, _, .nil => .nil
  | _, _, @ImG.cons _ _ k1 _ _ _ _ h r => by
    rw [List.map_cons, List.map_cons]
    by_cases e : k1 = k
    · rw [if_pos e, if_pos e]
      exact .cons hv (ImG.repl hv r)
    · rw [if_neg e, if_neg e]
      exact .cons h (ImG.repl hv r)
theorem ImG.snoc {K : PySem.W.Frag} {H : Hp} {k : Key} {v : V} {d : D} (hv : Im K H v d) : ∀ {kvs : List (Key × V)} {ds : List (Key × D)}, ImG K H kvs ds → ImG K H (kvs ++ [(k, v)]) (ds ++ [(k, d)])
  | _, _, .nil => .cons hv .nil
  | _, _, .cons h r => .cons h (ImG.snoc hv r)
theorem ImG.put {K : PySem.W.Frag} {H : Hp} {k : Key} {v : V} {d : D} (hv : Im K H v d) {kvs : List (Key × V)} {ds : List (Key × D)} (r : ImG K H kvs ds) : ImG K H (putK kvs k v) (putG ds k d) := by
  unfold putK putG
  rw [r.any]
  split
  · exact r.repl hv
  · exact r.snoc hv
theorem ImG.merge {K : PySem.W.Frag} {H : Hp} : ∀ {more : List (Key × V)} {md : List (Key × D)} {kvs : List (Key × V)} {ds : List (Key × D)}, ImG K H more md → ImG K H kvs ds → ImG K H (mergeK kvs more) (mergeG ds md)
  | _, _, _, _, .nil, r => r
  | _, _, kvs, ds, @ImG.cons _ _ k v d _ _ h m, r => by
    show ImG K H (mergeK (putK kvs k v) _) (mergeG (putG ds k d) _)
    exact ImG.merge m (r.put h)
theorem ImG.same {K : PySem.W.Frag} {H H' : Hp} (s : Same H H') : ∀ {kvs : List (Key × V)} {ds : List (Key × D)}, ImG K H kvs ds → ImG K H' kvs ds
  | _, _, .nil => .nil
  | _, _, .cons h r => .cons (h.same s) (ImG.same s r)
theorem key_vw {K : PySem.W.Frag} {H : Hp} {v : V} {d : D} {k : Key} (h : Im K H v d) (e : keyOf d = some k) : v = kV k := by
  cases h <;> cases e <;> rfl
theorem pairs_im {K : PySem.W.Frag} {H : Hp} : ∀ {xs : List V} {ds : List D} {kd : List (Key × D)}, ImL K H xs ds → pairsD ds = some kd → ∃ (ps : List Addr) (kvs : List (Key × V)), xs = ps.map V.ref ∧ Paired (fun p kv => SqT K H p [kV kv.1, kv.2]) ps kvs ∧ ImG K H kvs kd
  | _, [], kd, .nil, e => by
    cases e
    exact ⟨[], [], rfl, .nil, .nil⟩
  | _, d :: ds, kd, .cons h r, e => by
    unfold pairsD at e
    split at e
    · next hh => cases hh
    · next k v ds' eq =>
      injection eq with e1 e2
      subst e1 e2
      split at e
      · next k' rr ek er =>
        cases e
        obtain ⟨ps, kvs, rfl, pr, im⟩ := pairs_im r er
        cases h with
        | tup ht ir => cases ir with
          | cons ik ir => cases ir with
            | cons iv ir =>
              cases ir
              rw [key_vw ik ek] at ht
              exact ⟨_ :: ps, (k', _) :: kvs, rfl, .cons ht.sq pr, .cons iv im⟩
      · cases e
    · cases e
@[simp] def fDict (m : Mo (List R)) : Mo Ob := fun ρ => (m ρ).bind fun rs ρ1 => match looks ρ1 rs with
  | some [.list ds] => match pairsD ds with
    | some kd => .ok (.dk (toKV (mergeG [] kd))) ρ1
    | none => .no
  | _ => .no
theorem xf_dict {e : Expr} {p pos : Pos} {m : Mo (List R)} (hc : X.calm = true) (hg : Gl X "dict") (hm : X.mg "dict" = none) (ha : XA X n W [e] m) (he : starEach [e] X.env = (false, eval e X.env) :: starEach [] X.env := by rfl) (hpl : (backTo pos (starEach [] X.env)).any (·.1) = false := by rfl) :
    XF X n W (.Call (.Name "dict" p) [e] [] pos) (fDict m) := weakE (pe_callTy (call_dictP hc) hg hm (by decide +kernel) ha (by decide) (by decide) he hpl) fun σ H Q ⟨ρ, G, h⟩ => by
  refine ⟨ρ, G, (Aft.bind h).mono fun rs ρ1 H1 s1 h1 vs rvs => ?_⟩
  split at h1
  · next ds el =>
    split at h1
    · next kd ek =>
      obtain ⟨x, rfl, hx⟩ := (rvs.see s1.good el).one
      obtain ⟨a, xs, rfl, hs, im⟩ := hx.list
      obtain ⟨ps, kvs, rfl, pr, ig⟩ := pairs_im im ek
      refine ⟨a, ps, kvs, rfl, hs, pr, fun t ht => ?_⟩
      have sm := same_upd (o := .dK (mergeK [] kvs)) ht
      exact h1 _ (Stp.same s1.good sm) t _ (s1.live t ht) upd_same (.dk ((ImG.merge ig .nil).same sm).kv) (new_own s1.good ht)
    · exact h1.elim
  · exact h1.elim
end
end Q
namespace Q
open PySem PySem.Spec PyProof.Rows L2 Gd
variable [Tbl]
/-! ### t[::-1] -/
section
variable {prog : Program} {w : World} {A : Around} {E : Value → Shared → Prop} {s : Shared}
theorem rev_pick (xs : Array Value) : ((List.range xs.size).filterMap fun (m : Nat) => xs[(((xs.size : Int) - 1) + (m : Int) * (-1)).toNat]?).toArray = xs.toList.reverse.toArray := by
  congr 1
  apply List.ext_getElem?
  intro i
  have h : (List.range xs.size).filterMap (fun (m : Nat) => xs[(((xs.size : Int) - 1) + (m : Int) * (-1)).toNat]?) = (List.range xs.size).map fun (m : Nat) => (xs[(xs.size - 1 - m)]?).getD default := by
    have go : ∀ l : List Nat, (∀ m ∈ l, m < xs.size) → l.filterMap (fun (m : Nat) => xs[(((xs.size : Int) - 1) + (m : Int) * (-1)).toNat]?) = l.map fun (m : Nat) => (xs[(xs.size - 1 - m)]?).getD default := by
      intro l
      induction l with
      | nil => intro _; rfl
      | cons m l ih =>
        intro hl
        have hm := hl m List.mem_cons_self
        have e : (((xs.size : Int) - 1) + (m : Int) * (-1)).toNat = xs.size - 1 - m := by omega
        have e2 : xs[xs.size - 1 - m]? = some xs[xs.size - 1 - m] := Array.getElem?_eq_getElem (by omega)
        rw [List.filterMap_cons, e, e2, List.map_cons, ih fun x hx => hl x (List.mem_cons_of_mem _ hx), e2]
        rfl
    exact go _ fun m hm => List.mem_range.mp hm
  rw [h, List.getElem?_map]
  by_cases hi : i < xs.size
  · rw [List.getElem?_range hi, List.getElem?_reverse (by rw [Array.length_toList]; exact hi), Array.length_toList, Array.getElem?_toList, Array.getElem?_eq_getElem (show xs.size - 1 - i < xs.size by omega)]
    show some ((xs[xs.size - 1 - i]?).getD default) = _
    rw [Array.getElem?_eq_getElem (show xs.size - 1 - i < xs.size by omega)]
    rfl
  · rw [List.getElem?_eq_none (by rw [List.length_range]; omega), List.getElem?_eq_none (by rw [List.length_reverse, Array.length_toList]; omega)]
    rfl
theorem rev_places (n : Nat) : Builtin.Slice.slicePlaces ((n : Int) - 1) (-1) (-1) = n := by
  unfold Builtin.Slice.slicePlaces
  rw [if_neg (by decide)]
  simp only [Int.neg_neg, Int.ediv_one]
  split <;> omega
theorem getItem_tup_rev {t sl : Addr} {items : Array Value} {vl vu vs : Value} {Q : Value → Shared → Prop} (ht : IsTup s.heap t items) (hs : s.heap.IsSliceOf sl vl vu vs) (pl : IsPart vl none) (pu : IsPart vu none) (ps : IsPart vs (some (-1))) (hsz : items.size ≤ sizeLine)
    (h : Q (.ref s.heap.objs.size) { s with heap := s.heap.push { cls := .type "tuple", data := .seq items.toList.reverse.toArray } }) : wpAny (model prog w) A (getItem (.ref t) (.ref sl)) Q E s := by
  have fits : sizeOk (.seq items.toList.reverse.toArray) := by
    show items.toList.reverse.toArray.size ≤ sizeLine
    rw [List.size_toArray, List.length_reverse, Array.length_toList]
    exact hsz
  obtain ⟨os, hos, hcs, hds⟩ := id hs
  have hTs : s.TypeIs (.ref sl) "slice" := ⟨os, hos, hcs⟩
  unfold getItem
  try with_reducible refine wpAny_holding ?_
  first | refine wpAny_bind (wpAny_pure ?_) | skip
  refine wpAny_bind (wpAny_sequenceKey ht.typeIs (by decide) ?_)
  refine wpAny_bind (wpAny_callSpecial?_slot (name := Str.ofString "__getitem__") ht.typeIs slot_tuple_getitem (wpAny_call_entry slot_tuple_getitem ht.typeIs entry_tuple_getitem ?_ (args_tuple_getitem _ _)))
  show wpAny _ _ (Builtin.Tuple.tupleItemsOf (.ref t) >>= _) _ _ s
  refine wpAny_bind (tupleItemsOf_ ht ?_)
  refine wpAny_bind (wpAny_typeOf hTs ?_)
  rw [if_pos (by decide)]
  have ap : wpAny (model prog w) A.in1 (Builtin.Slice.sliceApplied (.ref sl) (pure (items.size : Int))) (fun r s' => r = ((items.size : Int) - 1, -1, items.size) ∧ s' = s) E s := by
    unfold Builtin.Slice.sliceApplied Builtin.Slice.sliceFields
    refine wpAny_bind (wpAny_bind (wpAny_field hos hds (x := vl) rfl (wpAny_bind (wpAny_field hos hds (x := vu) rfl (wpAny_bind (wpAny_field hos hds (x := vs) rfl (wpAny_pure ?_)))))))
    refine wpAny_bind (HT.slicePart_ ps ?_)
    show wpAny _ _ (if ((-1 : Int) == 0) = true then _ else _) _ _ s
    rw [if_neg (by decide)]
    refine wpAny_bind (HT.slicePart_ pl (wpAny_bind (HT.slicePart_ pu (wpAny_bind (wpAny_pure ?_)))))
    show wpAny _ _ (pure (((items.size : Int) - 1), (-1 : Int), Builtin.Slice.slicePlaces ((items.size : Int) - 1) (-1) (-1))) _ _ s
    rw [rev_places]
    exact wpAny_pure ⟨rfl, rfl⟩
  refine wpAny_bind (wpAny_mono ap ?_ fun _ _ z => z)
  rintro _ _ ⟨rfl, rfl⟩
  have no : ¬ ((((items.size : Int) - 1) == 0 && (-1 : Int) == 1 && items.size == items.size) = true) := by
    rw [show ((-1 : Int) == 1) = false from rfl, Bool.and_false, Bool.false_and]
    exact Bool.false_ne_true
  show wpAny _ _ (if (((items.size : Int) - 1) == 0 && (-1 : Int) == 1 && items.size == items.size) = true then _ else _) _ _ _
  rw [if_neg no, rev_pick]
  first
    | exact wpAny_bind (m := Builtin.Tuple.tupleExact _) (wpAny_newObj_type (wpAny_pure ⟨_, rfl, wpAny_pure h⟩) fits)
    | exact wpAny_bind (m := Builtin.Tuple.tupleExact _) (wpAny_newObj_type (wpAny_bind (wpAny_pure (wpAny_pure ⟨_, rfl, wpAny_pure h⟩))) fits)
    | exact wpAny_bind (wpAny_bind (m := Builtin.Tuple.tupleExact _) (wpAny_newObj_type (wpAny_pure (wpAny_pure ⟨_, rfl, wpAny_pure h⟩)) fits))
    | exact wpAny_bind (wpAny_bind (m := Builtin.Tuple.tupleExact _) (wpAny_newObj_type (wpAny_pure ⟨_, rfl, wpAny_pure h⟩) fits))
end
section
variable {X : Cx}
def tRevT (K : PySem.W.Frag) (te : TE) : TE := fun σ H Q => te σ H fun x H1 => ∃ a xs, x = .ref a ∧ SqT K H1 a xs ∧ ∀ p o, H1 p = none → o.dict = none → Q (.ref p) (upd H1 p (.frz o (.tup xs.reverse)))
theorem pe_revT {e : Expr} {te : TE} {k : Nat} {p1 p2 p3 pos : Pos} (he : PE X e te) : PE X (.Subscript e (.Slice none none (some (.UnaryOp .USub (.Constant (.int 1) k p1) p2)) p3) pos) (tRevT X.K te) := by
  refine ⟨fun pins s σ H Q I h => ?_⟩
  refine Subscript_ (thn (he.run pins s σ H _ I h) ?_)
  rintro v s1 ⟨x, H1, I1, r1, a, xs, rfl, hx, q⟩
  cases r1
  have step : PO X (some (.UnaryOp .USub (.Constant (.int 1) k p1) p2)) (tPart (tUn (rU fun i => .int (-i)) (tC (.int 1)))) := po_some (pe_un un_neg pe_int)
  refine wpAny_Slice (thn (po_none.run pins s1 σ H1 (fun o H2 => o = none ∧ H2 = H1) I1 ⟨rfl, rfl⟩) ?_)
  rintro vl s2 ⟨l, _, I2, pl, rfl, rfl⟩
  refine thn (po_none.run pins s2 σ _ (fun o H3 => o = none ∧ H3 = _) I2 ⟨rfl, rfl⟩) ?_
  rintro vu s3 ⟨u, _, I3, pu, rfl, rfl⟩
  refine thn (step.run pins s3 σ _ (fun o H4 => o = some (-1) ∧ H4 = _) I3 ⟨1, rfl, -1, rfl, rfl, rfl⟩) ?_
  rintro vs s4 ⟨o, H4, I4, ps, rfl, e4⟩
  subst e4
  have J : Inv X pins σ H4 { s4 with heap := s4.heap.push { cls := .type "slice", data := .fields #[vl, vu, vs] } } := I4.kept (t' := s4.toks) fun b ob q => Heap.get?_push_of_some _ q
  obtain ⟨its, r, tp, hz⟩ := J.tuple hx
  have len := r.length
  show wpAny (model X.prog X.w) X.A (subscriptTail e (.Slice none none (some (.UnaryOp .USub (.Constant (.int 1) k p1) p2)) p3) (.ref a) (.ref s4.heap.objs.size)) (EP X pins σ Q) X.xe _
  refine tail_any (ops := [.ref a, .ref s4.heap.objs.size]) tp.typeIs (slot_tuple_getitem.lookup) ?_ (by with_unfolding_all rfl)
  refine getItem_tup_rev tp (Heap.IsSliceOf.new _ vl vu vs) pl pu ps (by rw [List.size_toArray]; omega) ?_
  exact new_tup J (by rw [List.length_reverse]; exact hz) r.reverse q
end
end Q
namespace Q
open PySem PySem.Spec PyProof.Rows L2 Gd
variable [Tbl]
section
variable {X : Cx} {n : Nat} {W : XW}
/-! ### xs[i] = v -/
@[simp] def setIx (i : Nat) (x : D) (j : R) (ρ : Ev) : Rt Out := match look ρ j, ρ[i]? with
  | some (.int k), some (.own (.lst ds)) => match ixN ds.length k with
    | some m => .ok .nx (ρ.set i (.own (.lst (ds.set m x))))
    | none => .no
  | _, _ => .no
@[simp] def bSetIx (i : Nat) (f : Mo R) (g : Mo R) : Mo Out := fun ρ => (f ρ).bind fun r ρ1 => match r, ρ1[i]? with
  | .d x, some (.own (.lst _)) => (g ρ1).bind fun j ρ2 => setIx i x j ρ2
  | _, _ => .no
theorem ImL.set {K : PySem.W.Frag} {H : Hp} {x : V} {d : D} (hx : Im K H x d) : ∀ {xs : List V} {ds : List D} (i : Nat), ImL K H xs ds → ImL K H (xs.set i x) (ds.set i d)
  | _, _, _, .nil => .nil
  | _, _, 0, .cons _ r => .cons hx r
  | _, _, i + 1, .cons h r => .cons h (ImL.set hx i r)
theorem xs_setix {i : Nat} {x : Str} {e j : Expr} {p p2 pos : Pos} {f g : Mo R} (hx : PE X (.Name x p) (tVar i)) (he : XD X n W e f) (hj : XD X n W j g)
    (ha : ∀ v, assign (.Subscript (.Name x p) j p2) X.env v = (do
      let ov ← holding [v] (eval (.Name x p) X.env)
      let iv ← holding [v, ov] (eval j X.env)
      standAt p2
      holding [v, ov, iv] (setItem ov iv v)
      release [v, ov, iv] []) := by intro _; rfl)
    (hs : swapsWithSole [.Subscript (.Name x p) j p2] e pos.line X.env = pure false := by rfl) (hw : swappedStores [.Subscript (.Name x p) j p2] e X.env = pure none := by rfl)
    (h1 : (assignEach [.Subscript (.Name x p) j p2] X.env).map (·.2) = [assign (.Subscript (.Name x p) j p2) X.env] := by rfl) :
    XS X n W (.Assign [.Subscript (.Name x p) j p2] e pos) (bSetIx i f g) := weakS (ps_asg he (pg_sub hx hj set_list ha) hs hw h1) fun E σ H ⟨ρ, G, h⟩ => by
  refine ⟨ρ, G, (AftS.bind h).mono fun r ρ1 H1 s1 h1 v rv => ?_⟩
  cases rv with
  | v _ => exact h1.elim
  | @d x im =>
    split at h1
    · next x' ds0 er e0 =>
      cases er
      obtain ⟨p0, xs0, f1, f2, _⟩ := own_lst s1.good e0
      refine ⟨_, f1, ρ1, s1.good, (AftS.bind h1).mono fun jr ρ2 H2 s2 h2 w rw' => ?_⟩
      unfold setIx at h2
      split at h2
      · next k ds ek eo =>
        split at h2
        · next m em =>
          obtain ⟨q0, xs, g1, g2, il⟩ := own_lst s2.good eo
          rw [f1] at g1
          cases g1
          have ix := im.grow (s2.grow s1.good)
          refine ⟨p0, xs, k, m, rfl, (rw'.see s2.good ek).int, g2, by rw [il.len]; exact em, ?_⟩
          exact h2 σ _ (Stp.write (n := n) s2.good eo f1 g2 (.lst il) (h' := .lst (xs.set m v)) (.lst (il.set ix m)))
        · exact h2.elim
      · exact h2.elim
    · exact h1.elim
/-! ### t[::-1], z * n -/
@[simp] def revF : D → Option D
  | .tuple ds => some (.tuple ds.reverse)
  | _ => none
theorem xd_rev {e : Expr} {k : Nat} {p1 p2 p3 pos : Pos} {f : Mo R} (he : XD X n W e f) : XD X n W (.Subscript e (.Slice none none (some (.UnaryOp .USub (.Constant (.int 1) k p1) p2)) p3) pos) (e1 revF f) := weakE (pe_revT he) fun σ H Q h =>
  op1_run (r := fun x H1 Q => ∃ a xs, x = .ref a ∧ SqT X.K H1 a xs ∧ ∀ p (o : Obj), H1 p = none → o.dict = none → Q (.ref p) (upd H1 p (.frz o (.tup xs.reverse)))) (fun x a d H Q hv hf q => by
    cases a with
    | tuple ds =>
      cases hf
      obtain ⟨p, xs, rfl, hp, ip⟩ := hv.tuple
      exact ⟨p, xs, rfl, hp, fun t o ht ho => q _ _ (same_upd ht) (.tup ⟨o, upd_same, ho⟩ (ip.reverse.same (same_upd ht)))⟩
    | _ => cases hf) σ H Q h
@[simp] def fRev (f : Mo R) : Mo Ob := fun ρ => (f ρ).bind fun r ρ1 => asL ((look ρ1 r).bind fun d => match d with
  | .list ds => some ds.reverse
  | _ => none) ρ1
theorem xf_rev {e : Expr} {k : Nat} {p1 p2 p3 pos : Pos} {f : Mo R} (he : XD X n W e f) : XF X n W (.Subscript e (.Slice none none (some (.UnaryOp .USub (.Constant (.int 1) k p1) p2)) p3) pos) (fRev f) := weakE (pe_revL he) fun σ H Q ⟨ρ, G, h⟩ => by
  refine ⟨ρ, G, (Aft.bind h).mono fun r ρ1 H1 s1 h1 v rv => ?_⟩
  have h4 : Aft X.K n W H1 σ ρ1 (asL ((look ρ1 r).bind fun d => match d with
    | .list ds => some ds.reverse
    | _ => none) ρ1) fun o _ H' => ∀ p h, H p = none → H' p = some h → ObR X.K H' h o → ¬ Own σ ρ1 p → Q (.ref p) H' := by
    generalize ((look ρ1 r).bind fun d => match d with
      | .list ds => some ds.reverse
      | _ => none) = z at h1 ⊢
    cases z with
    | none => exact h1
    | some ds => exact h1
  obtain ⟨ds, e, q⟩ := new_out s1.good s1.live h4
  cases ea : look ρ1 r with
  | none =>
    rw [ea] at e
    cases e
  | some x =>
    rw [ea] at e
    cases x with
    | list es =>
      cases e
      obtain ⟨p, xs, rfl, hp, ip⟩ := (rv.see s1.good ea).list
      exact ⟨p, xs, rfl, hp, fun t ht => q t _ ht ip.reverse⟩
    | _ => cases e
end
end Q
namespace Q
open PySem PySem.Spec PyProof.Rows L2 Gd
variable [Tbl]
theorem units65 {k : Nat} {A : Around} (r : Room k A) : A.units + 65 < cLine := by
  have := r.un
  omega
section
variable {X : Cx} {n : Nat} {W : XW}
@[simp] def fNewD : Mo Ob := fun ρ => .ok (.dk []) ρ
theorem xf_newD {pos : Pos} : XF X n W (.Dict [] [] pos) fNewD := weakE pe_dnewK fun σ H Q ⟨ρ, G, h⟩ => fun p hp => h _ (Stp.same G (same_upd hp)) p _ hp upd_same (.dk .nil) (new_own G hp)
/-! ### z * k -/
theorem op_rep_str : OpR X (binaryOp .Mult) (fun x y H Q => ∃ z n, x = .str z ∧ y = .int n ∧ MulOk z n ∧ Q (.str (Txt.mul z n)) H) := by
  rintro pins s σ H x y v u Q I rx ry ⟨z, n, rfl, rfl, ok, q⟩
  obtain ⟨t, rfl⟩ := rx
  obtain ⟨t', rfl⟩ := ry
  exact SB.mul ok fun _ k => ⟨.str _, H, I.tok _, ⟨_, rfl⟩, q⟩
theorem mulOk_of {z : Str} {k : Int} (h : 0 ≤ k ∧ k ≤ 1000 ∧ z.length ≤ 1000) : MulOk z k := by
  obtain ⟨h0, h1, h2⟩ := h
  have m : (z.length : Int) * k ≤ 1000 * 1000 := Int.mul_le_mul (by omega) h1 h0 (by decide)
  refine ⟨by simp; omega, fun a b c => ?_, fun a b => ?_⟩
  · have : (z.length : Int) ≤ (2 ^ 63 - 1) / k := Int.le_ediv_of_mul_le (by omega) (by omega)
    omega
  · have e : ((z.length * k.toNat : Nat) : Int) = (z.length : Int) * k := by
      rw [Int.natCast_mul, Int.toNat_of_nonneg h0]
    have : z.length * k.toNat ≤ 1000000 := by omega
    have e2 : sizeLine = 16777216 := by decide
    show Builtin.Str.tooLong _ = false
    unfold Builtin.Str.tooLong
    simp
    omega
def abcS : Str := "abcdefghijklmnopqrstuvwxyz"
def repSD : D → D → Option D
  | .str z, .int k => if 0 ≤ k ∧ k ≤ 1000 ∧ z.length ≤ 1000 then some (.str (Txt.mul z k)) else none
  | _, _ => none
theorem o_repS : OpR X (binaryOp .Mult) (rQ2 X.K repSD) := by
  rintro pins s σ H x y v u Q I rx ry ⟨a, b, d, ha, hb, e, q⟩
  unfold repSD at e
  split at e
  · split at e
    · next c =>
      cases e
      exact op_rep_str pins s σ H x y v u Q I rx ry ⟨_, _, ha.str, hb.int, mulOk_of c, q _ H (Same.refl H) (.str _)⟩
    · cases e
  · cases e
noncomputable def mulA : D → D → Option D
  | .str z, b => repSD (.str z) b
  | a, b => mulD a b
theorem o_mulA : OpR X (binaryOp .Mult) (rQ2 X.K mulA) := by
  rintro pins s σ H x y v u Q I rx ry ⟨a, b, d, ha, hb, e, q⟩
  cases a with
  | str z => exact o_repS pins s σ H x y v u Q I rx ry ⟨_, b, d, ha, hb, e, q⟩
  | _ => exact o_mul pins s σ H x y v u Q I rx ry ⟨_, b, d, ha, hb, e, q⟩
end
end Q
namespace Q
open PySem PySem.Spec PyProof.Rows L2 Gd
variable [Tbl]
section
variable {X : Cx} {n : Nat} {W : XW}
/-! ### a statement that is not reached -/
@[simp] def bNo : Mo Out := fun _ => .no
theorem xs_no {st : Stmt} : XS X n W st bNo := weakS ps_never fun E σ H ⟨ρ, G, h⟩ => h
theorem xss_no {sts : List Stmt} : XSs X n W sts bNo := weakSs pss_never fun E σ H ⟨ρ, G, h⟩ => h
/-! ### a < b < c -/
def chainK (F : D → D → Option D) (b : R) (h : Mo R) (r1 : Option D) : Mo R := fun ρ => match r1 with
  | some (.bool k) => if k = true then (h ρ).bind fun c ρ3 => lift (F2 F ρ3 b c) ρ3 else .ok (.d (.bool false)) ρ
  | _ => .no
def eChain (F G : D → D → Option D) (f g h : Mo R) : Mo R := fun ρ => (f ρ).bind fun a ρ1 => (g ρ1).bind fun b ρ2 => chainK G b h (F2 F ρ2 a b) ρ2
theorem chain_run {r r' : R2} {F G : D → D → Option D} {f g h : Mo R} (hF : Op2 X.K r F) (hG : Op2 X.K r' G) (σ : St) (H : Hp) (Q : VK) (hh : tX X.K n W (eChain F G f g h) σ H Q) : tChain r r' (tX X.K n W f) (tX X.K n W g) (tX X.K n W h) σ H Q := by
  obtain ⟨ρ, G0, hh⟩ := hh
  refine ⟨ρ, G0, (Aft.bind hh).mono fun a ρ1 H1 s1 h1 v rv => ⟨ρ1, s1.good, (Aft.bind h1).mono fun b ρ2 H2 s2 h2 u ru => ?_⟩⟩
  have rv2 := rv.grow (s2.grow s1.good)
  cases e1 : F2 F ρ2 a b with
  | none =>
    rw [e1] at h2
    exact h2.elim
  | some d =>
    rw [e1] at h2
    have e2 := e1
    unfold F2 at e2
    split at e2
    · next x y ex ey =>
      cases d with
      | bool k =>
        refine hF v u x y (.bool k) H2 _ (rv2.see s2.good ex) (ru.see s2.good ey) e2 fun z H3 s3 iz => ?_
        cases iz
        refine ⟨k, rfl, ?_⟩
        have st := Stp.same (n := n) s2.good s3
        cases k with
        | false =>
          have h2 : Aft X.K n W H2 σ ρ2 (.ok (.d (.bool false)) ρ2) fun r _ H' => ∀ v, RR X.K H' σ v r → Q v H' := h2
          exact iteF (h2 H3 st _ (.d (.bl false)))
        | true =>
          have h2 : Aft X.K n W H2 σ ρ2 ((h ρ2).bind fun c ρ3 => lift (F2 G ρ3 b c) ρ3) fun r _ H' => ∀ v, RR X.K H' σ v r → Q v H' := h2
          refine iteT ⟨ρ2, st.good, ?_⟩
          have h3 : Aft X.K n W H3 σ ρ2 ((h ρ2).bind fun c ρ3 => lift (F2 G ρ3 b c) ρ3) fun r _ H' => ∀ v, RR X.K H' σ v r → Q v H' := by
            generalize (h ρ2).bind (fun c ρ3 => lift (F2 G ρ3 b c) ρ3) = z at h2
            cases z with
            | no => exact h2
            | ok a ρ' => exact fun H' s => h2 H' (st.trans s)
            | ex c d ρ' => exact fun H' s => h2 H' (st.trans s)
          refine (Aft.bind h3).mono fun c ρ3 H4 s4 h4 w rw' => ?_
          obtain ⟨d2, e3, q⟩ := Aft.out s4.good h4
          unfold F2 at e3
          split at e3
          · next x' y' ex' ey' => exact hG u w x' y' d2 H4 Q (((ru.grow (Grow.same s3)).grow (s4.grow st.good)).see s4.good ex') (rw'.see s4.good ey') e3 q
          · cases e3
      | _ => exact h2.elim
    · cases e2
theorem xd_chain {a b c : Expr} {op op' : CmpOp} {pos : Pos} {r r' : R2} {F G : D → D → Option D} {f g h : Mo R} (ho : OpR X (compareOp op) r) (hF : Op2 X.K r F) (ho' : OpR X (compareOp op') r') (hG : Op2 X.K r' G) (ha : XD X n W a f) (hb : XD X n W b g) (hc : XD X n W c h)
    (hm : lastMarks [op, op'] [b, c] = false := by with_unfolding_all rfl) : XD X n W (.Compare a [op, op'] [b, c] pos) (eChain F G f g h) := weakE (pe_chain ho ho' ha hb hc hm) (chain_run hF hG)
theorem xb_chain {a b c : Expr} {op op' : CmpOp} {pos : Pos} {r r' : R2} {F G : D → D → Option D} {f g h : Mo R} (ho : OpR X (compareOp op) r) (hF : Op2 X.K r F) (ho' : OpR X (compareOp op') r') (hG : Op2 X.K r' G) (ha : XD X n W a f) (hb : XD X n W b g) (hc : XD X n W c h)
    (hm : lastMarks [op, op'] [b, c] = false := by with_unfolding_all rfl) : XB X n W (.Compare a [op, op'] [b, c] pos) (asB (eChain F G f g h)) := weakT (pt_chain ho ho' ha hb hc hm) fun σ H Q hh => chain_run hF hG σ H _ (asB_run hh)
/-! ### numbers of any kind -/
def numD : D → Option Int
  | .int i => some i
  | .bool b => some (if b = true then 1 else 0)
  | _ => none
theorem numV_of {K : PySem.W.Frag} {H : Hp} {x : V} {a : D} {i : Int} (h : Vw K H x a) (e : numD a = some i) : (x = .int i ∧ a = .int i) ∨ ∃ b, x = .bl b ∧ i = if b = true then 1 else 0 := by
  cases a with
  | int j =>
    cases e
    exact .inl ⟨h.int, rfl⟩
  | bool b =>
    cases e
    exact .inr ⟨b, h.bl, rfl⟩
  | _ => cases e
def addAny (a b : D) : Option D := (addD a b).or (match numD a, b with
  | some i, .int j => some (.int (i + j))
  | _, _ => none)
theorem o_addAny : OpR X (binaryOp .Add) (rQ2 X.K addAny) := by
  rintro pins s σ H x y v u Q I rx ry ⟨a, b, d, ha, hb, e, q⟩
  rcases or_some e with e | e
  · exact o_add pins s σ H x y v u Q I rx ry ⟨a, b, d, ha, hb, e, q⟩
  · split at e
    · next i j ei _ =>
      cases e
      have ey := hb.int
      subst ey
      obtain ⟨t, rfl⟩ := ry
      rcases numV_of ha ei with ⟨rfl, _⟩ | ⟨c, rfl, rfl⟩
      · obtain ⟨t2, rfl⟩ := rx
        exact add_int ⟨.int _, H, I.tok _, ⟨_, rfl⟩, q _ H (Same.refl H) (.int _)⟩
      · cases (show v = Value.bool c from rx)
        exact PySem.IntBool.add_bool_int ⟨.int _, H, I.tok _, ⟨_, rfl⟩, q _ H (Same.refl H) (.int _)⟩
    · cases e
def subAny (a b : D) : Option D := match numD a, b with
  | some i, .int j => some (.int (i - j))
  | _, _ => none
theorem o_subAny : OpR X (binaryOp .Sub) (rQ2 X.K subAny) := by
  rintro pins s σ H x y v u Q I rx ry ⟨a, b, d, ha, hb, e, q⟩
  unfold subAny at e
  split at e
  · next i j ei =>
    cases e
    have ey := hb.int
    subst ey
    obtain ⟨t, rfl⟩ := ry
    rcases numV_of ha ei with ⟨rfl, _⟩ | ⟨c, rfl, rfl⟩
    · obtain ⟨t2, rfl⟩ := rx
      exact sub_int ⟨.int _, H, I.tok _, ⟨_, rfl⟩, q _ H (Same.refl H) (.int _)⟩
    · cases (show v = Value.bool c from rx)
      exact PySem.IntBool.sub_bool_int ⟨.int _, H, I.tok _, ⟨_, rfl⟩, q _ H (Same.refl H) (.int _)⟩
  · cases e
/-- str of a number -/
noncomputable def strNum : List D → Option D
  | [.int i] => if cb (i.natAbs.log2 < 1920) = true then some (.str (toString i : String)) else none
  | [.bool b] => some (.str (if b then "True" else "False" : String))
  | _ => none
theorem c_strNum : CallR X (.type "str") (rQN X.K strNum) := by
  rintro pins s σ H xs us Q I r ⟨as, d, ha, e, q⟩
  unfold strNum at e
  split at e
  · next i =>
    split at e
    · next hz =>
      cases e
      obtain ⟨x, rfl, hx⟩ := ha.one
      have ex := hx.int
      subst ex
      obtain ⟨u, rfl, t2, rfl⟩ := vals1 r
      exact PySem.P.str_of_int (of_cb hz) ⟨.str _, H, I.tok _, ⟨_, rfl⟩, q _ H (Same.refl H) (.str _)⟩
    · cases e
  · next b =>
    cases e
    obtain ⟨x, rfl, hx⟩ := ha.one
    have ex := hx.bl
    subst ex
    obtain ⟨u, rfl, rx⟩ := vals1 r
    cases (show u = Value.bool b from rx)
    refine PySem.P.str_of_bool ⟨.str _, H, I.tok _, ⟨_, rfl⟩, ?_⟩
    cases b <;> exact q _ H (Same.refl H) (.str _)
  · cases e
/-! ### t != () -/
def emptyD : D → Option Bool
  | .tuple ds => some ds.isEmpty
  | _ => none
def nilD : D → Bool
  | .tuple [] => true
  | _ => false
def neAny (a b : D) : Option D := if nilD b = true then (emptyD a).map fun r => .bool (!r) else neF a b
theorem o_neAny (hu : X.A.units + 64 < cLine) : OpR X (compareOp .NotEq) (rQ2 X.K neAny) := by
  rintro pins s σ H x y v u Q I rx ry ⟨a, b, d, ha, hb, e, q⟩
  unfold neAny at e
  split at e
  · next hn =>
    obtain ⟨r0, e0, rfl⟩ := map_some e
    cases a with
    | tuple ds =>
      cases e0
      cases b with
      | tuple es =>
        cases es with
        | cons _ _ => exact absurd hn Bool.false_ne_true
        | nil =>
          obtain ⟨p, xs, rfl, hp, ip⟩ := ha.tuple
          obtain ⟨p2, ys, rfl, hp2, ip2⟩ := hb.tuple
          cases ip2
          cases rx
          cases ry
          obtain ⟨its, r1, p1, _⟩ := I.tuple hp
          obtain ⟨its2, r2, p2, _⟩ := I.tuple hp2
          cases r2
          refine SeqAt.RcNeAt.tuples (e := fun _ => true) p1 p2 (by omega) (fun j h1 h2 => absurd h2 (Nat.not_lt_zero _)) _ _ _ _ ⟨.bl (!ds.isEmpty), H, I, ?_, q _ H (Same.refl H) (.bl _)⟩
          cases ip with
          | nil => cases r1; rfl
          | cons _ _ => cases r1; rfl
      | _ => exact absurd hn Bool.false_ne_true
    | _ => cases e0
  · exact o_ne hu pins s σ H x y v u Q I rx ry ⟨a, b, d, ha, hb, e, q⟩
/-! ### upper -/
def upperD : D → Option D
  | .str z => if z.length ≤ 5592405 then some (.str (Txt.upper z)) else none
  | _ => none
theorem xd_upper {o : Expr} {apos pos : Pos} {f : Mo R} (ho : XD X n W o f) (hbase : attributeBase o "upper" X.env (eval o X.env) = eval o X.env := by rfl) (hline : (apos.endLine == pos.line) = true := by rfl) : XD X n W (.Call (.Attribute o "upper" apos) [] [] pos) (e1 upperD f) :=
  weakE (pe_upper ho hbase hline) fun σ H Q h => op1_run (r := fun x H1 Q => (∃ a, x = .str a) ∧ ∃ a, x = .str a ∧ ([] : List V) = [] ∧ a.length ≤ 5592405 ∧ Q (.str (Txt.upper a)) H1) (fun x a d H Q hv hf q => by
    cases a with
    | str z =>
      have hf : (if z.length ≤ 5592405 then some (PyData.str (Txt.upper z)) else none) = some d := hf
      split at hf
      · next le =>
        cases hf
        exact ⟨⟨z, hv.str⟩, z, hv.str, rfl, le, q _ H (Same.refl H) (.str _)⟩
      · cases hf
    | _ => cases hf) σ H Q h
/-! ### a tuple of one thing, so many times -/
theorem mul_one (l : Addr) (items : Array Value) (m : Nat) (dd : Option Addr) (sl : Array (Option Value)) (u : Tok) :
    Meets (Builtin.«tuple.__mul__» ⟨[.ref l, .int 1 u], []⟩) (fun _ R s => s.heap.get? l = some { cls := .type "tuple", dict := dd, data := .seq items m, slots := sl } ∧ R (.ok (.ret (Value.ref l))) s) :=
  .of_wp fun prog w A R s h => by
    obtain ⟨hp, g, d, tk, os⟩ := s
    obtain ⟨hl, h⟩ := h
    have f1 := AutoSeq1.idx_int
    have c1 : (items.isEmpty || (1 : Int) == 1) = true := by rw [show ((1 : Int) == 1) = true from rfl, Bool.or_true]
    wp_walk using wpAny_loadPart' hl
    exact ⟨_, rfl, h⟩
theorem mul_zero (l : Addr) (items : Array Value) (m : Nat) (dd : Option Addr) (sl : Array (Option Value)) (u : Tok) (ne : items.isEmpty = false) :
    Meets (Builtin.«tuple.__mul__» ⟨[.ref l, .int 0 u], []⟩) (fun _ R s => s.heap.get? l = some { cls := .type "tuple", dict := dd, data := .seq items m, slots := sl } ∧
      R (.ok (.ret (Value.ref s.heap.objs.size))) { s with heap := s.heap.push { cls := Value.type "tuple", data := Data.seq #[] }, toks := s.toks }) :=
  .of_wp fun prog w A R s h => by
    obtain ⟨hp, g, d, tk, os⟩ := s
    obtain ⟨hl, h⟩ := h
    have f1 := AutoSeq1.idx_int
    have c1 : (items.isEmpty || (0 : Int) == 1) = false := by rw [ne]; rfl
    wp_walk using wpAny_loadPart' hl
    exact ⟨_, rfl, h⟩
def repTD : D → D → Option D
  | .tuple (d :: ds), .int k => if 0 ≤ k ∧ k ≤ 1000 ∧ ds.length < 1000 then some (.tuple (List.replicate k.toNat (d :: ds)).flatten) else none
  | _, _ => none
theorem ImL.rep {K : PySem.W.Frag} {H : Hp} {xs : List V} {ds : List D} (r : ImL K H xs ds) : ∀ k : Nat, ImL K H (List.replicate k xs).flatten (List.replicate k ds).flatten
  | 0 => .nil
  | k + 1 => by
    rw [List.replicate_succ, List.replicate_succ, List.flatten_cons, List.flatten_cons]
    exact r.append (ImL.rep r k)
theorem Vals.rep {xs : List V} {us : List Value} (r : Vals xs us) : ∀ k : Nat, Vals (List.replicate k xs).flatten (List.replicate k us).flatten
  | 0 => .nil
  | k + 1 => by
    rw [List.replicate_succ, List.replicate_succ, List.flatten_cons, List.flatten_cons]
    exact r.append (Vals.rep r k)
theorem o_repT : OpR X (binaryOp .Mult) (rQ2 X.K repTD) := by
  rintro pins s σ H x y v u Q I rx ry ⟨a, b, d, ha, hb, e, q⟩
  unfold repTD at e
  split at e
  · next d0 ds k =>
    split at e
    · next hk =>
      obtain ⟨k0, k1, l1⟩ := hk
      cases e
      have ey := hb.int
      subst ey
      obtain ⟨p, xs, rfl, hp, ip⟩ := ha.tupleN
      have lx : xs.length = ds.length + 1 := ip.len
      cases rx
      obtain ⟨t, rfl⟩ := ry
      obtain ⟨its, r, ⟨⟨cls, dd, data, sl⟩, ho, hc, m, hd⟩, hs⟩ := I.tuple hp.sq
      simp only at hc hd
      subst hc hd
      have le : its.length = xs.length := r.length.symm
      have hi : its.toArray.isEmpty = false := by
        cases its with
        | nil => rw [lx] at le; cases le
        | cons a b => rfl
      refine wpAny_binaryOp_repeat_ref (T := "tuple") (U := "int") (by decide) ⟨_, ho, rfl⟩ (fun s' => typeIs_int s' k t) noFill_tuple_mul F.fills_int_mul F.slot_int_rmul repeat_tuple F.slot_int_index.lookup
        (call_meets F.slot_int_rmul (typeIs_int s k t) F.entry_int_rmul (F.args_int_rmul_2 _ _) (int_rmul_tuple k t p its.toArray m dd sl) ⟨ho, rfl, ⟨_, ho, rfl⟩, ?_⟩)
      have fin : ∀ o l, H l = none → o.dict = none → Q (.ref l) (upd H l (.frz o (.tup (List.replicate k.toNat xs).flatten))) := fun o l hl ho => q _ _ (same_upd hl) (.tup ⟨o, upd_same, ho⟩ ((ImL.rep ip k.toNat).same (same_upd hl)))
      by_cases h2 : 2 ≤ k
      · have e2 : sizeLine = 16777216 := by decide
        have a1 : ((xs.length : Nat) : Int) * k ≤ 1000 * k := Int.mul_le_mul_of_nonneg_right (by omega) k0
        have a2 : k.toNat * xs.length ≤ 1000 * 1000 := Nat.mul_le_mul (by omega) (by omega)
        have sz : its.toArray.size = xs.length := by rw [List.size_toArray, le]
        have fl : (List.replicate k.toNat its).flatten.length ≤ sizeLine := by
          rw [PyProof.Rows.lm_len_rep_flat, le]
          omega
        have flx : (List.replicate k.toNat xs).flatten.length ≤ sizeLine := by
          rw [List.length_flatten, List.map_replicate, List.sum_replicate_nat]
          omega
        have c0 : (decide (k < -(2 ^ 63)) || decide (k ≥ 2 ^ 63)) = false := by
          rw [decide_eq_false (by omega), decide_eq_false (by omega)]
          rfl
        have c1 : (its.toArray.isEmpty || k == 1) = false := by
          rw [hi, Bool.false_or]
          exact beq_eq_false_iff_ne.mpr (by omega)
        have c2 : (decide (k ≤ 0) || its.toArray.isEmpty) = false := by
          rw [hi, Bool.or_false]
          exact decide_eq_false (by omega)
        have c4 : Builtin.Tuple.tupleTooMany (((its.toArray.size : Nat) : Int) * k) = false := by
          unfold Builtin.Tuple.tupleTooMany
          rw [sz]
          exact decide_eq_false (by omega)
        refine call_meets F.slot_tuple_mul ⟨_, ho, rfl⟩ F.entry_tuple_mul (F.args_tuple_mul_2 _ _) (tuple_mulW p its.toArray m dd sl k t c0 c1 c2 (by rw [sz]; omega) c4 (by rw [size_rep, List.size_toArray]; exact fl)) ⟨ho, ?_⟩
        rw [size_rep]
        exact new_tup I flx (Vals.rep r k.toNat) fun l o hl ho => fin o l hl ho
      · obtain rfl | rfl : k = 0 ∨ k = 1 := by omega
        · exact call_meets F.slot_tuple_mul ⟨_, ho, rfl⟩ F.entry_tuple_mul (F.args_tuple_mul_2 _ _) (mul_zero p its.toArray m dd sl t hi) ⟨ho, new_tup (its := []) I (Nat.zero_le _) .nil fun l o hl ho => fin o l hl ho⟩
        · refine call_meets F.slot_tuple_mul ⟨_, ho, rfl⟩ F.entry_tuple_mul (F.args_tuple_mul_2 _ _) (mul_one p its.toArray m dd sl t) ⟨ho, ⟨.ref p, H, I, rfl, q _ _ (Same.refl H) ?_⟩⟩
          have er : (List.replicate (1 : Int).toNat (d0 :: ds)).flatten = d0 :: ds := List.append_nil _
          rw [er]
          exact .tup hp ip
    · cases e
  · cases e
/-! ### t.index(x), texts -/
def indexD : D → D → Option D
  | .tuple ds, .str z => (strsD ds).bind fun ns => if z ∈ ns then some (.int (ns.idxOf z : Nat)) else none
  | _, _ => none
def isTup : D → Bool
  | .tuple _ => true
  | _ => false
@[simp] def eIndex (f g : Mo R) : Mo R := fun ρ => (f ρ).bind fun a ρ1 => match a with
  | .d x => if isTup x = true then (g ρ1).bind fun b ρ2 => lift ((look ρ2 b).bind (indexD x)) ρ2 else .no
  | .v _ => .no
theorem idx_first {ns : List Str} {z : Str} (h : z ∈ ns) : ns[ns.idxOf z]? = some z ∧ ∀ m, m < ns.idxOf z → ns[m]? ≠ some z := by
  induction ns with
  | nil => cases h
  | cons y ns ih =>
    rw [List.idxOf_cons]
    by_cases e : y = z
    · subst e
      rw [beq_self_eq_true]
      exact ⟨rfl, fun m hm => absurd hm (Nat.not_lt_zero m)⟩
    · have eb : (y == z) = false := beq_eq_false_iff_ne.mpr e
      rw [eb]
      have hz : z ∈ ns := by
        rcases List.mem_cons.mp h with q | q
        · exact absurd q.symm e
        · exact q
      obtain ⟨h1, h2⟩ := ih hz
      refine ⟨h1, fun m hm => ?_⟩
      cases m with
      | zero => exact fun q => e (Option.some.inj q)
      | succ m => exact h2 m (Nat.lt_of_succ_lt_succ hm)
theorem xd_index {o e : Expr} {apos cpos : Pos} {f g : Mo R} (ho : XD X n W o f) (he : XD X n W e g)
    (hbase : attributeBase o "index" X.env (eval o X.env) = eval o X.env := by rfl)
    (hfew : ((backTo cpos (starEach [e] X.env)).all (fun x => !x.1) && (backToKw cpos (keywordEach [] X.env)).all (fun x => x.1.isSome) && decide ([e].length + ([] : List Keyword).length + (if ([] : List Keyword).isEmpty then 0 else 1) < 30)) = true := by rfl)
    (hline : (apos.endLine == cpos.line) = true := by rfl) (hs : starEach [e] X.env = [(false, eval e X.env)] := by rfl) :
    XD X n W (.Call (.Attribute o "index" apos) [e] [] cpos) (eIndex f g) := by
  have P : PE X (.Call (.Attribute o "index" apos) [e] [] cpos) fun σ H Q => tX X.K n W f σ H fun x H1 => (∃ a xs, x = .ref a ∧ NdT H1 a xs) ∧ tCons (tX X.K n W g) tNil σ H1 fun vs H2 => ∃ (p : Addr) (ys : List Str) (z : Str) (j : Nat), x = .ref p ∧ vs = [.str z] ∧ SqT X.K H2 p (ys.map V.str) ∧ ys[j]? = some z ∧ (∀ m, m < j → ys[m]? ≠ some z) ∧ Q (.int (j : Nat)) H2 := by
    refine ⟨fun pins s σ H Q I h => ?_⟩
    refine wpAny_Call_method_late hbase hfew hline rfl (thn (ho.run pins s σ H _ I h) fun v s1 ⟨x, H1, I1, r1, ⟨a, xs, ex, o, hn, hd⟩, q1⟩ => ?_)
    subst ex
    cases r1
    obtain ⟨h1, _, its, _, h2⟩ := I1.hok a _ hn
    obtain ⟨o', ho', hc, _⟩ := h2
    rw [h1] at ho'
    cases ho'
    refine ⟨"tuple", "tuple.index", PySem.F.plainAttrs_tuple, PySem.F.slot_tuple_index, PySem.F.type_tuple_index, ⟨o, h1, hc⟩, fun b eb => ?_, ?_⟩
    · cases eb
      exact ⟨o, h1, hd⟩
    · have hA := (pa_cons he pa_nil hs).run cpos pins s1 σ H1 _ I1 q1
      rw [hs] at hA ⊢
      refine Calls.callWith_builtin rfl (Calls.evalArgs_plain ?_)
      refine thn hA fun us s2 ⟨vs, H2, I2, r2, q2⟩ => ?_
      exact mt_tup_index pins s2 σ H2 (.ref a) vs (.ref a) us Q I2 rfl r2 q2
  refine weakE P fun σ H Q ⟨ρ, G, h⟩ => ?_
  refine ⟨ρ, G, (Aft.bind h).mono fun a ρ1 H1 s1 h1 v rv => ?_⟩
  cases rv with
  | v _ => exact h1.elim
  | @d x im =>
    have h1 : Aft X.K n W H1 σ ρ1 (if isTup x = true then (g ρ1).bind fun b ρ2 => lift ((look ρ2 b).bind (indexD x)) ρ2 else .no) fun r _ H' => ∀ v, RR X.K H' σ v r → Q v H' := h1
    split at h1
    · next htp =>
      cases x with
      | tuple ds =>
        cases im with
        | @tup p xs _ hn ir =>
        refine ⟨⟨p, xs, rfl, hn⟩, ρ1, s1.good, (Aft.bind h1).mono fun b ρ2 H2 s2 h2 u ru => ?_⟩
        obtain ⟨d, e3, q⟩ := Aft.out s2.good h2
        cases eb : look ρ2 b with
        | none =>
          rw [eb] at e3
          cases e3
        | some y =>
          rw [eb] at e3
          have e3 : indexD (.tuple ds) y = some d := e3
          cases y with
          | str z =>
            have e3 : ((strsD ds).bind fun ns => if z ∈ ns then some (PyData.int (ns.idxOf z : Nat)) else none) = some d := e3
            cases es : strsD ds with
            | none =>
              rw [es] at e3
              cases e3
            | some ns =>
              rw [es] at e3
              have e3 : (if z ∈ ns then some (PyData.int (ns.idxOf z : Nat)) else none) = some d := e3
              split at e3
              · next hm =>
                cases e3
                have hds := strsD_eq es
                subst hds
                have ex := ir.strs
                subst ex
                have hu := (ru.see s2.good eb).str
                subst hu
                obtain ⟨i1, i2⟩ := idx_first hm
                exact ⟨p, ns, z, ns.idxOf z, rfl, rfl, ((s2.grow s1.good).n hn).sq, i1, i2, q _ H2 (Same.refl H2) (.int _)⟩
              · cases e3
          | _ => cases e3
      | _ => exact absurd htp Bool.false_ne_true
    · exact h1.elim
end
end Q
namespace Q
open PySem PySem.Spec PyProof.Rows L2 Gd
variable [Tbl]
/-! ### zip of a list and a tuple, in either sequence -/
/-- a tuple, or a list -/
def SqB : Bool → PySem.W.Frag → Hp → Addr → List V → Prop
  | true, K, H, a, xs => SqT K H a xs
  | false, K, H, a, xs => SqL K H a xs
def ItB : Bool → Heap → Addr → Addr → Nat → Prop
  | true, h, it, l, i => h.IsTupleIter it l i
  | false, h, it, l, i => h.IsListIter it l i
def SrcB : Bool → Heap → Addr → Array Value → Prop
  | true, h, l, items => h.IsTuple l items
  | false, h, l, items => h.IsList l items
def begB : Bool → Addr → Obj
  | true, l => { cls := .type "tuple_iterator", data := .fields #[.ref l, .int 0 0] }
  | false, l => { cls := .type "list_iterator", data := .fields #[.ref l, .int 0 0] }
theorem begins_b (b : Bool) (l : Addr) (items : Array Value) : Begins (.ref l) (begB b l) fun h => SrcB b h l items := by
  cases b
  · exact begins_list l items
  · exact begins_tuple l items
theorem itB_of {b : Bool} {h : Heap} {it l : Addr} (e : h.get? it = some (begB b l)) : ItB b h it l 0 := by
  cases b
  · exact ⟨_, e, rfl, rfl⟩
  · exact ⟨_, e, rfl, rfl⟩
theorem draws_b {prog : Program} {w : World} {A : Around} (hh : A.handled = none) (b : Bool) (it l : Addr) (hne : l ≠ it) (items : Array Value) : Draws prog w A it [it, l] items.size (fun i v => items[i]? = some v) fun i h => ItB b h it l i ∧ SrcB b h l items := by
  cases b
  · exact Draws.list hh it l hne items
  · exact Draws.tuple hh it l hne items
theorem itB_obj {b : Bool} {h : Heap} {it l : Addr} {i : Nat} (x : ItB b h it l i) : ∃ o, h.get? it = some o ∧ ∀ v, o.data ≠ .cell v := by
  cases b
  · obtain ⟨o, e, _, d⟩ := x
    exact ⟨o, e, fun v q => by rw [d] at q; cases q⟩
  · obtain ⟨o, e, _, d⟩ := x
    exact ⟨o, e, fun v q => by rw [d] at q; cases q⟩
theorem itB_at {b : Bool} {h h' : Heap} {it l : Addr} {i : Nat} (x : ItB b h it l i) (k : ∀ o, h.get? it = some o → h'.get? it = some o) : ItB b h' it l i := by
  cases b
  · obtain ⟨o, e, r⟩ := x
    exact ⟨o, k o e, r⟩
  · obtain ⟨o, e, r⟩ := x
    exact ⟨o, k o e, r⟩
section
variable {X : Cx} {pins : List (Addr × Obj)} {σ : L2.St} {H : Hp} {s : Shared}
theorem inv_b {b : Bool} {a : Addr} {xs : List V} (I : Inv X pins σ H s) (h : SqB b X.K H a xs) : ∃ its : List Value, Vals xs its ∧ SrcB b s.heap a its.toArray := by
  cases b
  · obtain ⟨its, r, p, _⟩ := I.list h
    exact ⟨its, r, p.isList⟩
  · obtain ⟨its, r, p, _⟩ := I.tuple h
    exact ⟨its, r, p⟩
theorem inj_b {b : Bool} {a : Addr} {xs ys : List V} (I : Inv X pins σ H s) (h : SqB b X.K H a xs) (h' : SqB b X.K H a ys) : xs = ys := by
  cases b
  · exact I.list_inj h h'
  · exact I.tuple_inj h h'
theorem src_lt {b : Bool} {h : Heap} {a : Addr} {its : Array Value} (x : SrcB b h a its) : a < h.objs.size := by
  cases b
  · obtain ⟨o, e, _⟩ := x
    exact Heap.lt_size e
  · obtain ⟨o, e, _⟩ := x
    exact Heap.lt_size e
end
def ItzM (b1 b2 : Bool) (K : PySem.W.Frag) (a b : Addr) : It :=
  ⟨fun i H => ∃ (xs ys : List V) (x y : V), SqB b1 K H a xs ∧ SqB b2 K H b ys ∧ xs[i]? = some x ∧ ys[i]? = some y,
    fun i H v H' => ∃ T x y, v = .ref T ∧ H T = none ∧ H' = upd H T (.tup [x, y]) ∧ (∀ xs, SqB b1 K H a xs → xs[i]? = some x) ∧ ∀ ys, SqB b2 K H b ys → ys[i]? = some y,
    fun i H => ∃ xs ys : List V, SqB b1 K H a xs ∧ SqB b2 K H b ys ∧ i = min xs.length ys.length⟩
theorem ane {x y : Nat} (h : x ≠ y) : @Ne Addr x y := h
theorem not_two {x y z : Nat} (h : x ≠ y ∧ x ≠ z) : ¬ @Membership.mem Addr (List Addr) _ [y, z] x := fun q => by
  rcases List.mem_cons.mp q with e | e
  · exact h.1 e
  · exact h.2 (List.mem_singleton.mp e)
theorem sep_of {a b n : Nat} (ha : a < n) (hb : b < n) : ZipSep2 (n + 4) (n + 2) (n + 3) n (n + 1) [n, a] [n + 1, b] :=
  ⟨ane (by omega), ane (by omega), ane (by omega), ane (by omega), List.mem_cons_self, not_two (by omega), not_two (by omega), ane (by omega), List.mem_cons_self, not_two (by omega), not_two (by omega), not_two (by omega), not_two (by omega)⟩
theorem turn_zipM {P : Program} {w : World} {K : PySem.W.Frag} {elts : List Expr} {kk : Nat} {tpos : Pos} {b1 b2 : Bool} {a b n : Nat} (ha : a < n) (hb : b < n) :
    Turn P w K (.Tuple elts kk tpos) (ItzM b1 b2 K a b) [n + 4, n + 2, n + 3, n, n + 1] (n + 4) (fun i h => IsZip h (n + 4) (n + 2) (n + 3) .none ∧ IsTupOf2 h (n + 2) (.ref n) (.ref (n + 1)) ∧ (∃ x y, IsTupOf2 h (n + 3) x y) ∧ ItB b1 h n a i ∧ ItB b2 h (n + 1) b i) where
  mem := by simp
  obj := fun i h st c hc => by
    obtain ⟨hz, hTI, ⟨x, y, hTO⟩, h1, h2⟩ := st
    have e' : c = n + 4 ∨ c = n + 2 ∨ c = n + 3 ∨ c = n ∨ c = n + 1 := by simpa using hc
    rcases e' with rfl | rfl | rfl | rfl | rfl
    · exact ⟨_, hz, fun v q => nomatch q⟩
    · exact ⟨_, hTI, fun v q => nomatch q⟩
    · exact ⟨_, hTO, fun v q => nomatch q⟩
    · exact itB_obj h1
    · exact itB_obj h2
  keep := fun i h h' st k => by
    obtain ⟨hz, hTI, ⟨x, y, hTO⟩, h1, h2⟩ := st
    exact ⟨k _ (by simp) _ hz, k _ (by simp) _ hTI, ⟨x, y, k _ (by simp) _ hTO⟩, itB_at h1 (k _ (by simp)), itB_at h2 (k _ (by simp))⟩
  item := by
    intro X hP hw hK hc i pins s σ H E I hf st hg
    subst hP hw hK
    obtain ⟨hz, hTI, ⟨x0, y0, hTO⟩, h1, h2⟩ := st
    obtain ⟨xs, ys, x, y, hqx, hqy, hx, hy⟩ := hg
    obtain ⟨its, rv, p⟩ := inv_b I hqx
    obtain ⟨its2, rv2, p2⟩ := inv_b I hqy
    obtain ⟨u, hu, ru⟩ := rv.get hx
    obtain ⟨u2, hu2, ru2⟩ := rv2.get hy
    have hzl : n + 4 < s.heap.objs.size := Heap.lt_size hz
    have S := sep_of ha hb
    have i1 : i < its.toArray.size := by
      rw [List.size_toArray]
      exact (List.getElem?_eq_some_iff.mp hu).1
    have i2 : i < its2.toArray.size := by
      rw [List.size_toArray]
      exact (List.getElem?_eq_some_iff.mp hu2).1
    refine wpAny_pyNext_zipD2_item S (draws_b (A := X.A.in1) (I.ok.hd hc) b1 n a (ane (by omega)) its.toArray) (draws_b (A := X.A.in1) (I.ok.hd hc) b2 (n + 1) b (ane (by omega)) its2.toArray) hz hTI hTO ⟨h1, p⟩ ⟨h2, p2⟩ i1 i2 fun y1 y2 h' tk e1 e2 z' TO' st1' st2' hT hsz hk => ?_
    have ey1 : y1 = u := by
      have z : its[i]? = some y1 := by simpa using e1
      rw [hu] at z
      exact (Option.some.inj z).symm
    have ey2 : y2 = u2 := by
      have z : its2[i]? = some y2 := by simpa using e2
      rw [hu2] at z
      exact (Option.some.inj z).symm
    subst ey1 ey2
    refine ⟨_, rfl, wpAny_letOwnedTupleGo_zip (s := { s with heap := h', toks := tk }) z' fun h'' z'' sb => ?_⟩
    have hT2 : h''.get? s.heap.objs.size = some { cls := .type "tuple", data := .seq #[y1, y2] } := (sb.2 _ (Nat.ne_of_gt hzl)).trans hT
    have new : ObjOk X.prog X.w (upd H s.heap.objs.size (.tup [x, y])) h'' s.heap.objs.size (.tup [x, y]) := ⟨by show 2 ≤ sizeLine; decide, [y1, y2], .cons ru (.cons ru2 .nil), ⟨_, hT2, rfl, _, rfl⟩⟩
    have J : Inv X pins σ (upd H s.heap.objs.size (.tup [x, y])) { s with heap := h'', toks := tk } := by
      refine I.turnedNew (ch := [n + 4, n + 2, n + 3, n, n + 1]) (fun c o hb q => ?_) hf (Nat.le_refl _) new
      have nc : c ≠ n + 4 ∧ c ≠ n + 2 ∧ c ≠ n + 3 ∧ c ≠ n ∧ c ≠ n + 1 := by simpa using hb
      exact (sb.2 c nc.1).trans (hk c o nc.1 nc.2.2.1 nc.2.2.2.1 nc.2.2.2.2 q)
    refine ⟨.ref s.heap.objs.size, _, J, rfl, ⟨_, x, y, rfl, I.hok.fresh (Nat.le_refl _), rfl, fun l hl => by rw [inj_b I hl hqx]; exact hx, fun l hl => by rw [inj_b I hl hqy]; exact hy⟩, ⟨z'', ?_, ⟨y1, y2, ?_⟩, ?_, ?_⟩, fun c hcm => ?_⟩
    · exact (sb.2 _ (ane (x := n + 2) (by omega))).trans (hk _ _ (ane (x := n + 2) (by omega)) (ane (x := n + 2) (by omega)) (ane (x := n + 2) (by omega)) (ane (x := n + 2) (by omega)) hTI)
    · exact (sb.2 _ (ane (x := n + 3) (by omega))).trans TO'
    · exact itB_at st1'.1 fun o q => (sb.2 _ (ane (x := n) (by omega))).trans q
    · exact itB_at st2'.1 fun o q => (sb.2 _ (ane (x := n + 1) (by omega))).trans q
    · have e' : c = n + 4 ∨ c = n + 2 ∨ c = n + 3 ∨ c = n ∨ c = n + 1 := by simpa using hcm
      have lt : c < s.heap.objs.size := by
        rcases e' with q | q | q | q | q <;> rw [q]
        · exact hzl
        · exact Nat.lt_of_le_of_lt (show (n + 2 : Nat) ≤ n + 4 by omega) hzl
        · exact Nat.lt_of_le_of_lt (show (n + 3 : Nat) ≤ n + 4 by omega) hzl
        · exact Nat.lt_of_le_of_lt (show (n : Nat) ≤ n + 4 by omega) hzl
        · exact Nat.lt_of_le_of_lt (show (n + 1 : Nat) ≤ n + 4 by omega) hzl
      rw [upd_ne (Nat.ne_of_lt lt)]
      exact (hf c hcm).1
  done := by
    intro X hP hw hK hc i pins s σ H E I hf st hg
    subst hP hw hK
    obtain ⟨hz, hTI, ⟨x0, y0, hTO⟩, h1, h2⟩ := st
    obtain ⟨xs, ys, hqx, hqy, hend⟩ := hg
    obtain ⟨its, rv, p⟩ := inv_b I hqx
    obtain ⟨its2, rv2, p2⟩ := inv_b I hqy
    have l1 := rv.length
    have l2 := rv2.length
    have S := sep_of ha hb
    have z1 : its.toArray.size = xs.length := by rw [List.size_toArray]; exact l1.symm
    have z2 : its2.toArray.size = ys.length := by rw [List.size_toArray]; exact l2.symm
    refine wpAny_pyNext_zipD2_end S (draws_b (A := X.A.in1) (I.ok.hd hc) b1 n a (ane (by omega)) its.toArray) (draws_b (A := X.A.in1) (I.ok.hd hc) b2 (n + 1) b (ane (by omega)) its2.toArray) hz hTI hTO ⟨h1, p⟩ ⟨h2, p2⟩ (by omega) (by omega) (by omega) fun h' tk hk => ?_
    refine ⟨rfl, I.turnedL (ch := [n + 4, n + 2, n + 3, n, n + 1]) (fun c o hb q => ?_) hf⟩
    have nc : c ≠ n + 4 ∧ c ≠ n + 2 ∧ c ≠ n + 3 ∧ c ≠ n ∧ c ≠ n + 1 := by simpa using hb
    exact hk c o nc.1 nc.2.2.1 nc.2.2.2.1 nc.2.2.2.2 q
  self := fun A i s Q E st h => wpAny_pyIter_zip st.1 h
def iZipM (K : PySem.W.Frag) (ta : TA) : TI := fun σ H R => ta σ H fun vs H1 => ∃ b1 b2 a b xs ys, vs = [.ref a, .ref b] ∧ SqB b1 K H1 a xs ∧ SqB b2 K H1 b ys ∧ R (ItzM b1 b2 K a b) H1
theorem pi_zipM {X : Cx} {e e2 : Expr} {ta : TA} {p pos tpos : Pos} {elts : List Expr} {kk : Nat} (hg : Gl X "zip") (hm : X.mg "zip" = none) (ha : PA X [e, e2] ta)
    (hs : starEach [e, e2] X.env = (false, eval e X.env) :: starEach [e2] X.env := by rfl) (hpl : (backTo pos (starEach [e2] X.env)).any (·.1) = false := by rfl) :
    PI X (.Tuple elts kk tpos) (.Call (.Name "zip" p) [e, e2] [] pos) (iZipM X.K ta) := by
  refine ⟨fun pins s σ H R I h => ?_⟩
  refine Call_ (ld_blt I hg hm PyProof.Rows.boot_zip (PyProof.Rows.callWith_type1 (thn (ha.run pos pins s σ H _ I h) fun us s1 ⟨vs, H1, I1, r1, q1⟩ => ?_) hs hpl))
  obtain ⟨b1, b2, a, b, xs, ys, rfl, hx, hy, q⟩ := q1
  obtain ⟨u, u2, rfl, ru, ru2⟩ := r1.two
  cases ru
  cases ru2
  obtain ⟨its, rv, p1⟩ := inv_b I1 hx
  obtain ⟨its2, rv2, p2⟩ := inv_b I1 hy
  refine zip_begins2 (begins_b b1 a its.toArray) (begins_b b2 b its2.toArray) p1 p2 fun h' hz hTI hTO g1 g2 hsz hk => wpAny_pyIter_zip hz ?_
  have I2 : Inv X pins σ H1 { s1 with heap := h' } := I1.kept (t' := s1.toks) hk
  refine ⟨s1.heap.objs.size + 4, [s1.heap.objs.size + 4, s1.heap.objs.size + 2, s1.heap.objs.size + 3, s1.heap.objs.size, s1.heap.objs.size + 1], _, _, H1, rfl, I2, turn_zipM (src_lt p1) (src_lt p2), ⟨hz, hTI, ⟨_, _, hTO⟩, itB_of g1, itB_of g2⟩, fun c hcm => ?_, q⟩
  have hle : s1.heap.objs.size ≤ c := by
    have e' : c = s1.heap.objs.size + 4 ∨ c = s1.heap.objs.size + 2 ∨ c = s1.heap.objs.size + 3 ∨ c = s1.heap.objs.size ∨ c = s1.heap.objs.size + 1 := by simpa using hcm
    rcases e' with rfl | rfl | rfl | rfl | rfl
    · exact Nat.le_add_right _ _
    · exact Nat.le_add_right _ _
    · exact Nat.le_add_right _ _
    · exact Nat.le_refl _
    · exact Nat.le_add_right _ _
  exact I1.fpOk hle (I1.hok.fresh hle)
theorem walk_zipM {b1 b2 : Bool} {K : PySem.W.Frag} {a b : Addr} {xs ys : List V} {k : Nat} (hk : k = min xs.length ys.length) :
    Walk (ItzM b1 b2 K a b) k (fun H => SqB b1 K H a xs ∧ SqB b2 K H b ys) (YPair (fun i => xs[i]?) (fun i => ys[i]?)) := by
  subst hk
  refine ⟨fun i _ hi q => ?_, fun _ q => ⟨xs, ys, q.1, q.2, rfl⟩, fun i H v H' _ q y => ?_⟩
  · have h1 : i < xs.length := by omega
    have h2 : i < ys.length := by omega
    exact ⟨xs, ys, xs[i], ys[i], q.1, q.2, by simp [h1], by simp [h2]⟩
  · obtain ⟨T, x, z, h1, h2, h3, h4, h5⟩ := y
    exact ⟨T, x, z, h1, h2, h3, h4 xs q.1, h5 ys q.2⟩
section
variable {X : Cx} {n : Nat} {W : XW}
@[simp] def zipM : List D → Option (List D)
  | [.list a, .tuple b] => some (zipD a b)
  | [.tuple a, .list b] => some (zipD a b)
  | [.tuple a, .tuple b] => some (zipD a b)
  | [.list a, .list b] => some (zipD a b)
  | _ => none
/-- a sequence of data, as it is walked -/
theorem sqB_of {K : PySem.W.Frag} {H : Hp} {v : V} {d : D} {ds : List D} (h : Im K H v d) (e : d = .tuple ds ∨ d = .list ds) : ∃ b a xs, v = .ref a ∧ SqB b K H a xs ∧ ImL K H xs ds ∧ ∀ H', Grow H H' → SqB b K H' a xs := by
  rcases e with rfl | rfl
  · cases h with
    | tup h r => exact ⟨true, _, _, rfl, h.sq, r, fun H' g => (g.n h).sq⟩
  · cases h with
    | lst h r => exact ⟨false, _, _, rfl, h.sq, r, fun H' g => (g.l h).sq⟩
theorem xi_zipM {e e2 : Expr} {f : Mo (List R)} {p pos tpos : Pos} {elts : List Expr} {kk : Nat} (hg : Gl X "zip") (hm : X.mg "zip" = none) (ha : XA X n W [e, e2] f)
    (hs : starEach [e, e2] X.env = (false, eval e X.env) :: starEach [e2] X.env := by rfl) (hpl : (backTo pos (starEach [e2] X.env)).any (·.1) = false := by rfl) :
    XI X n W (.Tuple elts kk tpos) (.Call (.Name "zip" p) [e, e2] [] pos) (iMap zipM f) := weakI (pi_zipM hg hm ha hs hpl) fun σ H Q ⟨ρ, G, h⟩ => by
  refine ⟨ρ, G, (Aft.bind h).mono fun rs ρ1 H1 s1 h1 vs rvs => ?_⟩
  obtain ⟨ds, e, h1⟩ := h1.outL
  cases ed : datas rs with
  | none =>
    rw [ed] at e
    cases e
  | some as =>
    rw [ed] at e
    have e : zipM as = some ds := e
    have im := rvs.datas ed
    obtain ⟨d1, d2, es1, es2, rfl, q1, q2, rfl⟩ : ∃ d1 d2 es1 es2, as = [d1, d2] ∧ (d1 = .tuple es1 ∨ d1 = .list es1) ∧ (d2 = .tuple es2 ∨ d2 = .list es2) ∧ ds = zipD es1 es2 := by
      unfold zipM at e
      split at e
      · cases e; exact ⟨_, _, _, _, rfl, .inr rfl, .inl rfl, rfl⟩
      · cases e; exact ⟨_, _, _, _, rfl, .inl rfl, .inr rfl, rfl⟩
      · cases e; exact ⟨_, _, _, _, rfl, .inl rfl, .inl rfl, rfl⟩
      · cases e; exact ⟨_, _, _, _, rfl, .inr rfl, .inr rfl, rfl⟩
      · cases e
    cases im with
    | cons i1 r => cases r with
      | cons i2 r =>
        cases r
        obtain ⟨b1, a, xs, rfl, h1', r1, k1⟩ := sqB_of i1 q1
        obtain ⟨b2, b, ys, rfl, h2', r2, k2⟩ := sqB_of i2 q2
        refine ⟨b1, b2, a, b, xs, ys, rfl, h1', h2', Aft.ok s1.good h1 _ (wk_pair (G := fun H => SqB b1 X.K H a xs ∧ SqB b2 X.K H b ys) (walk_zipM ?_) (fun H' g => ⟨k1 H' g, k2 H' g⟩) (zip_hi r1 r2))⟩
        rw [zipD_len, r1.len, r2.len]
end
end Q
namespace Q
open PySem PySem.Spec PyProof.Rows L2 Gd
variable [Tbl]
section
variable {X : Cx} {n : Nat} {W : XW}
/-! ### d[k], k in d -/
def lookKV (ds : List (D × D)) (k : Key) : Option D := (ds.find? fun q => decide (keyOf q.1 = some k)).map (·.2)
def keysOk (ds : List (D × D)) : Bool := ds.all fun q => (keyOf q.1).isSome
def getK : D → D → Option D
  | .dict ds, y => if keysOk ds = true then (keyOf y).bind (lookKV ds) else none
  | _, _ => none
def inK : D → D → Option D
  | y, .dict ds => if keysOk ds = true then (keyOf y).map fun k => .bool (lookKV ds k).isSome else none
  | _, _ => none
def ninK : D → D → Option D
  | y, .dict ds => if keysOk ds = true then (keyOf y).map fun k => .bool (!(lookKV ds k).isSome) else none
  | _, _ => none
theorem keyOf_D (k : Key) : keyOf (keyD k) = some k := by cases k <;> rfl
theorem key_of_vw {K : PySem.W.Frag} {H : Hp} {v : V} {d : D} {k : Key} (h : Vw K H v d) (e : keyOf d = some k) : v = kV k := by
  cases h with
  | im h => exact key_vw h e
  | lst _ _ => cases e
  | dic _ _ => cases e
theorem look_im {K : PySem.W.Frag} {H : Hp} {k : Key} : ∀ {kvs : List (Key × V)} {ds : List (D × D)}, ImKV K H kvs ds → (∀ d, lookKV ds k = some d → ∃ v, valV kvs k = some v ∧ Im K H v d) ∧ (lookKV ds k).isSome = (valV kvs k).isSome
  | _, _, .nil => ⟨fun d e => (by cases e), rfl⟩
  | _, _, @ImKV.cons _ _ k1 v r d ds h t => by
    have ih := look_im (k := k) t
    have e1 : lookKV ((keyD k1, d) :: ds) k = if k1 = k then some d else lookKV ds k := by
      unfold lookKV
      rw [List.find?_cons, keyOf_D]
      by_cases e : k1 = k
      · subst e
        simp
      · have e' : ¬ some k1 = some k := fun q => e (Option.some.inj q)
        simp [e]
    have e2 : valV ((k1, v) :: r) k = if k1 = k then some v else valV r k := by
      unfold valV
      rw [List.find?_cons]
      by_cases e : k1 = k
      · simp [e]
      · simp [e]
    rw [e1, e2]
    by_cases e : k1 = k
    · rw [if_pos e, if_pos e]
      exact ⟨fun d' q => by
        cases q
        exact ⟨v, rfl, h⟩, rfl⟩
    · rw [if_neg e, if_neg e]
      exact ih
theorem keys_no {ds : List (D × D)} (h : keysOk ds = true) : (∀ d, ds ≠ [(.none, d)]) ∧ ∀ a b, ds ≠ [(.bool true, a), (.bool false, b)] := by
  refine ⟨fun d e => ?_, fun a b e => ?_⟩
  · subst e
    cases h
  · subst e
    cases h
theorem xd_getK {a b : Expr} {pos : Pos} {f g : Mo R} (hu : X.A.units + 65 < cLine) (ha : XD X n W a f) (hb : XD X n W b g) (hs : NoSl b) : XD X n W (.Subscript a b pos) (e2 getK f g) :=
  weakE (pe_dget (Nat.lt_of_le_of_lt (Nat.add_le_add_left (by decide) _) hu) ha hb hs) (op2_run (r := fun x y H Q => ∃ a v, x = .ref a ∧ DGet H a y (some v) ∧ Q v H) fun x y a b d H Q hx hy e q => by
    unfold getK at e
    split at e
    · next ds =>
      split at e
      · next hk =>
        obtain ⟨k, ek, el⟩ := Option.bind_eq_some_iff.mp e
        obtain ⟨p, kvs, rfl, hr, im⟩ := vw_dict hx (keys_no hk).1 (keys_no hk).2
        obtain ⟨v, ev, iv⟩ := (look_im im).1 d el
        exact ⟨p, v, rfl, .inl ⟨kvs, k, hr, key_of_vw hy ek, ev.symm⟩, q v H (Same.refl H) iv⟩
      · cases e
    · cases e)
theorem o_inK (hu : X.A.units + 65 < cLine) : OpR X (compareOp .In) (rQ2 X.K inK) := by
  rintro pins s σ H x y v u Q I rx ry ⟨a, b, d, ha, hb, e, q⟩
  unfold inK at e
  split at e
  · next ds =>
    split at e
    · next hk =>
      obtain ⟨k, ek, rfl⟩ := Option.map_eq_some_iff.mp e
      obtain ⟨p, kvs, rfl, hr, im⟩ := vw_dict hb (keys_no hk).1 (keys_no hk).2
      cases ry
      have el := (look_im (k := k) im).2
      refine d_in (o := valV kvs k) (Nat.lt_of_le_of_lt (Nat.add_le_add_left (by decide) _) hu) I (.inl ⟨kvs, k, hr, key_of_vw ha ek, rfl⟩) rx fun s' I' => ?_
      rw [← el]
      exact ⟨.bl _, H, I', rfl, q _ H (Same.refl H) (.bl _)⟩
    · cases e
  · cases e
theorem o_ninK (hu : X.A.units + 65 < cLine) : OpR X (compareOp .NotIn) (rQ2 X.K ninK) := by
  rintro pins s σ H x y v u Q I rx ry ⟨a, b, d, ha, hb, e, q⟩
  unfold ninK at e
  split at e
  · next ds =>
    split at e
    · next hk =>
      obtain ⟨k, ek, rfl⟩ := Option.map_eq_some_iff.mp e
      obtain ⟨p, kvs, rfl, hr, im⟩ := vw_dict hb (keys_no hk).1 (keys_no hk).2
      cases ry
      have el := (look_im (k := k) im).2
      refine d_notIn (o := valV kvs k) (Nat.lt_of_le_of_lt (Nat.add_le_add_left (by decide) _) hu) I (.inl ⟨kvs, k, hr, key_of_vw ha ek, rfl⟩) rx fun s' I' => ?_
      rw [← el]
      exact ⟨.bl _, H, I', rfl, q _ H (Same.refl H) (.bl _)⟩
    · cases e
  · cases e
end
end Q
namespace Q
open PySem PySem.Spec PyProof.Rows L2 Gd PySem.MeetsSeq PySem.SeqAt
variable [Tbl]
theorem str_eq_declines_dct (b : Str) (u : Tok) (l : Addr) (o : Obj) (hc : o.cls = .type "dict") {es : Array DictEntry} {ep : Nat} (hd : o.data = .dict es ep) :
    Meets (Builtin.«str.__eq__» ⟨[.str b u, .ref l], []⟩) (fun _ R s => s.heap.get? l = some o ∧ R (.ok (.ret .notImplemented)) s) :=
  .of_wp fun prog w A R s h => by
    obtain ⟨hp, g, d, tk, os⟩ := s; obtain ⟨hl, h⟩ := h
    obtain ⟨cls, dd, data, sl⟩ := o
    simp only at hc hd
    subst hc hd
    wp_walk using wpAny_loadPart' hl, wpAny_load hl
    exact ⟨_, rfl, h⟩
theorem dct_eq_declines_str (l : Addr) (o : Obj) (hc : o.cls = .type "dict") (b : Str) (u : Tok) :
    Meets (Builtin.«dict.__eq__» ⟨[.ref l, .str b u], []⟩) (fun _ R s => s.heap.get? l = some o ∧ R (.ok (.ret .notImplemented)) s) :=
  .of_wp fun prog w A R s h => by
    obtain ⟨hp, g, d, tk, os⟩ := s; obtain ⟨hl, h⟩ := h
    obtain ⟨cls, dd, data, sl⟩ := o
    subst hc
    have f1 := F.sub_str_dict
    wp_walk using wpAny_loadPart' hl
    exact ⟨_, rfl, h⟩
theorem eq_str_dct {A : Around} {s : Shared} {l : Addr} {o : Obj} {es : Array DictEntry} {ep : Nat} (b : Str) (u : Tok) (ho : s.heap.get? l = some o) (hc : o.cls = .type "dict") (hd : o.data = .dict es ep) (hu : A.units < cLine) : EqAt A s (.str b u) (.ref l) false := fun prog w E Q h => by
  unfold eqBool
  refine wpAny_holding ?_
  refine wpAny_ite_split (fun hab => absurd (eq_of_beq hab) nofun) (fun _ => ?_)
  refine wpAny_bind ?_
  exact rc_eq_decline_or (k := false) (typeIs_str s b u) ⟨_, ho, hc⟩ (by decide) F.sub_dict_str F.slot_str_eq F.slot_dict_eq_refl
    (fun _ hq => call_meets F.slot_str_eq (typeIs_str s b u) F.entry_str_eq (F.args_str_eq_2 _ _) (str_eq_declines_dct b u l o hc hd) ⟨ho, hq⟩)
    (fun _ hq => call_meets F.slot_dict_eq_refl ⟨_, ho, hc⟩ F.entry_dict_eq (F.args_dict_eq_2 _ _) (dct_eq_declines_str l o hc b u) ⟨ho, hq⟩)
    (fun _ hq => wpAny_of_eq (rfl : isSame (.str b u) (.ref l) = pure false) hq) (.inr hu) (wpAny_truthy_bool h)
theorem vals_strs : ∀ {ns : List Str} {its : List Value}, Vals (ns.map V.str) its → ∀ y ∈ its, ∃ (z : Str) (t : Tok), y = Value.str z t
  | [], _, .nil, y, hy => nomatch hy
  | z :: ns, _, .cons h r, y, hy => by
    rcases List.mem_cons.mp hy with rfl | hy
    · exact ⟨z, h⟩
    · exact vals_strs r y hy
def dctIn : D → D → Option Bool
  | .dict ds, .tuple ys => if keysOk ds = true ∧ (strsD ys).isSome = true then some false else none
  | .dict ds, .list ys => if keysOk ds = true ∧ (strsD ys).isSome = true then some false else none
  | .str z, .tuple ys => (strsD ys).map fun ns => ns.contains z
  | .str z, .list ys => (strsD ys).map fun ns => ns.contains z
  | _, _ => none
def hasS (z : Str) : Value → Bool
  | .str a _ => a == z
  | _ => false
theorem vals_has {z : Str} : ∀ {ns : List Str} {its : List Value}, Vals (ns.map V.str) its → its.any (hasS z) = ns.contains z
  | [], _, .nil => rfl
  | n :: ns, _, .cons h r => by
    obtain ⟨t, rfl⟩ := h
    rw [List.any_cons, vals_has r, List.contains_cons]
    show (n == z || _) = _
    rw [show (n == z) = (z == n) from Bool.beq_comm]
def inAny (x y : D) : Option D := ((inD x y).or (dctIn x y)).map .bool
def ninAny (x y : D) : Option D := ((inD x y).or (dctIn x y)).map fun r => .bool (!r)
section
variable {X : Cx}
theorem dct_obj {pins : List (Addr × Obj)} {σ : L2.St} {H : Hp} {s : Shared} {x : V} {v : Value} {ds : List (D × D)} (I : Inv X pins σ H s) (hx : Vw X.K H x (.dict ds)) (rx : RelV x v) (hk : keysOk ds = true) :
    ∃ (p : Addr) (o : Obj) (es : Array DictEntry) (ep : Nat), v = .ref p ∧ s.heap.get? p = some o ∧ o.cls = .type "dict" ∧ o.data = .dict es ep := by
  obtain ⟨p, kvs, rfl, hr, im⟩ := vw_dict hx (keys_no hk).1 (keys_no hk).2
  obtain ⟨_, _, vs, _, o, es, ep, h1, h2, h3, _⟩ := dk_rd I.hok hr
  exact ⟨p, o, es, ep, rx, h1, h2.1, h3⟩
theorem dct_in {pins : List (Addr × Obj)} {σ : L2.St} {H : Hp} {s : Shared} {x y : V} {v u : Value} {a b : D} {r : Bool} (hu : X.A.units + 65 < cLine) (I : Inv X pins σ H s) (ha : Vw X.K H x a) (hb : Vw X.K H y b) (rx : RelV x v) (ry : RelV y u) (e : dctIn a b = some r) :
    ∃ (f : Value → Bool) (p : Addr) (its : Array Value), u = .ref p ∧ its.any f = r ∧ (s.heap.IsTuple p its ∨ s.heap.IsList p its) ∧ ∀ y ∈ its, EqAt X.A.in1 s y v (f y) := by
  have hu1 : X.A.in1.units < cLine := by
    rw [Around.in1_units]
    omega
  unfold dctIn at e
  split at e
  · next ds ys =>
    split at e
    · next hk =>
      cases e
      obtain ⟨q, o, es, ep, rfl, h1, h2, h3⟩ := dct_obj I ha rx hk.1
      obtain ⟨p, xs, rfl, hp, ip⟩ := hb.tuple
      obtain ⟨ns, en⟩ := Option.isSome_iff_exists.mp hk.2
      rw [strsD_eq en] at ip
      rw [ip.strs] at hp
      obtain ⟨its, rv, ht, _⟩ := I.tuple hp
      refine ⟨fun _ => false, p, its.toArray, ry, by simp, .inl ht, fun y hy => ?_⟩
      obtain ⟨z, t, rfl⟩ := vals_strs rv y (by simpa using hy)
      exact eq_str_dct z t h1 h2 h3 hu1
    · cases e
  · next ds ys =>
    split at e
    · next hk =>
      cases e
      obtain ⟨q, o, es, ep, rfl, h1, h2, h3⟩ := dct_obj I ha rx hk.1
      obtain ⟨p, xs, rfl, hp, ip⟩ := hb.list
      obtain ⟨ns, en⟩ := Option.isSome_iff_exists.mp hk.2
      rw [strsD_eq en] at ip
      rw [ip.strs] at hp
      obtain ⟨its, rv, ht, _⟩ := I.list hp
      refine ⟨fun _ => false, p, its.toArray, ry, by simp, .inr (PlainL.isList ht), fun y hy => ?_⟩
      obtain ⟨z, t, rfl⟩ := vals_strs rv y (by simpa using hy)
      exact eq_str_dct z t h1 h2 h3 hu1
    · cases e
  · next z ys =>
    obtain ⟨ns, en, rfl⟩ := Option.map_eq_some_iff.mp e
    obtain rfl := ha.str
    obtain ⟨t, rfl⟩ := rx
    obtain ⟨p, xs, rfl, hp, ip⟩ := hb.tuple
    rw [strsD_eq en] at ip
    rw [ip.strs] at hp
    obtain ⟨its, rv, ht, _⟩ := I.tuple hp
    refine ⟨hasS z, p, its.toArray, ry, by rw [← vals_has rv]; simp, .inl ht, fun y hy => ?_⟩
    obtain ⟨z', t', rfl⟩ := vals_strs rv y (by simpa using hy)
    exact EqAt.str_str z' t' z t
  · next z ys =>
    obtain ⟨ns, en, rfl⟩ := Option.map_eq_some_iff.mp e
    obtain rfl := ha.str
    obtain ⟨t, rfl⟩ := rx
    obtain ⟨p, xs, rfl, hp, ip⟩ := hb.list
    rw [strsD_eq en] at ip
    rw [ip.strs] at hp
    obtain ⟨its, rv, ht, _⟩ := I.list hp
    refine ⟨hasS z, p, its.toArray, ry, by rw [← vals_has rv]; simp, .inr (PlainL.isList ht), fun y hy => ?_⟩
    obtain ⟨z', t', rfl⟩ := vals_strs rv y (by simpa using hy)
    exact EqAt.str_str z' t' z t
  · cases e
theorem o_inAny (hu : X.A.units + 65 < cLine) : OpR X (compareOp .In) (rQ2 X.K inAny) := by
  rintro pins s σ H x y v u Q I rx ry ⟨a, b, d, ha, hb, e, q⟩
  unfold inAny at e
  obtain ⟨r, e1, rfl⟩ := Option.map_eq_some_iff.mp e
  cases c : inD a b with
  | some r' =>
    rw [c] at e1
    cases e1
    exact o_in hu pins s σ H x y v u Q I rx ry ⟨a, b, _, ha, hb, by unfold inF; rw [c]; rfl, q⟩
  | none =>
    rw [c] at e1
    obtain ⟨f, p, its, rfl, hany, ht, he⟩ := dct_in hu I ha hb rx ry e1
    have fin : EP X pins σ Q (.bool (its.any f)) s := by
      rw [hany]
      exact ⟨.bl _, H, I, rfl, q _ H (Same.refl H) (.bl _)⟩
    rcases ht with ht | ht
    · exact in_tupleAt f ht he fin
    · exact in_listAt f ht he fin
theorem o_ninAny (hu : X.A.units + 65 < cLine) : OpR X (compareOp .NotIn) (rQ2 X.K ninAny) := by
  rintro pins s σ H x y v u Q I rx ry ⟨a, b, d, ha, hb, e, q⟩
  unfold ninAny at e
  obtain ⟨r, e1, rfl⟩ := Option.map_eq_some_iff.mp e
  cases c : inD a b with
  | some r' =>
    rw [c] at e1
    cases e1
    exact o_nin hu pins s σ H x y v u Q I rx ry ⟨a, b, _, ha, hb, by unfold ninF; rw [c]; rfl, q⟩
  | none =>
    rw [c] at e1
    obtain ⟨f, p, its, rfl, hany, ht, he⟩ := dct_in hu I ha hb rx ry e1
    have fin : EP X pins σ Q (.bool (!its.any f)) s := by
      rw [hany]
      exact ⟨.bl _, H, I, rfl, q _ H (Same.refl H) (.bl _)⟩
    rcases ht with ht | ht
    · exact notIn_tupleAt f ht he fin
    · exact notIn_listAt f ht he fin
end
end Q
namespace Q
open PySem PySem.Spec PyProof.Rows L2 Gd
variable [Tbl]
/-! ### repr of data whose dicts are empty -/
mutual
def nilDs : D → Bool
  | .none => true
  | .bool _ => true
  | .int _ => true
  | .str _ => true
  | .list xs => nilDsL xs
  | .tuple xs => nilDsL xs
  | .dict kvs => kvs.isEmpty
def nilDsL : List D → Bool
  | [] => true
  | x :: xs => nilDs x && nilDsL xs
end
mutual
/-- what stands in the heap; a dict is empty and not the modules' own -/
inductive Rn (h : Heap) : Value → D → Prop
  | non : Rn h .none .none
  | bl (b : Bool) : Rn h (.bool b) (.bool b)
  | int (i : Int) (t : Tok) : Rn h (.int i t) (.int i)
  | str (x : Str) (t : Tok) : Rn h (.str x t) (.str x)
  | lst {a : Addr} {o : Obj} {vs : Array Value} {n : Nat} {xs : List D} : h.get? a = some o → o.cls = .type "list" → o.data = .seq vs n → RnL h vs.toList xs → Rn h (.ref a) (.list xs)
  | tup {a : Addr} {o : Obj} {vs : Array Value} {n : Nat} {xs : List D} : h.get? a = some o → o.cls = .type "tuple" → o.data = .seq vs n → RnL h vs.toList xs → Rn h (.ref a) (.tuple xs)
  | dct {a : Addr} {o : Obj} {n : Nat} : h.get? a = some o → o.cls = .type "dict" → o.data = .dict #[] n → (a == sysModules) = false → Rn h (.ref a) (.dict [])
inductive RnL (h : Heap) : List Value → List D → Prop
  | nil : RnL h [] []
  | cons {v : Value} {vs : List Value} {d : D} {ds : List D} : Rn h v d → RnL h vs ds → RnL h (v :: vs) (d :: ds)
end
mutual
theorem Rn.reads {h : Heap} : ∀ {v : Value} {d : D}, Rn h v d → ∃ as, Reads h v d as
  | _, _, .non => ⟨_, .none⟩
  | _, _, .bl b => ⟨_, .bool b⟩
  | _, _, .int i t => ⟨_, .int i t⟩
  | _, _, .str x t => ⟨_, .str x t⟩
  | _, _, .lst h1 h2 h3 h4 => let ⟨_, q⟩ := RnL.reads h4; ⟨_, .list h1 h2 h3 q⟩
  | _, _, .tup h1 h2 h3 h4 => let ⟨_, q⟩ := RnL.reads h4; ⟨_, .tuple h1 h2 h3 q⟩
  | _, _, .dct h1 h2 h3 _ => ⟨_, .dict h1 h2 h3 .nil .nil⟩
theorem RnL.reads {h : Heap} : ∀ {vs : List Value} {ds : List D}, RnL h vs ds → ∃ as, ReadsAll h vs ds as
  | _, _, .nil => ⟨_, .nil⟩
  | _, _, .cons x r => let ⟨_, p⟩ := Rn.reads x; let ⟨_, q⟩ := RnL.reads r; ⟨_, .cons p q⟩
end
section
variable {P : Program} {w : World} {h : Heap}
/-- the text of a thing, and the things inside it -/
def Tells (P : Program) (w : World) (h : Heap) (v : Value) (d : D) : Prop := ∃ bs, ReadAtMost h d.depth bs ∧ ReprK P w bs h d.depth v d.shown
def TellsL (P : Program) (w : World) (h : Heap) (vs : List Value) (ds : List D) : Prop := ∃ bs, ReadAtMost h (PyData.depthAll ds) bs ∧ ReprAllK P w bs h (PyData.depthAll ds) vs (PyData.shownAll ds)
theorem no_atMost {n : Nat} : ReadAtMost h n [] := fun _ z => nomatch z
mutual
theorem Rn.tells : ∀ {v : Value} {d : D}, Rn h v d → d.showable = true → d.shown.length ≤ sizeLine → Tells P w h v d
  | _, _, .non, _, _ => ⟨[], no_atMost, ReprK.of_is ReprIs.none _ _ _⟩
  | _, _, .bl b, _, _ => ⟨[], no_atMost, ReprK.of_is (ReprIs.bool b) _ _ _⟩
  | _, _, .int i t, hs, _ => ⟨[], no_atMost, ReprK.of_is (ReprIs.int t (of_decide_eq_true hs)) _ _ _⟩
  | _, _, .str x t, _, hz => ⟨[], no_atMost, ReprK.of_is (ReprIs.str x t hz) _ _ _⟩
  | _, _, .lst (a := a) (vs := vs) (xs := xs) h1 h2 h3 h4, hs, hz => by
    have hz : (listText (PyData.shownAll xs)).length ≤ sizeLine := hz
    obtain ⟨bs, hb, hk⟩ := RnL.tells h4 hs fun t ht => Nat.le_trans (listText_mem_le ht) hz
    obtain ⟨_, r⟩ := Rn.reads (Rn.lst h1 h2 h3 h4)
    have dd : PyData.depthAll xs < (PyData.list xs).depth := Nat.lt_succ_self _
    have na := not_mem_of_deeper r dd hb
    refine ⟨a :: bs, ReadAtMost.cons r (Nat.le_of_lt dd) hb, ?_⟩
    show ReprK P w _ h (PyData.depthAll xs + 1) _ (listText (PyData.shownAll xs))
    obtain ⟨l⟩ := vs
    cases l with
    | nil =>
      cases h4
      exact ReprK.listEmpty h1 h2 h3
    | cons x l => exact ReprK.list h1 h2 h3 na (by simpa using hk.length_eq) fun i y e => hk.item i y (by simpa using e)
  | _, _, .tup (a := a) (xs := xs) h1 h2 h3 h4, hs, hz => by
    have hz : (tupleText (PyData.shownAll xs)).length ≤ sizeLine := hz
    obtain ⟨bs, hb, hk⟩ := RnL.tells h4 hs fun t ht => Nat.le_trans (tupleText_mem_le ht) hz
    obtain ⟨_, r⟩ := Rn.reads (Rn.tup h1 h2 h3 h4)
    have dd : PyData.depthAll xs < (PyData.tuple xs).depth := Nat.lt_succ_self _
    exact ⟨a :: bs, ReadAtMost.cons r (Nat.le_of_lt dd) hb, ReprK.tuple h1 h2 h3 (not_mem_of_deeper r dd hb) hk⟩
  | _, _, .dct (a := a) h1 h2 h3 h4, _, _ => by
    obtain ⟨_, r⟩ := Rn.reads (Rn.dct h1 h2 h3 h4)
    exact ⟨[a], ReadAtMost.cons (n := 0) r (Nat.zero_le _) no_atMost, ReprK.dict (d := 0) h1 h2 h3 h4 (fun z => nomatch z) .nil⟩
theorem RnL.tells : ∀ {vs : List Value} {ds : List D}, RnL h vs ds → PyData.showableAll ds = true → (∀ t ∈ PyData.shownAll ds, t.length ≤ sizeLine) → TellsL P w h vs ds
  | _, _, .nil, _, _ => ⟨[], no_atMost, .nil⟩
  | _, _, .cons (d := d) (ds := ds) x r, hs, hz => by
    have hs : (d.showable && PyData.showableAll ds) = true := hs
    rw [Bool.and_eq_true] at hs
    have hz : ∀ t ∈ d.shown :: PyData.shownAll ds, t.length ≤ sizeLine := hz
    obtain ⟨b1, m1, k1⟩ := Rn.tells x hs.1 (hz _ List.mem_cons_self)
    obtain ⟨b2, m2, k2⟩ := RnL.tells r hs.2 fun t ht => hz t (List.mem_cons_of_mem _ ht)
    have l1 : d.depth ≤ PyData.depthAll (d :: ds) := Nat.le_max_left _ _
    have l2 : PyData.depthAll ds ≤ PyData.depthAll (d :: ds) := Nat.le_max_right _ _
    exact ⟨b1 ++ b2, (m1.mono l1).append (m2.mono l2), .cons ((k1.more fun b q => List.mem_append_left _ q).level_le l1) (k2.more_le (fun b q => List.mem_append_right _ q) l2)⟩
end
end
section
variable {X : Cx} {pins : List (Addr × Obj)} {σ : L2.St} {H : Hp} {s : Shared}
mutual
theorem Im.rn (I : Inv X pins σ H s) : ∀ {v : V} (d : D) {u : Value}, Im X.K H v d → nilDs d = true → RelV v u → Rn s.heap u d
  | _, .none, _, .non, _, r => by cases r; exact .non
  | _, .bool b, _, .bl _, _, r => by cases r; exact .bl b
  | _, .int i, _, .int _, _, r => by obtain ⟨t, rfl⟩ := r; exact .int i t
  | _, .str x, _, .str _, _, r => by obtain ⟨t, rfl⟩ := r; exact .str x t
  | _, .tuple ds, _, .tup h q, c, r => by
    cases r
    obtain ⟨its, rv, ⟨o, e, e2, n, e3⟩, _⟩ := I.tuple h.sq
    exact .tup e e2 e3 (by simpa using ImL.rn I ds q c rv)
  | _, .list ds, _, .lst h q, c, r => by
    cases r
    obtain ⟨its, rv, ⟨o, n, e, e2, _, e3⟩, _⟩ := I.list h.sq
    exact .lst e e2 e3 (by simpa using ImL.rn I ds q c rv)
  | _, .dict [], _, .dic h q, c, r => by
    cases r
    cases q
    obtain ⟨_, _, ns, vs, kv, d⟩ := I.hok _ _ h
    cases kv
    obtain ⟨o, es, ep, e, ex, hd, _, hl, _⟩ := d
    have : es = #[] := by
      apply Array.toList_inj.mp
      generalize es.toList = l at hl
      cases hl
      rfl
    subst this
    exact .dct e ex.1 hd ns
theorem ImL.rn (I : Inv X pins σ H s) : ∀ {vs : List V} (ds : List D) {us : List Value}, ImL X.K H vs ds → nilDsL ds = true → Vals vs us → RnL s.heap us ds
  | _, [], _, .nil, _, r => by cases r; exact .nil
  | _, d :: ds, _, .cons h q, c, r => by
    have c : (nilDs d && nilDsL ds) = true := c
    rw [Bool.and_eq_true] at c
    cases r with
    | cons r1 r2 => exact .cons (Im.rn I d h c.1 r1) (ImL.rn I ds q c.2 r2)
end
theorem Vw.rn {v : V} {d : D} {u : Value} (I : Inv X pins σ H s) (h : Vw X.K H v d) (c : nilDs d = true) (r : RelV v u) : Rn s.heap u d := by
  cases h with
  | im h => exact Im.rn I d h c r
  | lst e q =>
    cases r
    obtain ⟨its, rv, ⟨o, n, e, e2, _, e3⟩, _⟩ := I.list (.inl (.inl e))
    exact .lst e e2 e3 (by simpa using ImL.rn I _ q c rv)
  | dic e q =>
    rename_i kvs ds
    cases ds with
    | cons p t => cases c
    | nil =>
    cases r
    cases q
    obtain ⟨_, ns, vs, kv, d⟩ := I.hok _ _ e
    cases kv
    obtain ⟨o, es, ep, e, ex, hd, _, hl, _⟩ := d
    have : es = #[] := by
      apply Array.toList_inj.mp
      generalize es.toList = l at hl
      cases hl
      rfl
    subst this
    exact .dct e ex.1 hd ns
noncomputable def reprE : List D → Option D
  | [d] => if cb (d.showable = true ∧ nilDs d = true ∧ d.depth ≤ 60 ∧ d.shown.length ≤ sizeLine) = true then some (.str d.shown) else none
  | _ => none
theorem c_reprE (g : X.A.guards = some []) (hu : X.A.units + 64 < cLine) : CallR X (.builtin "repr") (rQN X.K reprE) := by
  rintro pins s σ H xs us Q I r ⟨as, d, hx, e, q⟩
  unfold reprE at e
  split at e
  · next a =>
    split at e
    · next c =>
      cases e
      obtain ⟨hs, hn, hz, hl⟩ := of_cb c
      obtain ⟨x, rfl, h⟩ := hx.one
      obtain ⟨u, rfl, rx⟩ := vals1 r
      have rd := h.rn I hn rx
      have q1 := q (.str a.shown) H (Same.refl H) (.str _)
      have keep : ∀ (h' : Heap) (tk : Nat), (∀ b o, s.heap.get? b = some o → h'.get? b = some o) → Inv X pins σ H { s with heap := h', toks := tk } := fun h' tk hk => I.un (Un.kept hk) (I.hok.kept hk)
      have fin : ∀ (h' : Heap) (u : Tok) (tk : Nat), (∀ b o, s.heap.get? b = some o → h'.get? b = some o) → ∃ v H', Inv X pins σ H' { s with heap := h', toks := tk } ∧ RelV v (.str a.shown u) ∧ Q v H' := fun h' u tk hk => ⟨.str _, H, keep h' tk hk, ⟨u, rfl⟩, q1⟩
      have hu1 : X.A.units + 1 + a.depth < cLine := by omega
      cases rd with
      | non => exact PySem.P.repr_of_none (fin _ _ _ fun _ _ z => z)
      | bl b => exact PySem.P.repr_of_bool (fin _ _ _ fun _ _ z => z)
      | int i t => exact PySem.P.repr_of_int (of_decide_eq_true hs) (fin _ _ _ fun _ _ z => z)
      | str x t => exact PySem.P.repr_of_str (fin _ _ _ fun _ _ z => z) hl
      | lst h1 h2 h3 h4 =>
        rename_i p o vs n ds
        refine call_repr_slot (by omega) ⟨o, h1, h2⟩ F.slot_list_repr.toG ?_
        have hl' : (listText (PyData.shownAll ds)).length ≤ sizeLine := hl
        obtain ⟨bs, hb, hk⟩ := RnL.tells (P := X.prog) (w := X.w) h4 hs fun t ht => Nat.le_trans (listText_mem_le ht) hl'
        obtain ⟨_, rr⟩ := Rn.reads (Rn.lst h1 h2 h3 h4)
        have na := not_mem_of_deeper rr (Nat.lt_succ_self _) hb
        obtain ⟨l⟩ := vs
        cases l with
        | nil =>
          cases h4
          exact call_list_repr_empty ⟨o, h1, h2⟩ h1 h3 ⟨_, _, rfl, fin _ _ _ fun _ _ z => z⟩
        | cons y l => exact call_list_reprK h1 h2 h3 na (by simpa using hk.length_eq) (fun i y e => hk.item i y (by simpa using e)) g (fun b _ => Clear.nil b) hu1 (fun _ _ z => z) (fun h' u tk hk' => ⟨_, _, rfl, fin h' u tk hk'⟩) hl'
      | tup h1 h2 h3 h4 =>
        rename_i p o vs n ds
        refine call_repr_slot (by omega) ⟨o, h1, h2⟩ F.slot_tuple_repr ?_
        have hl' : (tupleText (PyData.shownAll ds)).length ≤ sizeLine := hl
        obtain ⟨bs, hb, hk⟩ := RnL.tells (P := X.prog) (w := X.w) h4 hs fun t ht => Nat.le_trans (tupleText_mem_le ht) hl'
        obtain ⟨_, rr⟩ := Rn.reads (Rn.tup h1 h2 h3 h4)
        have na := not_mem_of_deeper rr (Nat.lt_succ_self _) hb
        exact call_tuple_reprK h1 h2 h3 na hk g (fun b _ => Clear.nil b) hu1 (fun _ _ z => z) (fun h' u tk hk' => ⟨_, _, rfl, fin h' u tk hk'⟩) hl'
      | dct h1 h2 h3 h4 =>
        rename_i p o n
        refine call_repr_slot (by omega) ⟨o, h1, h2⟩ F.slot_dict_repr ?_
        exact call_dict_reprK (as := []) (d := 0) h1 h2 h3 h4 (fun z => nomatch z) .nil g (fun b _ => Clear.nil b) hu1 (fun _ _ z => z) (fun h' u tk hk' => ⟨_, _, rfl, fin h' u tk hk'⟩) hl
    · cases e
  · cases e
end
end Q
namespace M
open PySem PySem.Spec PyProof.Rows L2 Gd
/-! ### len(set(t)), t a tuple of texts -/
/-- how many different texts there are, some seen before -/
def dcount : List Str → List Str → Nat
  | _, [] => 0
  | seen, x :: xs => (if seen.contains x = true then 0 else 1) + dcount (seen ++ [x]) xs
theorem dcount_le : ∀ (xs seen : List Str), dcount seen xs ≤ xs.length
  | [], _ => Nat.le_refl _
  | x :: xs, seen => by
    have h := dcount_le xs (seen ++ [x])
    show (if seen.contains x = true then 0 else 1) + dcount (seen ++ [x]) xs ≤ xs.length + 1
    split <;> omega
theorem dcount_snoc : ∀ (xs seen : List Str) (y : Str), dcount seen (xs ++ [y]) = dcount seen xs + (if (seen ++ xs).contains y = true then 0 else 1)
  | [], seen, y => by
    show (if seen.contains y = true then 0 else 1) + 0 = 0 + _
    rw [List.append_nil, Nat.zero_add, Nat.add_zero]
  | x :: xs, seen, y => by
    show (if seen.contains x = true then 0 else 1) + dcount (seen ++ [x]) (xs ++ [y]) = (if seen.contains x = true then 0 else 1) + dcount (seen ++ [x]) xs + _
    rw [dcount_snoc xs (seen ++ [x]) y, List.append_assoc]
    show _ = _ + (if (seen ++ ([x] ++ xs)).contains y = true then 0 else 1)
    omega
theorem dcount_iff : ∀ (xs seen : List Str), dcount seen xs = xs.length ↔ xs.Nodup ∧ ∀ x ∈ xs, x ∉ seen
  | [], _ => ⟨fun _ => ⟨List.nodup_nil, fun x hx => (nomatch hx)⟩, fun _ => rfl⟩
  | x :: xs, seen => by
    have h := dcount_iff xs (seen ++ [x])
    have l := dcount_le xs (seen ++ [x])
    show (if seen.contains x = true then 0 else 1) + dcount (seen ++ [x]) xs = xs.length + 1 ↔ _
    rw [List.nodup_cons, List.forall_mem_cons]
    constructor
    · intro e
      split at e
      · omega
      · rename_i n
        have n : x ∉ seen := fun z => n (List.contains_iff_mem.mpr z)
        obtain ⟨h1, h2⟩ := h.mp (by omega)
        refine ⟨⟨fun z => ?_, h1⟩, n, fun y hy z => h2 y hy (List.mem_append_left _ z)⟩
        exact h2 x z (List.mem_append_right _ (List.mem_singleton.mpr rfl))
    · rintro ⟨⟨h1, h2⟩, h3, h4⟩
      rw [if_neg (fun z => h3 (List.contains_iff_mem.mp z))]
      rw [h.mpr ⟨h2, fun y hy z => ?_⟩]
      · omega
      · rcases List.mem_append.mp z with z | z
        · exact h4 y hy z
        · rw [List.mem_singleton.mp z] at hy
          exact h1 hy
theorem dcount_all (xs : List Str) : decide (dcount [] xs = xs.length) = decide xs.Nodup := by
  rw [decide_eq_decide, dcount_iff]
  exact ⟨fun h => h.1, fun h => ⟨h, fun x _ z => (nomatch z)⟩⟩
section
variable {prog : Program} {w : World} {A : Around} {R : Result → Shared → Prop} {I : Addr} {fp wr : List Addr} {G : Array GenState → Array GenState → Prop} {n : Nat} {P : Nat → Value → Prop} {St : Nat → Shared → Prop}
theorem any_contains (l : List Str) (y : Str) : (l.any fun x => x == y) = l.contains y := by
  rw [Bool.eq_iff_iff, List.any_eq_true, List.contains_iff_mem]
  exact ⟨fun ⟨x, hx, e⟩ => by rw [← beq_iff_eq.mp e]; exact hx, fun h => ⟨y, h, beq_self_eq_true y⟩⟩
theorem loop_txt (W : WalksS prog w A.in1 I fp wr G n P St) (S : Addr) (hSf : S ∉ fp) (xs : List Str) (hsz : xs.length = n) (hb : n + 1 < scanBound)
    (hval : ∀ i v, P i v → ∃ t, v = .str (xs.getD i Str.empty) t) :
    ∀ (k i : Nat) (s : Shared), n - i = k → i ≤ n → St i s →
      s.heap.SetOf (PySem.strKind prog w) S (fun k' => (xs.take i).any (· == k')) (dcount [] (xs.take i)) →
      (∀ s', Moved (S :: wr) G s s' → s'.heap.SetOf (PySem.strKind prog w) S (fun k' => xs.any (· == k')) (dcount [] xs) → R (.ok (.ret .none)) s') →
      codeAny (model prog w) A (.builtin "set.update.loop" ⟨[.ref S, .ref I], []⟩) R s := by
  have hSw : S ∉ wr := fun h => hSf (W.sub _ h)
  have hsub : ∀ b ∈ wr, b ∈ S :: wr := fun b hb => List.mem_cons_of_mem _ hb
  intro k
  induction k with
  | zero =>
    intro i s hk hi hst hS hR
    have hin : i = n := by omega
    have et : xs.take i = xs := List.take_of_length_le (by omega)
    rw [et] at hS
    subst hin
    refine codeAny_builtin PyProof.Rows.F.entry_set_update_loop ?_
    rw [Around.under_plainId PyProof.Rows.F.plain_set_update_loop _]
    show wpAny _ A.in1 (pyNext (.ref I) >>= _) _ _ s
    refine wpAny_bind (W.done s _ _ hst fun s' hm => ?_)
    show wpAny _ A.in1 (ret Value.none) _ _ s'
    exact wpAny_pure (hR s' (hm.mono hsub) (by
      obtain ⟨o, es, ep, t, ho, rest⟩ := hS
      exact ⟨o, es, ep, t, hm.heap S _ hSw ho, rest⟩))
  | succ k ih =>
    intro i s hk hi hst hS hR
    have hlt : i < n := by omega
    refine codeAny_builtin PyProof.Rows.F.entry_set_update_loop ?_
    rw [Around.under_plainId PyProof.Rows.F.plain_set_update_loop _]
    show wpAny _ A.in1 (pyNext (.ref I) >>= _) _ _ s
    refine wpAny_bind (W.item i s _ _ hlt hst fun v s' hP hst' hm => ?_)
    obtain ⟨t, rfl⟩ := hval i v hP
    have hS' : s'.heap.SetOf (PySem.strKind prog w) S (fun k' => (xs.take i).any (· == k')) (dcount [] (xs.take i)) := by
      obtain ⟨o, es, ep, tb, ho, rest⟩ := hS
      exact ⟨o, es, ep, tb, hm.heap S _ hSw ho, rest⟩
    have hg : xs[i]? = some (xs.getD i Str.empty) := by
      rw [List.getD_eq_getElem?_getD, List.getElem?_eq_getElem (show i < xs.length by omega)]
      rfl
    generalize xs.getD i Str.empty = y at hg ⊢
    have et : xs.take (i + 1) = xs.take i ++ [y] := by
      rw [List.take_add_one, hg]
      rfl
    show wpAny _ A.in1 (holding [Value.str y t] (setAdd S (.str y t)) >>= _) _ _ s'
    refine wpAny_bind (wpAny_holding ?_)
    unfold setAdd
    refine wpAny_holding ?_
    refine wpAny_bind ((PySem.strKind prog w).pyHash (k := y) (strKind_is _ _ _ _) ?_)
    refine wpAny_setAddHashed_of (knd := PySem.strKind prog w) (s := { s' with toks := s'.toks + 1 }) (strKind_is _ _ _ _) rfl hS' (by
      have := dcount_le (xs.take i) []
      rw [List.length_take] at this
      omega) fun h' hsb hS2 => ?_
    have hSi : h'.SetOf (PySem.strKind prog w) S (fun k' => (xs.take (i + 1)).any (· == k')) (dcount [] (xs.take (i + 1))) := by
      refine SetOf_congr hS2 (fun k' => ?_) ?_
      · show ((xs.take i).any (· == k') || decide (k' = y)) = (xs.take (i + 1)).any (· == k')
        rw [et, List.any_append]
        congr 1
        show decide (k' = y) = ((y == k') || false)
        rw [Bool.or_false, Bool.eq_iff_iff, decide_eq_true_eq, beq_iff_eq]
        exact eq_comm
      · rw [et, dcount_snoc, List.nil_append]
        show (if ((xs.take i).any fun x => x == y) = true then _ else _) = _
        rw [any_contains]
        split <;> omega
    refine wpAny_pure ⟨plainId_quiet PyProof.Rows.F.plain_set_update_loop _, ih (i + 1) _ (by omega) hlt (W.frame _ s' _ _ hst' (Nat.le_succ _) fun b hb o e => ?_) hSi fun s'' hm'' hS'' => ?_⟩
    · rw [hsb.2 b (fun h : b = S => hSf (by rw [← h]; exact hb))]; exact e
    · refine hR s'' (Moved.trans W.gtrans ((hm.mono hsub).then_heap (Nat.le_succ _) fun b o hb e => ?_) hm'') hS''
      rw [hsb.2 b (fun h : b = S => hb (by rw [h]; exact List.mem_cons_self))]; exact e
end
section
variable {prog : Program} {w : World} {A : Around} {E : Value → Shared → Prop} {s : Shared}
set_option maxHeartbeats 3200000 in
theorem call_set_txt {l : Addr} {items : Array Value} {xs : List Str} {Q : Value → Shared → Prop}
    (hh : A.handled = none) (hl : s.heap.IsTuple l items) (hi : PyProof.Rows.StrsAre items.toList xs) (hb : xs.length + 1 < scanBound)
    (h : ∀ (h' : Heap) (tk : Nat), h'.SetOf (PySem.strKind prog w) s.heap.objs.size (fun k' => xs.any (· == k')) (dcount [] xs) →
      (∀ b o, s.heap.get? b = some o → h'.get? b = some o) → Q (.ref s.heap.objs.size) { s with heap := h', toks := tk }) :
    wpAny (model prog w) A (call (.type "set") [.ref l]) Q E s := by
  obtain ⟨c, tl, hmro⟩ := PySem.F.called_set.mro
  have hmade := PySem.F.called_set.made
  have hsub := PySem.F.called_set.sub
  refine wpAny_call (codeAny_of_tree ?_)
  show wpAny _ _ (callAny (.type "set") _) _ _ _
  refine wpAny_pure ⟨Code.quiet_builtin _ (by decide +kernel), codeAny_builtin PySem.F.entry_type_call ?_⟩
  rw [Around.under_plain (weight_type_call_type "set" [.ref l] []) rfl]
  have h1 := PySem.F.called_set.notType
  have h2 := PySem.F.called_set.canCreate
  have hct := PySem.F.typeCall_set_1 (.ref l)
  repeat (any_goals (first | assumption | wp_step))
  refine codeAny_mono (code_set_led1 (.ref l) (E := E) (Q₁ := fun obj s₁ => ∃ led : Bool, obj = .ref s.heap.objs.size ∧ s₁ = { s with heap := s.heap.push { cls := .type "set", dict := none, data := .set #[] 0 (.fresh 0 0 led) } }) ⟨_, rfl, rfl⟩) fun r s₁ hr => ?_
  cases r with
  | error e => exact hr
  | ok fl =>
    cases fl with
    | ret obj =>
      obtain ⟨led, rfl, rfl⟩ := hr
      have hS : (s.heap.push { cls := .type "set", dict := none, data := .set #[] 0 (.fresh 0 0 led) }).get? s.heap.objs.size = some { cls := .type "set", dict := none, data := .set #[] 0 (.fresh 0 0 led) } := Heap.get?_push_size _ rfl
      have hT : Shared.TypeIs { s with heap := s.heap.push { cls := .type "set", dict := none, data := .set #[] 0 (.fresh 0 0 led) } } (.ref s.heap.objs.size) "set" := ⟨_, hS, rfl⟩
      have hli := PySem.F.called_set.init.lookup
      have hbi := PySem.F.called_set.init.bind (.ref s.heap.objs.size)
      repeat (any_goals (first | assumption | wp_step))
      refine codeAny_mono (codeAny_call_builtin (R := wants (fun r s₂ => r = .none ∧ ∃ h' tk, s₂ = { s with heap := h', toks := tk } ∧
          h'.SetOf (PySem.strKind prog w) s.heap.objs.size (fun k' => xs.any (· == k')) (dcount [] xs) ∧
          (∀ b o, s.heap.get? b = some o → h'.get? b = some o)) E) PySem.F.called_set.init.plain PySem.F.entry_set_init (check_set_init_1 hT ?_)) fun r₂ s₂ hr₂ => ?_
      · obtain ⟨ol, hol, hcl, nl, hdl⟩ := hl
        obtain ⟨ocls, odict, odata, oslots⟩ := ol
        simp only at hcl hdl
        subst hcl; subst hdl
        have hol' : (s.heap.push { cls := .type "set", dict := none, data := .set #[] 0 (.fresh 0 0 led) }).get? l = some { cls := .type "tuple", dict := odict, data := .seq items nl, slots := oslots } := Heap.get?_push_of_some _ hol
        have hsls := PySem.F.sub_tuple_set
        have hslf := PySem.F.sub_tuple_frozenset
        have hne : (Value.type "tuple" == Value.type "dict") = false := by decide
        have hl1 : (s.heap.push { cls := .type "set", dict := none, data := .set #[] 0 (.fresh 0 0 led) }).IsTuple l items := ⟨_, hol', rfl, nl, rfl⟩
        unfold Builtin.«set.__init__» noKeywords Builtin.Frozenset.updateFrom
        generalize hPI : pyIter = PI
        wp_walk
        subst hPI
        refine wpAny_pyIter_tuple hl1 ?_
        refine wpAny_bind (wpAny_runValue ?_)
        have hlS : l < s.heap.objs.size := Heap.lt_size hol
        have hh3 : A.in1.in1.in1.handled = none := by simp [hh]
        have hneI : l ≠ (s.heap.push { cls := .type "set", dict := none, data := .set #[] 0 (.fresh 0 0 led) }).objs.size := by
          rw [Heap.size_push]; exact Nat.ne_of_lt (Nat.lt_succ_of_lt hlS)
        have hSf : s.heap.objs.size ∉ [(s.heap.push { cls := .type "set", dict := none, data := .set #[] 0 (.fresh 0 0 led) }).objs.size, l] := by
          rw [Heap.size_push]; simp only [List.mem_cons, List.mem_singleton, List.not_mem_nil, or_false, not_or]
          exact ⟨Nat.ne_of_lt (Nat.lt_succ_self _), Nat.ne_of_gt hlS⟩
        have hsz : xs.length = items.size := by rw [← StrsAre.len_eq hi, Array.length_toList]
        have hval : ∀ (i : Nat) (v : Value), items[i]? = some v → ∃ t, v = .str (xs.getD i Str.empty) t := fun i v hv => SS.strs_at hi i v (by rw [Array.getElem?_toList]; exact hv)
        refine loop_txt ((Walks.tuple hh3 _ l hneI items).toS) s.heap.objs.size
          hSf xs hsz (by rw [← hsz]; exact hb) hval (items.size - 0) 0 _ (by omega) (Nat.zero_le _)
          ⟨⟨_, Heap.get?_push_size _ rfl, rfl, rfl⟩, (hl1.push _)⟩ ?hS0 ?hR
        case hS0 =>
          have hget : ((s.heap.push { cls := .type "set", dict := none, data := .set #[] 0 (.fresh 0 0 led) }).push { cls := .type "tuple_iterator", data := .fields #[.ref l, .int 0 0] }).get? s.heap.objs.size
              = some { cls := .type "set", dict := none, data := .set #[] 0 (.fresh 0 0 led) } := Heap.get?_push_of_some _ hS
          exact PyProof.Rows.SetOf_congr ((PyProof.Rows.setObjOf_fresh (knd := PySem.strKind prog w) led).setOf hget (by unfold scanBound; omega)) (fun _ => rfl) rfl
        case hR =>
          intro s' hm hS'
          obtain ⟨h', g', d', tk', os'⟩ := s'
          have eg : g' = s.gens := hm.gens
          have ed : d' = s.drawn := hm.drawn
          have eo : os' = s.os := hm.os
          subst eg; subst ed; subst eo
          show wpAny _ _ _ _ _ _
          refine wpAny_pure ?_
          show wpAny _ _ (ret Value.none) _ _ _
          refine wpAny_pure ⟨rfl, h', tk', rfl, hS', fun b o e => ?_⟩
          have hb0 : b < s.heap.objs.size := Heap.lt_size e
          have hb1 : b ≠ s.heap.objs.size := Nat.ne_of_lt hb0
          have hb2 : b ≠ (s.heap.push { cls := .type "set", dict := none, data := .set #[] 0 (.fresh 0 0 led) }).objs.size := by
            rw [Heap.size_push]; exact Nat.ne_of_lt (Nat.lt_succ_of_lt hb0)
          exact hm.heap b o (by simp only [List.mem_cons, List.mem_singleton, List.not_mem_nil, or_false, not_or]; exact ⟨hb1, hb2⟩) (Heap.get?_push_of_some _ (Heap.get?_push_of_some _ e))
      · cases r₂ with
        | error e => exact hr₂
        | ok fl₂ =>
          cases fl₂ with
          | ret r =>
            obtain ⟨rfl, h', tk, rfl, hS', hk'⟩ := hr₂
            repeat (any_goals (first | assumption | wp_step))
            exact h _ _ hS' hk'
          | _ => exact hr₂.elim
    | _ => exact hr.elim
end
section
variable {X : Cx}
/-- len(set(t)), t a tuple of texts -/
def tLenSetT (K : PySem.W.Frag) (ta : TE) : TE := fun σ H Q => ta σ H fun x H1 => ∃ l, ∃ xs : List Str, x = .ref l ∧ SqT K H1 l (xs.map V.str) ∧ xs.length ≤ 1000 ∧ Q (.int (dcount [] xs)) H1
theorem pe_lenSetT {a : Expr} {ta : TE} {p p2 q pos : Pos} (hc : X.calm = true) (hg : Gl X "len") (hm : X.mg "len" = none) (hg2 : Gl X "set") (hm2 : X.mg "set" = none) (ha : PE X a ta)
    (na : starEach [a] X.env = (false, eval a X.env) :: starEach [] X.env := by rfl) : PE X (.Call (.Name "len" p) [.Call (.Name "set" p2) [a] [] q] [] pos) (tLenSetT X.K ta) := by
  refine ⟨fun pins s σ H Q I h => ?_⟩
  refine Call_ (ld_blt I hg hm boot_len ?_)
  refine PyProof.Rows.callWith_builtin1 (PyProof.Rows.args_cons ?_ rfl) rfl rfl
  refine Call_ (ld_blt I hg2 hm2 boot_set ?_)
  refine PyProof.Rows.callWith_type1 (PyProof.Rows.args_cons (thn (ha.run pins s σ H _ I h) fun v s1 ⟨x, H1, I1, r1, q1⟩ => PyProof.Rows.args_nil ?_) na) na rfl
  obtain ⟨l, xs, rfl, hq, h1, q1⟩ := q1
  cases r1
  obtain ⟨its, r, pl, hz⟩ := I1.tuple hq
  refine call_set_txt (I1.ok.hd hc) pl (by simpa using strsAre_of r) (by show xs.length + 1 < 4096; omega) fun h' tk hS hk => ?_
  refine PyProof.Rows.args_nil ?_
  obtain ⟨o, es, ep, t, ho, hex, hd, _, _, _, hf, hn⟩ := hS
  have I2 : Inv X pins σ H1 { s1 with heap := h', toks := tk } := I1.kept fun b o e => hk b o e
  have dl := dcount_le xs []
  refine call_len_set ho hex hd hf (by rw [hn]; have : scanBound = 4096 := rfl; omega) ⟨.int (dcount [] xs), H1, I2.tok _, ⟨_, by rw [hn]⟩, q1⟩
end
end M
namespace Q
open PySem PySem.Spec PyProof.Rows L2 Gd
variable [Tbl]
variable {X : Cx} {n : Nat} {W : XW}
/-! ### len(set(t)), x.strip(y), x.join(y) -/
def lenSetD : D → Option D
  | .tuple ds => (strsD ds).bind fun ns => if ns.length ≤ 1000 then some (.int (M.dcount [] ns : Nat)) else none
  | _ => none
theorem xd_lenSet {a : Expr} {p p2 q pos : Pos} {f : Mo R} (hc : X.calm = true) (hg : Gl X "len") (hm : X.mg "len" = none) (hg2 : Gl X "set") (hm2 : X.mg "set" = none) (ha : XD X n W a f)
    (na : starEach [a] X.env = (false, eval a X.env) :: starEach [] X.env := by rfl) : XD X n W (.Call (.Name "len" p) [.Call (.Name "set" p2) [a] [] q] [] pos) (e1 lenSetD f) :=
  weakE (M.pe_lenSetT hc hg hm hg2 hm2 ha na) fun σ H Q h => op1_run (r := fun x H1 Q => ∃ l, ∃ xs : List Str, x = .ref l ∧ SqT X.K H1 l (xs.map V.str) ∧ xs.length ≤ 1000 ∧ Q (.int (M.dcount [] xs)) H1) (fun x a d H Q hv hf q => by
    cases a with
    | tuple ds =>
      have hf : ((strsD ds).bind fun ns => if ns.length ≤ 1000 then some (PyData.int (M.dcount [] ns : Nat)) else none) = some d := hf
      cases e : strsD ds with
      | none => rw [e] at hf; cases hf
      | some ns =>
        rw [e] at hf
        have hf : (if ns.length ≤ 1000 then some (PyData.int (M.dcount [] ns : Nat)) else none) = some d := hf
        split at hf
        · next le =>
          cases hf
          obtain ⟨p, xs, rfl, sq, im⟩ := hv.tuple
          rw [strsD_eq e] at im
          rw [ImL.strs im] at sq
          exact ⟨p, ns, rfl, sq, le, q _ H (Same.refl H) (.int _)⟩
        · cases hf
    | _ => cases hf) σ H Q h
/-- a method of a text with one argument -/
@[simp] def eStrM (F : Str → D → Option D) (f g : Mo R) : Mo R := fun ρ => (f ρ).bind fun a ρ1 => match a with
  | .d (.str z) => (g ρ1).bind fun b ρ2 => lift ((look ρ2 b).bind (F z)) ρ2
  | _ => .no
theorem strM_run {F : Str → D → Option D} {f g : Mo R} {r : V → List V → Hp → VK → Prop} (hF : ∀ z y b d H Q, Vw X.K H y b → F z b = some d → (∀ v H', Same H H' → Im X.K H' v d → Q v H') → r (.str z) [y] H Q)
    (σ : St) (H : Hp) (Q : VK) (h : tX X.K n W (eStrM F f g) σ H Q) : tM1 r (tX X.K n W f) (tX X.K n W g) σ H Q := by
  obtain ⟨ρ, G, h⟩ := h
  refine ⟨ρ, G, (Aft.bind h).mono fun a ρ1 H1 s1 h1 v rv => ?_⟩
  cases rv with
  | v _ => exact h1.elim
  | d im =>
    cases im with
    | str z =>
      refine ⟨⟨z, rfl⟩, ρ1, s1.good, (Aft.bind h1).mono fun b ρ2 H2 s2 h2 u ru => ?_⟩
      obtain ⟨d, e, q⟩ := Aft.out s2.good h2
      cases eb : look ρ2 b with
      | none => rw [eb] at e; cases e
      | some y =>
        rw [eb] at e
        exact hF z u y d H2 Q (ru.see s2.good eb) e q
    | _ => exact h1.elim
def stripF (z : Str) : D → Option D
  | .str y => if z.length ≤ 10000000 then some (.str (Txt.stripChars z y)) else none
  | _ => none
theorem xd_strip {o e : Expr} {apos pos : Pos} {f g : Mo R} (ho : XD X n W o f) (he : XD X n W e g) (hs : starEach [e] X.env = [(false, eval e X.env)] := by rfl)
    (hbase : attributeBase o "strip" X.env (eval o X.env) = eval o X.env := by rfl) (hline : (apos.endLine == pos.line) = true := by rfl) : XD X n W (.Call (.Attribute o "strip" apos) [e] [] pos) (eStrM stripF f g) :=
  weakE (pe_m1 PySem.F.slot_str_strip PySem.F.type_str_strip mt_stripChars ho he hs hbase hline) (strM_run fun z y b d H Q hv hf q => by
    cases b with
    | str u =>
      have hf : (if z.length ≤ 10000000 then some (PyData.str (Txt.stripChars z u)) else none) = some d := hf
      split at hf
      · next le =>
        cases hf
        rw [hv.str]
        exact ⟨z, u, rfl, rfl, Nat.le_trans le (by decide), q _ H (Same.refl H) (.str _)⟩
      · cases hf
    | _ => cases hf)
def joinL (z : Str) (ds : List D) : Option D := (strsD ds).bind fun ys => if (ys.map (·.length)).sum + ys.length * z.length ≤ 16777216 then some (.str (Txt.join z ys)) else none
def joinF (z : Str) : D → Option D
  | .list ds => joinL z ds
  | .tuple ds => joinL z ds
  | _ => none
theorem joinL_some {z : Str} {ds : List D} {d : D} (h : joinL z ds = some d) : ∃ ys, ds = ys.map PyData.str ∧ (ys.map (·.length)).sum + ys.length * z.length ≤ 16777216 ∧ d = .str (Txt.join z ys) := by
  unfold joinL at h
  cases e : strsD ds with
  | none => rw [e] at h; cases h
  | some ys =>
    rw [e] at h
    have h : (if (ys.map (·.length)).sum + ys.length * z.length ≤ 16777216 then some (PyData.str (Txt.join z ys)) else none) = some d := h
    split at h
    · next le =>
      cases h
      exact ⟨ys, strsD_eq e, le, rfl⟩
    · cases h
theorem xd_join {o e : Expr} {apos pos : Pos} {f g : Mo R} (ho : XD X n W o f) (he : XD X n W e g) (hs : starEach [e] X.env = [(false, eval e X.env)] := by rfl)
    (hbase : attributeBase o "join" X.env (eval o X.env) = eval o X.env := by rfl) (hline : (apos.endLine == pos.line) = true := by rfl) : XD X n W (.Call (.Attribute o "join" apos) [e] [] pos) (eStrM joinF f g) :=
  weakE (pe_join ho he hs hbase hline) (strM_run fun z y b d H Q hv hf q => by
    cases b with
    | list ds =>
      obtain ⟨ys, rfl, le, rfl⟩ := joinL_some (show joinL z ds = some d from hf)
      obtain ⟨p, xs, rfl, sq, im⟩ := hv.list
      rw [ImL.strs im] at sq
      exact ⟨z, p, ys, rfl, rfl, .inl sq, le, q _ H (Same.refl H) (.str _)⟩
    | tuple ds =>
      obtain ⟨ys, rfl, le, rfl⟩ := joinL_some (show joinL z ds = some d from hf)
      obtain ⟨p, xs, rfl, sq, im⟩ := hv.tuple
      rw [ImL.strs im] at sq
      exact ⟨z, p, ys, rfl, rfl, .inr sq, le, q _ H (Same.refl H) (.str _)⟩
    | _ => cases hf)
end Q
namespace Q
open PySem PySem.Spec PyProof.Rows L2 Gd
variable [Tbl]
variable {X : Cx} {n : Nat} {W : XW}
/-! ### len of a dict -/
def lenK : List D → Option D
  | [.dict ds] => if keysOk ds = true then some (.int ds.length) else none
  | _ => none
theorem c_lenK : CallR X (.builtin "len") (rQN X.K lenK) := by
  rintro pins s σ H xs us Q I r ⟨as, d, hx, e, q⟩
  unfold lenK at e
  split at e
  · next ds =>
    split at e
    · next ok =>
      cases e
      obtain ⟨x, rfl, h⟩ := hx.one
      obtain ⟨n1, n2⟩ := keys_no ok
      have fin : ∀ {a : Addr} {kvs : List (Key × V)}, x = .ref a → Rd H a (.dK kvs) → ImKV X.K H kvs ds → wpAny (model X.prog X.w) X.A (call (.builtin "len") us) (EP X pins σ Q) X.xe s := by
        intro a kvs ex ob im
        subst ex
        obtain ⟨u, rfl, rx⟩ := vals1 r
        cases rx
        rw [← im.len] at q
        exact d_len I ob fun t s' I' => ⟨.int kvs.length, H, I', ⟨t, rfl⟩, q _ H (Same.refl H) (.int _)⟩
      cases h with
      | im h => cases h with
        | dic e im => exact fin rfl (.inr ⟨_, e⟩) im
        | scr _ => exact absurd rfl (n1 _)
        | prm _ _ _ => exact absurd rfl (n2 _ _)
      | dic e im => exact fin rfl (.inl e) im
    · cases e
  · cases e
end Q
namespace Q
open PySem PySem.Spec PyProof.Rows L2 Gd
variable [Tbl]
/-! ### errors: what a raise leaves, what a try keeps -/
section
variable {X : Cx} {pins : List (Addr × Obj)} {σ : L2.St} {H : Hp} {s : Shared}
/-- the thing at a, held so far by a pin alone, is known from now on -/
theorem hold_thing {a : Addr} {oe : Obj} (I : Inv X pins σ H s) (ea : s.heap.get? a = some oe) (fe : ∃ vs, oe.data = .fields vs) (na : H a = none) (n0 : X.s_0.heap.get? a = none) (nL : a ≠ X.env.locals) (np : ∀ p ∈ X.pn ++ pins, p.1 ≠ a) :
    Inv X pins σ (upd H a (.frz oe (.ext fun h => h.get? a = some oe))) s := by
  have old : ∀ {b : Addr} {u : HO}, H b = some u → upd H a (.frz oe (.ext fun h => h.get? a = some oe)) b = some u := fun {b u} q => by
    rw [upd_ne (ne_of_none q na)]
    exact q
  have nw : ∀ {b : Addr}, b ≠ a → H b = none → upd H a (.frz oe (.ext fun h => h.get? a = some oe)) b = none := fun {b} ne q => by
    rw [upd_ne ne]
    exact q
  refine ⟨I.ok, I.os, I.bare, ⟨I.base.keep, I.base.slot, fun b o q n x => ?_, I.base.there, fun b xs q => old (I.base.tups b xs q), fun b o u q => old (I.base.frzs b o u q), fun b ps q => ?_⟩, I.loc, I.cell, nw nL.symm I.free, fun x c q => ?_, fun p hp => ?_, fun b u q => ?_, I.len⟩
  · refine nw (fun z => ?_) (I.base.free b o q n x)
    rw [z, n0] at q
    cases q
  · obtain ⟨m, z⟩ := I.base.tbls b ps q
    exact ⟨m, old z⟩
  · refine nw (fun z => ?_) (I.freeC x c q)
    obtain ⟨v, oc, hc, hd⟩ := I.cell x c q
    rw [z, ea] at hc
    cases hc
    obtain ⟨vs, hv⟩ := fe
    rw [hv] at hd
    cases hd
  · obtain ⟨h1, h2, h3, h4, h5⟩ := I.pin p hp
    exact ⟨h1, nw (np p hp) h2, h3, h4, h5⟩
  · by_cases hb : b = a
    · subst hb
      rw [upd_same] at q
      cases q
      exact ⟨ea, ea, ⟨oe, ea⟩, fun h1 h2 z k => k _ z⟩
    · rw [upd_ne hb] at q
      exact (I.hok b u q).stay (fun _ _ _ z => z) (fun c z => old z) fun c xs z => old z
end
/-- what is wished of an error of a try's body that the clause may keep in slot j -/
def wKeep (K : PySem.W.Frag) (c : Value) (i j : Nat) (Wout : WX) (D : Ends) : WX := fun cls d σ H =>
  ∃ b, PySem.W.exmOne K cls c = some b ∧
    (b = true → ∀ (a : Addr) (oe : Obj), H a = none → Zc cls d oe → (∃ vs, oe.data = .fields vs) → D.nx (((σ.set i (some (.ref a))).set j (some (.ref a))).set i none) (upd H a (.frz oe (.ext fun h => h.get? a = some oe)))) ∧ (b = false → Wout cls d σ H)
section
variable {X : Cx} {x n z : Str} {c : Value} {i j : Nat} {body : List Stmt} {np p1 p2 p3 pos pos' : Pos} {tb : WX → TS} {Wout : WX}
/-- try: body, except x as n: z = n -/
theorem ps_try_keep (hx : X.ex = []) (hs : X.stack = X.env :: X.outer) (hf : X.env.frame = some X.env.locals) (hN : X.N.Nodup) (hi : X.N[i]? = some n) (hj : X.N[j]? = some z) (hln : X.env.kindOf n = some .local) (vn : Vis X.env.scope n) (vz : X.env.scope.names.lookup z = some .local) (hc : Names X x c) (tk : Takes X Wout)
    (hb : ∀ (W : WX) (pn : List (Addr × Obj)) (xe : Value → Shared → Prop), Takes (X.tr pn xe) W → PassesOwn (model X.prog X.w) X.A X.env xe → PSs (X.tr pn xe) body (tb W)) (dn : (n == ("__debug__" : Str)) = false := by decide) (dc : (n == ("__classdict__" : Str)) = false := by decide)
    (sw : swapsWith (.Name n p2) (some (.Name z p1)) p3.line X.env = pure false := by rfl) :
    PS X (.Try body [.ExceptHandler (some (.Name x np)) (some n) [.Assign [.Name z p1] (.Name n p2) p3] pos'] [] [] pos) (fun D σ H => tb (wKeep X.K c i j Wout D) D σ H) := by
  refine ⟨fun pins s σ H D I h => wpAny_Try_except ?_⟩
  have ok := I.ok
  have frames : X.A.frames = some (X.env :: X.outer) := by rw [ok.frames, hs]
  have run := (hb (wKeep X.K c i j Wout D) (X.pn ++ pins) (fun e s₁ => wpAny (model X.prog X.w) X.A (noteFrame e X.env) (fun _ s₂ => wpAny (model X.prog X.w) X.A (setFlight e none) (fun _ s₃ =>
    wpAny (model X.prog X.w) X.A (handleBy e X.env [.ExceptHandler (some (.Name x np)) (some n) [.Assign [.Name z p1] (.Name n p2) p3] pos']) (SP X pins D) X.xe s₃) X.xe s₂) X.xe s₁) ?taken PassesOwn.looking).run [] s σ H D (I.toTry _) h
  case taken =>
    rintro u s1 ⟨a, B, s0, q0, σ1, H1, cls, d, rfl, J0, nb, up, sky, na, os, ag, b, eb, yes, no⟩
    have J : Inv X pins σ1 H1 s0 := J0.ofTry ok
    rw [hs] at sky
    refine Sky.land Zc.steady frames hf sky fun h3 fl up3 => ?_
    have J3 : Inv X pins σ1 H1 { s1 with heap := h3 } := J.landed nb fl.1 (up.trans up3) os ag
    obtain ⟨o3, v3, a3, z3, f3⟩ := fl.there
    have out : ∀ {h' : Heap} {o : Obj} {vs : Array Value}, h'.FunFrames B (X.env :: X.outer) → h'.get? a = some o → o.data = .fields vs → a ∉ frs (X.env :: X.outer) := fun {h' o vs} ff e dd m => by
      obtain ⟨_, o', e', hn⟩ := ff.mem m
      rw [e] at e'
      cases e'
      exact hn _ dd
    have nst := out fl.2.2.1 a3 f3
    have nL : a ≠ X.env.locals := fun y => nst (List.mem_filterMap.mpr ⟨X.env, List.mem_cons_self, by rw [hf, y]⟩)
    have nF : a ∉ X.fs := fun m => by
      obtain ⟨e, he, q⟩ := List.mem_filterMap.mp m
      exact nst (List.mem_filterMap.mpr ⟨e, List.mem_cons_of_mem _ he, q⟩)
    have nB : B.get? a = none := fl.2.1
    have nI : s0.heap.get? a = none := by
      cases q : s0.heap.get? a with
      | none => rfl
      | some o =>
        rw [nb a o q (by rw [hs]; exact nst)] at nB
        cases nB
    have n0 : X.s_0.heap.get? a = none := by
      cases q : X.s_0.heap.get? a with
      | none => rfl
      | some o =>
        obtain ⟨o', y⟩ := J.base.there a o q (by rw [hx]; exact fun w => nomatch w)
        rw [nI] at y
        cases y
    have npin : ∀ p ∈ X.pn ++ pins, p.1 ≠ a := fun p hp y => by
      obtain ⟨e, _⟩ := J.pin p hp
      rw [y, nI] at e
      cases e
    have S3 := J3.suite a3 f3 na nL nF
    refine wpAny_handleBy_cons (codeAny_handlers_test ?_) (by intro w; cases w)
    have LT : PySem.W.Looks (model X.prog X.w) h3 (typeOf (.ref a)) cls := fun A Q E s k q => wpAny_typeOf_ref (k _ _ a3) (by rw [z3.1]; exact q)
    have LM := PySem.W.exm_one (M := model X.prog X.w) J3.kIn LT eb
    have ask : ∀ {Q E : Value → Shared → Prop}, Q c { s1 with heap := h3 } → wpAny (model X.prog X.w) (X.A.mark (some (.ref a))) (eval (.Name x np) X.env) Q E { s1 with heap := h3 } := fun {Q E} q => by
      rcases hc with ⟨g, dbg, m | ⟨m, v, nn⟩⟩
      · exact ld_glob (X := X.suite a ((a, o3) :: (X.pn ++ pins))) S3 g m q dbg
      · exact ld_blt (X := X.suite a ((a, o3) :: (X.pn ++ pins))) S3 g m v q nn dbg
    refine ask (LM.here ?_)
    cases b with
    | false =>
      show wpAny _ X.A (handleBy (.ref a) X.env []) _ _ _
      refine wpAny_handleBy_nil ?_
      obtain ⟨_, _, _, oe, vs, T, oT, ts, he, _, hd, h1, _⟩ := id fl
      unfold PySem.passOn
      refine wpAny_bind (wpAny_field he hd h1 ?_)
      rw [if_neg (show ¬ ((Value.ref T == Value.none) = true) by simp)]
      have go : wpAny (model X.prog X.w) X.A (setFlight (.ref a) X.env.frame) (fun _ s4 => wpAny (model X.prog X.w) X.A (throw (.ref a) : Sem Flow) (SP X pins D) X.xe s4) X.xe { s1 with heap := h3 } := by
        rw [hf]
        exact HandSPX.setFlight_upZ fl fun h4 hh up4 => wpAny_throw (tk _ _ ⟨a, B, s0, pins, σ1, H1, cls, d, rfl, J, nb, (up.trans up3).trans up4, .inr (.inr (by rw [hs]; exact hh)), na, os, ag, no rfl⟩)
      first
        | exact wpAny_bind (wpAny_pure (wpAny_bind go))
        | exact wpAny_bind go
    | true =>
      refine codeAny_handlers_suite_as (HandSPX.lands_againZ fl fun h4 fl4 up4 => ?_)
      have J4 : Inv X pins σ1 H1 { s1 with heap := h4 } := J.landed nb fl4.1 ((up.trans up3).trans up4) os ag
      obtain ⟨o4, v4, a4, z4, f4⟩ := fl4.there
      have S4 := J4.suite a4 f4 na nL nF
      refine store_ok (X := X.suite a ((a, o4) :: (X.pn ++ pins))) (v := .ref a) S4 hN hi (.inl hln) rfl (fun s5 S5 => ?_) (.inr hln)
      have ii : i < σ1.length := by
        have l1 := S4.len
        have l2 := (List.getElem?_eq_some_iff.mp hi).1
        have l1 : σ1.length = X.N.length := l1
        omega
      have st : PSs (X.suite a ((a, o4) :: (X.pn ++ pins))) [.Assign [.Name z p1] (.Name n p2) p3] _ := pss_one (ps_asg (X := X.suite a ((a, o4) :: (X.pn ++ pins))) (pe_var (i := i) hi vn dn dc) (pg_name (X := X.suite a ((a, o4) :: (X.pn ++ pins))) (i := j) hN hj (.inl vz) (.inr vz)))
      refine wpAny_mono (st.run [] s5 _ H1 { nx := fun σ' H' => σ' = (σ1.set i (some (.ref a))).set j (some (.ref a)) ∧ H' = H1, rt := fun _ _ => False } S5 ⟨.ref a, set_at ii, rfl, rfl⟩) (fun f s6 hsp => ?_) fun _ _ w => w.elim
      cases f with
      | next =>
        obtain ⟨σ6, H6, S6, rfl, rfl⟩ := hsp
        obtain ⟨e6, _⟩ := S6.pin (a, o4) (List.mem_append_left _ List.mem_cons_self)
        have J6 := hold_thing (S6.unsuite ok) e6 ⟨_, f4⟩ na n0 nL npin
        exact gone_ok J6 hN hi hln fun s7 J7 => ⟨_, _, J7, yes rfl a o4 na z4 ⟨_, f4⟩⟩
      | brk =>
        obtain ⟨_, _, _, w⟩ := hsp
        exact w.elim
      | cont =>
        obtain ⟨_, _, _, w⟩ := hsp
        exact w.elim
      | ret u =>
        obtain ⟨_, _, _, _, _, w⟩ := hsp
        exact w.elim
  refine wpAny_mono run (fun f s1 hsp => ?_) fun e s1 w => w
  cases f with
  | next =>
    obtain ⟨σ', H', J, q⟩ := hsp
    exact wpAny_execs_nil ⟨σ', H', J.ofTry ok, q⟩
  | brk =>
    obtain ⟨σ', H', J, q⟩ := hsp
    exact ⟨σ', H', J.ofTry ok, q⟩
  | cont =>
    obtain ⟨σ', H', J, q⟩ := hsp
    exact ⟨σ', H', J.ofTry ok, q⟩
  | ret u =>
    obtain ⟨v, σ', H', J, r, q⟩ := hsp
    exact ⟨v, σ', H', J.ofTry ok, r, q⟩
end
end Q
namespace Q
open PySem PySem.Spec PyProof.Rows L2 Gd
variable [Tbl]
/-! ### defs that may raise -/
def errD (f : Str) (d : D) : D := .tuple [.str f, d]
/-- a wish about an error's class and field, as a wish about its class and dict -/
def wE (K : PySem.W.Frag) (Wx : WX) : XW := fun c d σ H => ∀ (C dd : Addr) (f : Str) (v : V) (d' : D), d = errD f d' → PySem.W.nsIn K mainGlobals c = some (some (.ref C)) → H dd = some (.xd [(f, v)]) → Im K H v d' → Wx (.ref C) (some dd) σ H
structure FnGX (P : Program) (w : World) (K : PySem.W.Frag) (mg : Str → Option Value) (base : Heap) (k : Nat) (f : Addr) (fd : FuncData) (ps : List Str) (sp : Sp) : Prop where
  len : ∀ vs H Q E, sp vs H Q E → vs.length = ps.length
  go : ∀ {A : Around} {outer : List Env} {s : Shared} {H : Hp} {args : Args} {us : List Value} {vs : List V} {Q : VK} {E : XK}, A.guards = some [] → Room k A →
    Env0 P w K mg base A outer s H → BindsTo s fd args (ps.zip us) → Vals vs us → sp vs H Q E → codeAny (model P w) A (.call (.ref f) args) (CR (L2.CX P w) outer P w H s Q E) s
section
variable {P : Program} {w : World} {K : PySem.W.Frag} {mg : Str → Option Value} {base : Heap} {k : Nat} {f : Addr} {fd : FuncData} {ps : List Str} {sp : Sp}
theorem okGX {x qual : Str} {st : Stmt} {N : List Str} (F : Fun K x qual st f fd) (S : FnScope N ps (defScope st)) (len : ∀ vs H Q E, sp vs H Q E → vs.length = ps.length)
    (B : ∀ (cdv : Value) (A : Around) (outer : List Env) (s : Shared) (H : Hp) (vs : List V) (Q : VK) (E : XK), A.guards = some [] → Room k (A.deeper (envOfC qual (defScope st) s.heap.objs.size f cdv)) → sp vs H Q E →
      ∃ t, PSs (cxOf (L2.CX P w) P w K mg base N qual (defScope st) f cdv A outer s H E) (defBody st) t ∧ t { nx := fun _ H' => Q .non H', rt := Q } (start N vs) H) : FnGX P w K mg base (k + 1) f fd ps sp := by
  obtain ⟨oc, od, kV, doc, pm, an, cdv, ct, osl, rfl, lk, hcd⟩ := F.ex
  refine ⟨len, fun {A outer s H args us vs Q E} g room env0 bt rel want => ?_⟩
  have kin : K.In s.heap := env0.mod.kin.keeps fun b o q => (env0.bs b o q).1
  have nol : s.heap.NoLimit := env0.mod.nolimit.keeps fun b o q => (env0.bs b o q).1
  refine codeAny_call_function room.depth (kin _ _ lk) rfl S.co S.gen rfl (PySem.W.codeRec_of kin hcd) (bt _ _ _ _ ?_)
  refine wpAny_newFunctionEnv_cells S.kind ?_ fun env ee s1 inn => ?_
  · rintro ⟨n, v⟩ hy
    refine (S.par n (List.of_mem_zip hy).1).elim Or.inl fun q => Or.inr ⟨q, ?_⟩
    exact PySem.W.cellsFrom_some _ _ _ (Or.inl q)
  subst ee
  refine ⟨nol.keeps inn.toInCall.keep, codeAny_func ?_⟩
  obtain ⟨t, ht, hq⟩ := B cdv A outer s H vs Q E g (room.deeper _) want
  have I0 := inv_start (CX := L2.CX P w) (E := E) S room.hd env0 (len _ _ _ _ want) rel inn
  refine wpAny_mono (ht.run [] s1 (start N vs) H _ I0 hq) (fun fl s' z => ?_) fun _ _ z => z
  cases fl with
  | ret u =>
    obtain ⟨v, σ', H', J, rv, q⟩ := z
    exact ⟨v, H', J.os, J.bare, J.base, J.hok, rv, q⟩
  | next =>
    obtain ⟨σ', H', J, q⟩ := z
    exact ⟨V.non, H', J.os, J.bare, J.base, J.hok, rfl, q⟩
  | brk => exact z.elim fun _ z => z.elim fun _ z => z.2.elim
  | cont => exact z.elim fun _ z => z.elim fun _ z => z.2.elim
end
section
variable {X : Cx} {k : Nat} {f : Addr} {fd : FuncData} {ps : List Str} {sp : Sp} {x : Str} {p pos : Pos} {e : Expr} {es : List Expr} {t : TA} {Wx : WX}
/-- f(e, ..) of such a def: what it raises is wished for at the caller's slots -/
def tCallX (Wx : WX) (sp : Sp) (t : TA) : TE := fun σ H Q => t σ H fun vs H1 => sp vs H1 Q fun cls d H' => Wx cls d σ H'
theorem pe_callGX (F : FnGX X.prog X.w X.K X.mg X.base k f fd ps sp) (tk : Takes X Wx) (g : X.A.guards = some []) (room : Room k X.A) (hg : Gl X x) (hm : X.mg x = some (.ref f)) (hk : PySem.W.keepIn X.K (.ref f) = true) (hb : Binds X.K fd ps [])
    (ha : PA X (e :: es) t) (hdb : (x == ("__debug__" : Str)) = false := by decide) (he : starEach (e :: es) X.env = (false, eval e X.env) :: starEach es X.env := by rfl) (hpl : (backTo pos (starEach es X.env)).any (·.1) = false := by rfl) :
    PE X (.Call (.Name x p) (e :: es) [] pos) (tCallX Wx sp t) := ⟨fun pins s σ H Q I h => by
  refine wpAny_Call_Name_kw (ld_glob I hg hm ?_ hdb)
  refine PySem.W.callWith_K (h₀ := X.base) I.ok.mod.kin hk (thn (ha.run pos pins s σ H _ I h) ?_) he hpl
  rintro us s1 ⟨vs, H1, I1, r, q⟩
  refine ⟨I1.kIn, ?_⟩
  have r0 : Vals (vs ++ []) (us ++ []) := r.append .nil
  have z := F.len _ _ _ _ q
  have r1 : Vals vs (us ++ []) := by
    rw [List.append_nil]
    exact r
  have z : (us ++ []).length = ps.length := by
    rw [← z]
    exact r1.length.symm
  refine wpAny_call (codeAny_mono (F.go g room I1.env0 (hb s1 us I1.kIn z) r1 q) fun res s' hq => ?_)
  cases res with
  | error u => exact tk _ _ (XE.of_call I1 (fun cls d H' w => w) hq)
  | ok fl =>
    cases fl with
    | ret u => exact I1.after hq
    | next => exact False.elim hq
    | brk => exact False.elim hq
    | cont => exact False.elim hq⟩
end
def OutX (K : PySem.W.Frag) (vs : List V) (H : Hp) (as : List Sl) (r : Rt Sl) (Q : VK) (E : XK) : Prop := match r with
  | .no => False
  | .ok s as' => ∀ v H', Stp K vs.length H (vs.map some) as H' (vs.map some) as' → SR K H H' (vs.map some) as' v s → Q v H'
  | .ex c d as' => ∀ H', Stp K vs.length H (vs.map some) as H' (vs.map some) (as'.take vs.length) → wE K (fun cls dd _ H => E cls dd H) c d [] H'
def spX (K : PySem.W.Frag) (F : Fn) : Sp := fun vs H Q E => ∃ as, Good K H (vs.map some) as ∧ OutX K vs H as (F as) Q E
@[simp] def outX (n : Nat) : Rt Out → Rt Sl
  | .ok o ρ => fin n ρ o
  | .ex c d ρ => .ex c d ρ
  | .no => .no
@[simp] def fnX (n N : Nat) (b : Mo Out) : Fn := fun as => if as.length = n then outX n (b (as ++ List.replicate (N - n) .no)) else .no
section
variable {P : Program} {w : World} {K : PySem.W.Frag} {mg : Str → Option Value} {base : Heap} {k : Nat} {f : Addr} {fd : FuncData}
theorem okDX {x qual : Str} {st : Stmt} {N ps : List Str} {b : Mo Out} (F : Fun K x qual st f fd) (S : FnScope N ps (defScope st)) (hN : ps.length ≤ N.length)
    (B : ∀ (cdv : Value) (A : Around) (outer : List Env) (s : Shared) (H : Hp) (E : XK), A.guards = some [] → Room k (A.deeper (envOfC qual (defScope st) s.heap.objs.size f cdv)) →
      XSs (cxOf (L2.CX P w) P w K mg base N qual (defScope st) f cdv A outer s H E) ps.length (wE K fun cls d _ H' => E cls d H') (defBody st) b) : FnGX P w K mg base (k + 1) f fd ps (spX K (fnX ps.length N.length b)) := by
  have lenF : ∀ {vs : List V} {as : List Sl} {H : Hp} {Q : VK} {E : XK}, OutX K vs H as (fnX ps.length N.length b as) Q E → as.length = ps.length := fun {vs as H Q E} e => by
    unfold fnX at e
    split at e
    · next l => exact l
    · exact e.elim
  refine okGX F S (fun vs H Q E ⟨as, G, e⟩ => ?_) (fun cdv A outer s0 H vs Q E hg hr h => ?_)
  · have := G.len
    rw [List.length_map, lenF e] at this
    exact this
  · obtain ⟨as, G, e⟩ := h
    have la := lenF e
    have lv : vs.length = ps.length := by
      have := G.len
      rw [List.length_map, la] at this
      exact this
    refine ⟨_, B cdv A outer s0 H E hg hr, as ++ List.replicate (N.length - ps.length) .no, ?_, ?_⟩
    · unfold L2.start
      rw [lv]
      exact G.pad _
    · unfold fnX at e
      rw [if_pos la] at e
      have st0 : L2.start N vs = vs.map some ++ List.replicate (N.length - ps.length) none := by
        unfold L2.start
        rw [lv]
      rw [st0]
      have unp : ∀ {σ' : St} {H' : Hp} {ρ' : Ev}, Stp K ps.length H (vs.map some ++ List.replicate (N.length - ps.length) none) (as ++ List.replicate (N.length - ps.length) .no) H' σ' ρ' → ps.length ≤ ρ'.length := fun {σ' H' ρ'} s => by
        rcases Nat.lt_or_ge ρ'.length ps.length with lt | ge
        · exfalso
          have l1 := s.good.len
          have := (s.par ρ'.length lt).1
          rw [List.getElem?_eq_none (by omega), List.getElem?_append_left (by rw [List.length_map, lv]; exact lt), List.getElem?_map, List.getElem?_eq_getElem (by omega)] at this
          cases this
        · exact ge
      show AftS K ps.length (wE K fun cls d _ H' => E cls d H') { nx := fun _ H' => Q .non H', rt := Q } H (vs.map some ++ List.replicate (N.length - ps.length) none) (as ++ List.replicate (N.length - ps.length) .no) (b (as ++ List.replicate (N.length - ps.length) .no))
      generalize b (as ++ List.replicate (N.length - ps.length) .no) = z at e
      cases z with
      | no => exact e.elim
      | ex c d ρ' =>
        intro σ' H' st
        have e : ∀ H', Stp K vs.length H (vs.map some) as H' (vs.map some) (ρ'.take vs.length) → wE K (fun cls dd _ H => E cls dd H) c d [] H' := e
        rw [lv] at e
        exact e H' (st.unpad G la (unp st))
      | ok o ρ' =>
        have e : OutX K vs H as (fin ps.length ρ' o) Q E := e
        cases o with
        | bk => exact e.elim
        | ct => exact e.elim
        | nx =>
          intro σ' H' s
          have e : ∀ v H', Stp K vs.length H (vs.map some) as H' (vs.map some) (ρ'.take ps.length) → SR K H H' (vs.map some) (ρ'.take ps.length) v (.dat .none) → Q v H' := e
          rw [lv] at e
          exact e _ _ (s.unpad G la (unp s)) (.dat .non)
        | rf o =>
          intro p u σ' H' st np ep r no
          have e : ∀ v H', Stp K vs.length H (vs.map some) as H' (vs.map some) (ρ'.take ps.length) → SR K H H' (vs.map some) (ρ'.take ps.length) v (.own o) → Q v H' := e
          rw [lv] at e
          refine e _ _ (st.unpad G la (unp st)) (.own np ep r fun z => no ?_)
          obtain ⟨j, o1, ej, es⟩ := z
          obtain ⟨lj, ej⟩ := take_some ej
          exact ⟨j, o1, ej, by rw [(st.par j lj).1, List.getElem?_append_left (by rw [List.length_map, lv]; exact lj)]; exact es⟩
        | rt r =>
          intro v σ' H' st rv
          cases rv with
          | @d x im =>
            have e : ∀ v H', Stp K vs.length H (vs.map some) as H' (vs.map some) (ρ'.take ps.length) → SR K H H' (vs.map some) (ρ'.take ps.length) v (.dat x) → Q v H' := e
            rw [lv] at e
            exact e _ _ (st.unpad G la (unp st)) (.dat im)
          | @v i ei =>
            unfold fin at e
            dsimp only at e
            split at e
            · next le =>
              split at e
              · next o eo =>
                have e : ∀ v H', Stp K vs.length H (vs.map some) as H' (vs.map some) (ρ'.take ps.length) → SR K H H' (vs.map some) (ρ'.take ps.length) v (.own o) → Q v H' := e
                rw [lv] at e
                obtain ⟨p, u, e1, e2, r⟩ := st.good.own i o eo
                rw [ei] at e1
                cases e1
                refine e _ _ (st.unpad G la (unp st)) (.own ?_ e2 r fun z => ?_)
                · rcases st.news p ⟨i, o, eo, ei⟩ with z | z
                  · exfalso
                    obtain ⟨j, o1, ej, es⟩ := z.pad G.len
                    have lj : j < ps.length := by
                      have := (List.getElem?_eq_some_iff.mp ej).1
                      omega
                    obtain ⟨o2, e2⟩ := (st.par j lj).2 o1 (by rw [List.getElem?_append_left (by omega)]; exact ej)
                    have e3 : σ'[j]? = some (some (.ref p)) := by rw [(st.par j lj).1, List.getElem?_append_left (by rw [List.length_map, lv]; exact lj)]; exact es
                    have := st.good.dif i j o o2 p eo e2 ei e3
                    omega
                  · exact z
                · obtain ⟨j, o1, ej, es⟩ := z
                  obtain ⟨lj, ej⟩ := take_some ej
                  have e3 : σ'[j]? = some (some (.ref p)) := by rw [(st.par j lj).1, List.getElem?_append_left (by rw [List.length_map, lv]; exact lj)]; exact es
                  have := st.good.dif i j o o1 p eo ej ei e3
                  omega
              · exact e.elim
            · exact e.elim
end
/-! ### calls of such defs -/
@[simp] def applyX (F : Fn) (rs : List R) (ρ : Ev) : Rt Sl := match argS ρ rs with
  | none => .no
  | some as => if nodupB (vIdx rs) = true then (match F as with
      | .ok s as' => .ok s (backE ρ rs as')
      | .ex c d as' => .ex c d (backE ρ rs (as'.take rs.length))
      | .no => .no) else .no
@[simp] def eCallX (F : Fn) (m : Mo (List R)) : Mo R := fun ρ => (m ρ).bind fun rs ρ1 => (applyX F rs ρ1).bind fun s ρ2 => match s with
  | .dat x => .ok (.d x) ρ2
  | _ => .no
@[simp] def fCallX (F : Fn) (m : Mo (List R)) : Mo Ob := fun ρ => (m ρ).bind fun rs ρ1 => (applyX F rs ρ1).bind fun s ρ2 => match s with
  | .own o => .ok o ρ2
  | _ => .no
section
variable {X : Cx} {n : Nat} {W : XW} {k : Nat} {f : Addr} {fd : FuncData} {ps : List Str} {x : Str} {p pos : Pos} {e : Expr} {es : List Expr} {m : Mo (List R)} {F : Fn} {Wx : WX}
theorem xd_callX (tk : Takes X Wx) (hW : ∀ c d σ H, W c d σ H → wE X.K Wx c d σ H) (G : FnGX X.prog X.w X.K X.mg X.base k f fd ps (spX X.K F)) (g : X.A.guards = some []) (room : Room k X.A) (hg : Gl X x) (hm : X.mg x = some (.ref f)) (hk : PySem.W.keepIn X.K (.ref f) = true) (hb : Binds X.K fd ps [])
    (ha : XA X n W (e :: es) m) (hdb : (x == ("__debug__" : Str)) = false := by decide) (he : starEach (e :: es) X.env = (false, eval e X.env) :: starEach es X.env := by rfl) (hpl : (backTo pos (starEach es X.env)).any (·.1) = false := by rfl) :
    XD X n W (.Call (.Name x p) (e :: es) [] pos) (eCallX F m) := weakE (pe_callGX (Wx := Wx) G tk g room hg hm hk hb ha hdb he hpl) fun σ H Q ⟨ρ, Gd, h⟩ => by
  refine ⟨ρ, Gd, (Aft.bind h).mono fun rs ρ1 H1 s1 h1 vs rvs => ?_⟩
  unfold applyX at h1
  cases ea : argS ρ1 rs with
  | none =>
    rw [ea] at h1
    exact h1.elim
  | some as =>
    rw [ea] at h1
    dsimp only at h1
    split at h1
    · next nd =>
      have nd := nodupB_iff nd
      refine ⟨as, args_good s1.good rvs ea nd, ?_⟩
      generalize F as = r at h1
      cases r with
      | no => exact h1.elim
      | ex c d as' =>
        intro H' st C dd ff v d' e1 e2 e3 e4
        rw [rvs.len] at st
        exact hW _ _ _ _ (h1 H' (call_stp s1.good rvs ea nd (by rw [rvs.len]; exact st)).1) C dd ff v d' e1 e2 e3 e4
      | ok s as' =>
        cases s with
        | no => exact h1.elim
        | exc _ _ _ => exact h1.elim
        | own o => exact h1.elim
        | dat d =>
          intro v H' st sr
          cases sr with
          | dat im => exact h1 H' (call_stp s1.good rvs ea nd st).1 v (.d im)
    · exact h1.elim
theorem xf_callX (tk : Takes X Wx) (hW : ∀ c d σ H, W c d σ H → wE X.K Wx c d σ H) (G : FnGX X.prog X.w X.K X.mg X.base k f fd ps (spX X.K F)) (g : X.A.guards = some []) (room : Room k X.A) (hg : Gl X x) (hm : X.mg x = some (.ref f)) (hk : PySem.W.keepIn X.K (.ref f) = true) (hb : Binds X.K fd ps [])
    (ha : XA X n W (e :: es) m) (hdb : (x == ("__debug__" : Str)) = false := by decide) (he : starEach (e :: es) X.env = (false, eval e X.env) :: starEach es X.env := by rfl) (hpl : (backTo pos (starEach es X.env)).any (·.1) = false := by rfl) :
    XF X n W (.Call (.Name x p) (e :: es) [] pos) (fCallX F m) := weakE (pe_callGX (Wx := Wx) G tk g room hg hm hk hb ha hdb he hpl) fun σ H Q ⟨ρ, Gd, h⟩ => by
  refine ⟨ρ, Gd, (Aft.bind h).mono fun rs ρ1 H1 s1 h1 vs rvs => ?_⟩
  unfold applyX at h1
  cases ea : argS ρ1 rs with
  | none =>
    rw [ea] at h1
    exact h1.elim
  | some as =>
    rw [ea] at h1
    dsimp only at h1
    split at h1
    · next nd =>
      have nd := nodupB_iff nd
      refine ⟨as, args_good s1.good rvs ea nd, ?_⟩
      generalize F as = r at h1
      cases r with
      | no => exact h1.elim
      | ex c d as' =>
        intro H' st C dd ff v d' e1 e2 e3 e4
        rw [rvs.len] at st
        exact hW _ _ _ _ (h1 H' (call_stp s1.good rvs ea nd (by rw [rvs.len]; exact st)).1) C dd ff v d' e1 e2 e3 e4
      | ok s as' =>
        cases s with
        | no => exact h1.elim
        | exc _ _ _ => exact h1.elim
        | dat o => exact h1.elim
        | own o =>
          intro v H' st sr
          cases sr with
          | own np ep r no =>
            obtain ⟨st2, bk⟩ := call_stp (n := n) s1.good rvs ea nd st
            exact h1 H' st2 _ _ (s1.live _ np) ep r fun z => new_own s1.good np (bk _ z)
    · exact h1.elim
end
end Q
namespace Q
open PySem PySem.Spec PyProof.Rows L2 Gd
variable [Tbl]
/-! ### an error's class: what the written part says of it -/
structure ExcT (K : PySem.W.Frag) (mg : Str → Option Value) (c f : Str) (C fI : Addr) : Prop where
  gC : mg c = some (.ref C)
  nC : PySem.W.nsIn K mainGlobals c = some (some (.ref C))
  ox : OexC K C
  noN : PySem.W.findIn K (.ref C) f = some none
  iC : PySem.W.findIn K (.ref C) "__init__" = some (some (.ref fI))
  tI : PySem.W.typeIn K (.ref fI) = some (.type "function")
  xf : XfC K C
  cl : (PySem.W.clsIn K C).isSome = true
  ca : PySem.W.findIn K (.ref C) "__class__" = some (some (.builtin "object.__class__"))
  mo : PySem.W.mroIn K C (.type "object") = some true
/-- what of the built-in part isinstance asks -/
structure ExcB (K : PySem.W.Frag) : Prop where
  hn : PySem.W.specialIn K (.builtin "object.__class__") "__get__" = some (some (.builtin "getset_descriptor.__get__"))
  ht : PySem.W.takesIn K (.builtin "object.__class__") = some true
/-- self.f = f in __init__ -/
def spIni (C : Addr) (f : Str) : Sp := fun vs H Q _ => ∃ (a : Addr) (y : V), vs = [.ref a, y] ∧ H a = some (exo a C none) ∧ ∀ dx, H dx = none → dx ≠ a → Q .non (upd (upd H dx (exd dx [(f, y)])) a (exo a C (some dx)))
section
variable {P : Program} {w : World} {K : PySem.W.Frag} {mg : Str → Option Value} {base : Heap} {fI C : Addr} {fd : FuncData} {c f : Str}
theorem ok_ini {qual : Str} {st : Stmt} {q1 q2 q3 q4 : Pos} (F : Fun K "__init__" qual st fI fd) (S : FnScope ["self", f] ["self", f] (defScope st)) (hb : defBody st = [.Assign [.Attribute (.Name "self" q1) f q2] (.Name f q3) q4]) (T : ExcT K mg c f C fI)
    (d1 : (f == ("__debug__" : Str)) = false) (d2 : (f == ("__classdict__" : Str)) = false) : FnOk P w K mg base (L2.CX P w) 1 fI fd ["self", f] (spIni C f) :=
  F.okX S (fun vs H Q E h => by
    obtain ⟨a, y, rfl, _⟩ := h
    rfl) fun cdv A outer s H vs Q E hr h => by
    obtain ⟨a, y, rfl, ea, q⟩ := h
    have v1 : Vis (defScope st) "self" := (S.par "self" (by simp)).elim .inl fun z => .inr (.inl z)
    have v2 : Vis (defScope st) f := (S.par f (by simp)).elim .inl fun z => .inr (.inl z)
    rw [hb]
    refine ⟨_, pss_one (ps_ost (pe_var (i := 0) rfl v1) (pe_var (i := 1) rfl v2 d1 d2)), ?_⟩
    exact ⟨y, rfl, .ref a, rfl, a, C, rfl, T.ox, T.noN, .inl ⟨ea, q⟩⟩
end
@[simp] def bRaise (c f : Str) (m : Mo (List R)) : Mo Out := fun ρ => (m ρ).bind fun rs ρ1 => match datas rs with
  | some [x] => .ex c (errD f x) ρ1
  | _ => .no
section
variable {X : Cx} {n : Nat} {W : XW} {Wx : WX} {c f : Str} {C fI : Addr} {fd : FuncData} {k : Nat} {e : Expr} {p pos pos2 : Pos} {m : Mo (List R)}
theorem xs_raise (hc : X.calm = true) (tk : Takes X Wx) (hW : ∀ c d σ H, W c d σ H → wE X.K Wx c d σ H) (T : ExcT X.K X.mg c f C fI) (F1 : FnOk X.prog X.w X.K X.mg X.base (L2.CX X.prog X.w) k fI fd ["self", f] (spIni C f)) (hb : Binds X.K fd ["self", f] [])
    (hr : Room (k + 1) X.A) (hg : Gl X c) (ha : XA X n W [e] m) (hdb : (c == ("__debug__" : Str)) = false := by decide) (he : starEach [e] X.env = (false, eval e X.env) :: starEach [] X.env := by rfl) (hpl : (backTo pos (starEach [] X.env)).any (·.1) = false := by rfl) :
    XS X n W (.Raise (some (.Call (.Name c p) [e] [] pos)) none pos2) (bRaise c f m) :=
  weakS (ps_raise hc tk (pmk_oex T.ox T.iC T.tI F1 hr hb (dvs := []) .nil L2.passL hg T.gC ha hdb he hpl)) fun E σ H ⟨ρ, G, h⟩ => by
    refine ⟨ρ, G, (AftS.bind h).mono fun rs ρ1 H1 s1 h1 vs rvs => ?_⟩
    split at h1
    · next x ed =>
      have im := rvs.datas ed
      cases im with
      | @cons v _ _ _ im r =>
        cases r
        refine ⟨by show 1 ≤ 1000; decide, fun a na => ⟨a, v, rfl, upd_same, fun dx nd ne => ⟨rfl, dx, [(f, v)], upd_same, by rw [upd_ne ne, upd_same], by rw [upd_ne ne] at nd; exact nd, ?_⟩⟩⟩
        have nd1 : H1 dx = none := by
          rw [upd_ne ne] at nd
          exact nd
        have eq : upd (del (upd (upd (upd H1 a (exo a C none)) dx (exd dx [(f, v)])) a (exo a C (some dx))) a) dx (.xd [(f, v)]) = upd H1 dx (.xd [(f, v)]) := by
          funext b
          by_cases h1 : b = dx
          · rw [h1, upd_same, upd_same]
          · rw [upd_ne h1, upd_ne h1]
            by_cases h2 : b = a
            · rw [h2, del_same, na]
            · rw [del_ne h2, upd_ne h2, upd_ne h1, upd_ne h2]
        rw [eq]
        have sm : Same H1 (upd H1 dx (.xd [(f, v)])) := same_upd nd1
        exact hW _ _ _ _ (h1 _ _ (Stp.same s1.good sm)) C dx f v x rfl T.nC upd_same (im.same sm)
    · exact h1.elim
end
/-! ### a try that keeps its error -/
section
variable {K : PySem.W.Frag} {n : Nat} {H H' : Hp} {σ σ' : L2.St} {ρ ρ' : Ev}
theorem Stp.set_exc (s : Stp K n H σ ρ H' σ' ρ') {i : Nat} (hn : n ≤ i) (hi : i < ρ'.length) {a : Addr} {c f : Str} {d : D} (x : ExcAt K H' a c f d) : Stp K n H σ ρ H' (σ'.set i (some (.ref a))) (ρ'.set i (.exc c f d)) := by
  have his : i < σ'.length := by
    rw [s.good.len]
    exact hi
  have G := s.good
  have ow : ∀ p, Own (σ'.set i (some (.ref a))) (ρ'.set i (.exc c f d)) p → Own σ' ρ' p := fun p h => by
    obtain ⟨j, o, e1, e2⟩ := h
    by_cases z : i = j
    · subst z
      rw [set_at hi] at e1
      cases e1
    · rw [set_ne z] at e1 e2
      exact ⟨j, o, e1, e2⟩
  have get : ∀ {j : Nat} {t : Sl}, (ρ'.set i (.exc c f d))[j]? = some t → (i = j ∧ t = .exc c f d) ∨ (i ≠ j ∧ ρ'[j]? = some t) := fun {j t} h => by
    by_cases z : i = j
    · subst z
      rw [set_at hi] at h
      cases h
      exact .inl ⟨rfl, rfl⟩
    · rw [set_ne z] at h
      exact .inr ⟨z, h⟩
  refine ⟨⟨by rw [List.length_set, List.length_set, G.len], fun j e h => ?_, fun j o h => ?_, fun j k o o' p h1 h2 h3 h4 => ?_, G.tab, fun j c' f' e h => ?_⟩, fun j hj => ?_, s.kept, fun p h => s.news p (ow p h), s.live⟩
  · rcases get h with ⟨_, z⟩ | ⟨z, h⟩
    · cases z
    · rw [set_ne z]
      exact G.dat j e h
  · rcases get h with ⟨_, z⟩ | ⟨z, h⟩
    · cases z
    · rw [set_ne z]
      exact G.own j o h
  · rcases get h1 with ⟨_, z⟩ | ⟨z1, h1⟩
    · cases z
    · rcases get h2 with ⟨_, z⟩ | ⟨z2, h2⟩
      · cases z
      · rw [set_ne z1] at h3
        rw [set_ne z2] at h4
        exact G.dif j k o o' p h1 h2 h3 h4
  · rcases get h with ⟨z, y⟩ | ⟨z, h⟩
    · cases y
      rw [← z]
      exact ⟨a, set_at his, x⟩
    · rw [set_ne z]
      exact G.exc j c' f' e h
  · have ne : i ≠ j := by omega
    rw [set_ne ne, set_ne ne]
    exact s.par j hj
theorem Stp.set_no (s : Stp K n H σ ρ H' σ' ρ') {i : Nat} (hn : n ≤ i) (hi : i < ρ'.length) : Stp K n H σ ρ H' (σ'.set i none) (ρ'.set i .no) := by
  have G := s.good
  have get : ∀ {j : Nat} {t : Sl}, (ρ'.set i .no)[j]? = some t → t ≠ .no → i ≠ j ∧ ρ'[j]? = some t := fun {j t} h ne => by
    by_cases z : i = j
    · subst z
      rw [set_at hi] at h
      cases h
      exact absurd rfl ne
    · rw [set_ne z] at h
      exact ⟨z, h⟩
  have ow : ∀ p, Own (σ'.set i none) (ρ'.set i .no) p → Own σ' ρ' p := fun p h => by
    obtain ⟨j, o, e1, e2⟩ := h
    obtain ⟨z, e1⟩ := get e1 (fun w => nomatch w)
    rw [set_ne z] at e2
    exact ⟨j, o, e1, e2⟩
  refine ⟨⟨by rw [List.length_set, List.length_set, G.len], fun j e h => ?_, fun j o h => ?_, fun j k o o' p h1 h2 h3 h4 => ?_, G.tab, fun j c' f' e h => ?_⟩, fun j hj => ?_, s.kept, fun p h => s.news p (ow p h), s.live⟩
  · obtain ⟨z, h⟩ := get h (fun w => nomatch w)
    rw [set_ne z]
    exact G.dat j e h
  · obtain ⟨z, h⟩ := get h (fun w => nomatch w)
    rw [set_ne z]
    exact G.own j o h
  · obtain ⟨z1, h1⟩ := get h1 (fun w => nomatch w)
    obtain ⟨z2, h2⟩ := get h2 (fun w => nomatch w)
    rw [set_ne z1] at h3
    rw [set_ne z2] at h4
    exact G.dif j k o o' p h1 h2 h3 h4
  · obtain ⟨z, h⟩ := get h (fun w => nomatch w)
    rw [set_ne z]
    exact G.exc j c' f' e h
  · have ne : i ≠ j := by omega
    rw [set_ne ne, set_ne ne]
    exact s.par j hj
end
@[simp] def keepX (tab : List (Str × Bool)) (i j : Nat) : Rt Out → Rt Out
  | .ok o ρ => .ok o ρ
  | .ex c (.tuple [.str f, x]) ρ => match tab.lookup c with
    | some true => nxt ((put j (.exc c f x) ρ).bind (put i .no))
    | some false => .ex c (.tuple [.str f, x]) ρ
    | none => .no
  | _ => .no
@[simp] def bTry (tab : List (Str × Bool)) (i j : Nat) (m : Mo Out) : Mo Out := fun ρ => keepX tab i j (m ρ)
section
variable {X : Cx} {n : Nat} {W : XW} {Wx : WX} {x y z : Str} {cv : Value} {tab : List (Str × Bool)} {i j : Nat} {body : List Stmt} {np p1 p2 p3 pos pos' : Pos} {m : Mo Out}
theorem xs_try (hni : n ≤ i) (hnj : n ≤ j) (hij : i ≠ j) (hx : X.ex = []) (hs : X.stack = X.env :: X.outer) (hf : X.env.frame = some X.env.locals) (hN : X.N.Nodup) (hi : X.N[i]? = some y) (hj : X.N[j]? = some z) (hln : X.env.kindOf y = some .local) (vn : Vis X.env.scope y) (vz : X.env.scope.names.lookup z = some .local) (hc : Names X x cv)
    (tk : Takes X Wx) (hW : ∀ c d σ H, W c d σ H → wE X.K Wx c d σ H) (hT : ∀ c b, tab.lookup c = some b → ∀ C, PySem.W.nsIn X.K mainGlobals c = some (some (.ref C)) → PySem.W.exmOne X.K (.ref C) cv = some b)
    (hb : ∀ (W' : WX) (pn : List (Addr × Obj)) (xe : Value → Shared → Prop), Takes (X.tr pn xe) W' → PassesOwn (model X.prog X.w) X.A X.env xe → XSs (X.tr pn xe) n (wE X.K W') body m) (dn : (y == ("__debug__" : Str)) = false := by decide) (dc : (y == ("__classdict__" : Str)) = false := by decide)
    (sw : swapsWith (.Name y p2) (some (.Name z p1)) p3.line X.env = pure false := by rfl) :
    XS X n W (.Try body [.ExceptHandler (some (.Name x np)) (some y) [.Assign [.Name z p1] (.Name y p2) p3] pos'] [] [] pos) (bTry tab i j m) :=
  weakS (ps_try_keep (tb := fun W' => tS X.K n (wE X.K W') m) (Wout := Wx) hx hs hf hN hi hj hln vn vz hc tk hb dn dc sw) fun E σ H ⟨ρ, G, h⟩ => by
    refine ⟨ρ, G, ?_⟩
    have h : AftS X.K n W E H σ ρ (keepX tab i j (m ρ)) := h
    show AftS X.K n (wE X.K (wKeep X.K cv i j Wx E)) E H σ ρ (m ρ)
    generalize m ρ = r at h
    cases r with
    | no => exact h
    | ok o ρ' => cases o <;> exact h
    | ex c d ρ' =>
      intro σ' H' st C dd f v d' ed nC hd im
      subst ed
      have h : AftS X.K n W E H σ ρ (match tab.lookup c with
        | some true => nxt ((put j (.exc c f d') ρ').bind (put i .no))
        | some false => .ex c (.tuple [.str f, d']) ρ'
        | none => .no) := h
      cases et : tab.lookup c with
      | none =>
        rw [et] at h
        exact h.elim
      | some b =>
        rw [et] at h
        refine ⟨b, hT c b et C nC, fun hb a oe na zc fe => ?_, fun hb => ?_⟩
        · subst hb
          have h : AftS X.K n W E H σ ρ (nxt ((put j (.exc c f d') ρ').bind (put i .no))) := h
          obtain ⟨ρ4, e4, h4⟩ := AftS.nxt h
          cases e3 : put j (.exc c f d') ρ' with
          | none =>
            rw [e3] at e4
            cases e4
          | some ρ3 =>
            rw [e3] at e4
            have e4 : put i .no ρ3 = some ρ4 := e4
            unfold put at e3 e4
            split at e3
            · next lj =>
              cases e3
              split at e4
              · next li =>
                cases e4
                have li' : i < ρ'.length := by
                  rw [List.length_set] at li
                  exact li
                have st1 := st.trans (Stp.same (n := n) st.good (same_upd (o := .frz oe (.ext fun h => h.get? a = some oe)) na))
                have hdn : dd ≠ a := ne_of_none hd na
                have xa : ExcAt X.K (upd H' a (.frz oe (.ext fun h => h.get? a = some oe))) a c f d' := .inl ⟨dd, C, oe, _, v, upd_same, zc.1, zc.2, fe, by rw [upd_ne hdn]; exact hd, nC, im.same (same_upd na)⟩
                have st2 := (st1.set_exc hnj lj xa).set_no hni (by rw [List.length_set]; exact li')
                have es : (((σ'.set i (some (.ref a))).set j (some (.ref a))).set i none) = (σ'.set j (some (V.ref a))).set i none := by
                  rw [List.set_comm _ _ hij, List.set_set]
                rw [es]
                exact h4 _ _ st2
              · cases e4
            · cases e3
        · subst hb
          exact hW _ _ _ _ (h σ' H' st) C dd f v d' rfl nC hd im
/-! ### what is asked of a kept error -/
@[simp] def eIsX (tab : List (Str × Bool)) (i : Nat) : Mo R := fun ρ => match ρ[i]? with
  | some (.exc c _ _) => lift ((tab.lookup c).map .bool) ρ
  | _ => .no
@[simp] def eFldX (cs : List Str) (f : Str) (i : Nat) : Mo R := fun ρ => match ρ[i]? with
  | some (.exc c f' d) => lift (if f' = f ∧ c ∈ cs then some d else none) ρ
  | _ => .no
@[simp] def eNonX (i : Nat) : Mo R := fun ρ => match ρ[i]? with
  | some (.exc _ _ _) => .ok (.d (.bool false)) ρ
  | some (.dat d) => .ok (.d (.bool (noneB d))) ρ
  | _ => .no
theorem inst_of {a : Addr} {c f : Str} {d : D} {pins : List (Addr × Obj)} {σ : L2.St} {H : Hp} {s : Shared} (I : Inv X pins σ H s) (x : ExcA X.K H a c f d) : ∃ (C : Addr) (oe : Obj) (od : Obj) (v : V) (u : Value), PySem.W.nsIn X.K mainGlobals c = some (some (.ref C)) ∧ PySem.W.InstAt s.heap a oe C (some od) ∧ PySem.W.lookIn f od = some (some u) ∧ RelV v u ∧ Im X.K H v d := by
  obtain ⟨dd, C, oe, w, v, h1, h2, h3, ⟨vs, h4⟩, h5, h6, h7⟩ := x
  obtain ⟨ha, _⟩ := I.hok a _ h1
  have hx : ObjOk X.prog X.w H s.heap dd (.xd [(f, v)]) := I.hok dd _ h5
  obtain ⟨mA, hns, hr⟩ := hx
  obtain ⟨od, ho, hl⟩ := lookIn_ns hns
  have l : List.lookup f [(f, v)] = some v := by simp [List.lookup]
  obtain ⟨u, hu, ru⟩ := RelO.some_of (v := v) (o := mA f) (by rw [← l]; exact hr f)
  exact ⟨C, oe, od, v, u, h6, ⟨ha, h2, by unfold PySem.W.notCls; rw [h4] <;> rfl, by rw [h3]; exact ho⟩, by rw [hl, hu], ru, h7⟩
/-- isinstance(x, T), x a kept error -/
def rIsX (K : PySem.W.Frag) (tab : List (Str × Bool)) (t : V) : List V → Hp → VK → Prop := fun xs H Q => ∃ (a : Addr) (c f : Str) (d : D) (b : Bool), xs = [.ref a, t] ∧ ExcA K H a c f d ∧ tab.lookup c = some b ∧ Q (.bl b) H
theorem call_isX {t : V} {tv : Value} (B : ExcB X.K) (ht : ∀ u, RelV t u → u = tv) (hT : ∀ c b, tab.lookup c = some b → ∀ C, PySem.W.nsIn X.K mainGlobals c = some (some (.ref C)) → XfC X.K C ∧ (PySem.W.clsIn X.K C).isSome = true ∧ PySem.W.findIn X.K (.ref C) "__class__" = some (some (.builtin "object.__class__")) ∧ PySem.W.mroIn X.K C (.type "object") = some true ∧ PySem.W.kitOne X.K (.ref C) tv = some b) :
    CallR X (.builtin "isinstance") (rIsX X.K tab t) := by
  rintro pins s σ H xs us Q I r ⟨a, c, f, d, b, rfl, x, et, q⟩
  obtain ⟨u1, u2, rfl, r1, r2⟩ := vals2 r
  cases r1
  obtain rfl := ht _ r2
  obtain ⟨C, oe, od, v, u, nC, J, _, _, _⟩ := inst_of I x
  obtain ⟨xf, cl, ca, mo, k1⟩ := hT c b et C nC
  exact PySem.W.kia_one (PySem.W.kitx_exc cl xf.ga xf.gg xf.exC ca B.hn B.ht mo) I.kIn J k1 (fun z => nomatch z) fun tk => ⟨.bl b, H, I.kept (t' := tk) fun _ _ z => z, rfl, q⟩
theorem xd_isX {i : Nat} {x T : Str} {t : V} {tv : Value} {p p1 p2 pos : Pos} (B : ExcB X.K) (ht : ∀ u, RelV t u → u = tv) (hT : ∀ c b, tab.lookup c = some b → ∀ C, PySem.W.nsIn X.K mainGlobals c = some (some (.ref C)) → XfC X.K C ∧ (PySem.W.clsIn X.K C).isSome = true ∧ PySem.W.findIn X.K (.ref C) "__class__" = some (some (.builtin "object.__class__")) ∧ PySem.W.mroIn X.K C (.type "object") = some true ∧ PySem.W.kitOne X.K (.ref C) tv = some b)
    (hg : Gl X "isinstance") (hm : X.mg "isinstance" = none) (hv : PE X (.Name x p1) (tVar i)) (hTn : PE X (.Name T p2) (tC t)) (hne : tab.lookup ("" : Str) = none := by decide)
    (h1 : starEach [.Name x p1, .Name T p2] X.env = (false, eval (.Name x p1) X.env) :: starEach [.Name T p2] X.env := by rfl) (h2 : (backTo pos (starEach [.Name T p2] X.env)).any (·.1) = false := by rfl) (h3 : starEach [.Name T p2] X.env = (false, eval (.Name T p2) X.env) :: starEach [] X.env := by rfl) :
    XD X n W (.Call (.Name "isinstance" p) [.Name x p1, .Name T p2] [] pos) (eIsX tab i) :=
  weakE (pe_callB (call_isX B ht hT) hg hm (by decide +kernel) (pa_cons hv (pa_cons hTn pa_nil h3) h1) (by decide) (by decide) h1 h2) fun σ H Q ⟨ρ, G, h⟩ => by
    unfold eIsX at h
    split at h
    · next c f d e =>
      obtain ⟨a, e1, xa⟩ := G.exc i c f d e
      cases et : tab.lookup c with
      | none =>
        rw [et] at h
        exact h.elim
      | some b =>
        rw [et] at h
        exact ⟨.ref a, e1, a, c, f, d, b, rfl, xa.err (fun z => by rw [z, hne] at et; cases et), et, Aft.ok G h _ (.d (.bl b))⟩
    · exact h.elim
/-- x.f, x a kept error -/
theorem xd_fldX {cs : List Str} {i : Nat} {x f : Str} {p1 pos : Pos} (hT : ∀ (c f' : Str) (C : Addr), PySem.W.nsIn X.K mainGlobals c = some (some (.ref C)) → f' = f → c ∈ cs → XfC X.K C ∧ PySem.W.findIn X.K (.ref C) f = some none)
    (hv : PE X (.Name x p1) (tVar i)) (hb : attributeBase (.Name x p1) f X.env (eval (.Name x p1) X.env) = eval (.Name x p1) X.env := by rfl) (hne : ("" : Str) ∉ cs := by decide) : XD X n W (.Attribute (.Name x p1) f pos) (eFldX cs f i) := ⟨fun pins s σ H Q I ⟨ρ, G, h⟩ => by
  unfold eFldX at h
  split at h
  · next c f' d e =>
    obtain ⟨a, e1, xa⟩ := G.exc i c f' d e
    by_cases hf : f' = f ∧ c ∈ cs
    · rw [if_pos hf] at h
      obtain ⟨rfl, hc⟩ := hf
      refine attr_of hb (thn (hv.run pins s σ H (fun v H1 => v = .ref a ∧ H1 = H) I ⟨.ref a, e1, rfl, rfl⟩) ?_)
      rintro u s1 ⟨v, H1, I1, rx, rfl, rfl⟩
      cases rx
      obtain ⟨C, oe, od, v, u, nC, J, hl, ru, im⟩ := inst_of I1 (xa.err fun z => hne (z ▸ hc))
      obtain ⟨xf, no⟩ := hT c f' C nC rfl hc
      exact HandSPX.exc_get I1.kIn J xf.ga xf.gg xf.exC (PySem.W.findObj_own xf.hdC no rfl hl) (handed_of ru) ⟨v, H1, I1.tok _, ru, Aft.ok G h _ (.d im)⟩
    · rw [if_neg hf] at h
      exact h.elim
  · exact h.elim⟩
/-- x is None, x a kept error or data -/
theorem xd_nonX {i : Nat} {a b : Expr} {pos : Pos} (hv : PE X a (tVar i)) (hb : PE X b (tC .non)) (hm : behindInMarks .Is b = false) : XD X n W (.Compare a [.Is] [b] pos) (eNonX i) := weakE (pe_cmpR op_isN hv hb hm) fun σ H Q ⟨ρ, G, h⟩ => by
  unfold eNonX at h
  split at h
  · next c f d e =>
    obtain ⟨a, e1, xa⟩ := G.exc i c f d e
    exact ⟨.ref a, e1, rfl, Aft.ok G h _ (.d (.bl false))⟩
  · next d e =>
    obtain ⟨v, e1, im⟩ := G.dat i d e
    refine ⟨v, e1, rfl, ?_⟩
    rw [vw_non (.im im)]
    exact Aft.ok G h _ (.d (.bl _))
  · exact h.elim
end
end Q
namespace Q
open PySem PySem.Spec PyProof.Rows L2 Gd
variable [Tbl]
/-! ### tables of classes -/
theorem tab_nil {P : Str → Bool → Prop} : ∀ c b, ([] : List (Str × Bool)).lookup c = some b → P c b := fun c b h => by cases h
theorem tab_cons {P : Str → Bool → Prop} {c0 : Str} {b0 : Bool} {r : List (Str × Bool)} (h0 : P c0 b0) (hr : ∀ c b, r.lookup c = some b → P c b) : ∀ c b, ((c0, b0) :: r).lookup c = some b → P c b := fun c b h => by
  by_cases e : c = c0
  · subst e
    simp [List.lookup] at h
    rw [← h]
    exact h0
  · have e2 : (c == c0) = false := by simpa using e
    simp [List.lookup, e2] at h
    exact hr c b h
theorem nsC {K : PySem.W.Frag} {mg : Str → Option Value} {c f : Str} {C fI C' : Addr} (T : ExcT K mg c f C fI) (h : PySem.W.nsIn K mainGlobals c = some (some (.ref C'))) : C' = C := by
  have := T.nC.symm.trans h
  cases this
  rfl
theorem tab_ex {K : PySem.W.Frag} {mg : Str → Option Value} {c f : Str} {C fI : Addr} {cv : Value} {b : Bool} (T : ExcT K mg c f C fI) (h : PySem.W.exmOne K (.ref C) cv = some b) : ∀ C', PySem.W.nsIn K mainGlobals c = some (some (.ref C')) → PySem.W.exmOne K (.ref C') cv = some b := fun C' e => by
  rw [nsC T e]
  exact h
theorem tab_is {K : PySem.W.Frag} {mg : Str → Option Value} {c f : Str} {C fI : Addr} {tv : Value} {b : Bool} (T : ExcT K mg c f C fI) (h : PySem.W.kitOne K (.ref C) tv = some b) : ∀ C', PySem.W.nsIn K mainGlobals c = some (some (.ref C')) →
    XfC K C' ∧ (PySem.W.clsIn K C').isSome = true ∧ PySem.W.findIn K (.ref C') "__class__" = some (some (.builtin "object.__class__")) ∧ PySem.W.mroIn K C' (.type "object") = some true ∧ PySem.W.kitOne K (.ref C') tv = some b := fun C' e => by
  rw [nsC T e]
  exact ⟨T.xf, T.cl, T.ca, T.mo, h⟩
theorem fld_nil {K : PySem.W.Frag} {f : Str} : ∀ (c f' : Str) (C : Addr), PySem.W.nsIn K mainGlobals c = some (some (.ref C)) → f' = f → c ∈ ([] : List Str) → XfC K C ∧ PySem.W.findIn K (.ref C) f = some none := fun _ _ _ _ _ h => nomatch h
theorem fld_cons {K : PySem.W.Frag} {mg : Str → Option Value} {c0 f : Str} {C0 fI : Addr} {r : List Str} (T : ExcT K mg c0 f C0 fI) (hr : ∀ (c f' : Str) (C : Addr), PySem.W.nsIn K mainGlobals c = some (some (.ref C)) → f' = f → c ∈ r → XfC K C ∧ PySem.W.findIn K (.ref C) f = some none) :
    ∀ (c f' : Str) (C : Addr), PySem.W.nsIn K mainGlobals c = some (some (.ref C)) → f' = f → c ∈ c0 :: r → XfC K C ∧ PySem.W.findIn K (.ref C) f = some none := fun c f' C e ef h => by
  by_cases z : c = c0
  · subst z
    rw [nsC T e]
    exact ⟨T.xf, T.noN⟩
  · exact hr c f' C e ef ((List.mem_cons.mp h).resolve_left z)
theorem kcls_ref {K : PySem.W.Frag} {t : Value} {C : Addr} {b : Bool} (h1 : PySem.W.isClsIn K C = true) (h2 : PySem.W.typeIn K (.ref C) = some (.type "type")) (h3 : PySem.W.subIn K t (.ref C) = some b) : PySem.W.kitCls K t (.ref C) = some b := by
  have h1 : (PySem.W.clsIn K C).isSome = true := h1
  show (if ((PySem.W.clsIn K C).isSome && PySem.W.typeIn K (.ref C) == some (.type "type")) = true then PySem.W.subIn K t (.ref C) else none) = some b
  rw [h1, h2, if_pos (by rfl)]
  exact h3
theorem exm_own {K : PySem.W.Frag} {t : Value} {C : Addr} {b : Bool} (h0 : PySem.W.subIn K (.ref C) (.type "BaseException") = some true) (h1 : PySem.W.isClsIn K C = true) (h2 : PySem.W.typeIn K (.ref C) = some (.type "type")) (h3 : PySem.W.subIn K t (.ref C) = some b) : PySem.W.exmOne K t (.ref C) = some b := by
  unfold PySem.W.exmOne
  rw [h0, if_pos (by rfl)]
  exact kcls_ref h1 h2 h3
theorem kit_own {K : PySem.W.Frag} {c C : Addr} {b : Bool} (h1 : PySem.W.isClsIn K C = true) (h2 : PySem.W.typeIn K (.ref C) = some (.type "type")) (h3 : PySem.W.subIn K (.ref c) (.ref C) = some b) (h4 : (Value.ref c == Value.ref C) = true → b = true) : PySem.W.kitOne K (.ref c) (.ref C) = some b := by
  unfold PySem.W.kitOne
  split
  · next h =>
    rw [h4 h]
  · exact kcls_ref h1 h2 h3
theorem kit_blt {K : PySem.W.Frag} {c : Addr} {T : String} {b : Bool} (h1 : PySem.W.kitMeta T = true) (h3 : PySem.W.subIn K (.ref c) (.type T) = some b) : PySem.W.kitOne K (.ref c) (.type T) = some b := by
  unfold PySem.W.kitOne
  rw [if_neg (by intro h; cases h)]
  show (if PySem.W.kitMeta T = true then PySem.W.subIn K (.ref c) (.type T) else none) = some b
  rw [if_pos h1]
  exact h3
def cbody : Stmt → List Stmt
  | .ClassDef (body := b) .. => b
  | _ => []
end Q
namespace Q
open PySem PySem.Spec PyProof.Rows L2 Gd
variable [Tbl]
/-! ### d[k] = v -/
def unKV : List (D × D) → Option (List (Key × D))
  | [] => some []
  | (k, v) :: r => match keyOf k, unKV r with
    | some k, some r => some ((k, v) :: r)
    | _, _ => none
theorem unKV_im {K : PySem.W.Frag} {H : Hp} : ∀ {kvs : List (Key × V)} {ds : List (D × D)} {gd : List (Key × D)}, ImKV K H kvs ds → unKV ds = some gd → ImG K H kvs gd
  | _, _, _, .nil, e => by
    cases e
    exact .nil
  | _, _, _, @ImKV.cons _ _ k v r d ds h t, e => by
    unfold unKV at e
    rw [keyOf_D] at e
    split at e
    · next k' r' e1 e2 =>
      cases e1
      cases e
      exact .cons h (unKV_im t e2)
    · cases e
theorem unKV_to : ∀ gd : List (Key × D), unKV (toKV gd) = some gd
  | [] => rfl
  | (k, v) :: r => by
    show (match keyOf (keyD k), unKV (toKV r) with
      | some k, some r => some ((k, v) :: r)
      | _, _ => none) = _
    rw [keyOf_D, unKV_to r]
theorem ImKV.len2 {K : PySem.W.Frag} {H : Hp} : ∀ {kvs : List (Key × V)} {ds : List (D × D)}, ImKV K H kvs ds → kvs.length = ds.length
  | _, _, .nil => rfl
  | _, _, .cons _ r => by rw [List.length_cons, List.length_cons, ImKV.len2 r]
@[simp] def setKd (i : Nat) (x : D) (j : R) (ρ : Ev) : Rt Out := match look ρ j, ρ[i]? with
  | some kd, some (.own (.dk ds)) => match keyOf kd, unKV ds with
    | some k, some gd => if ds.length < sizeLine then .ok .nx (ρ.set i (.own (.dk (toKV (putG gd k x))))) else .no
    | _, _ => .no
  | _, _ => .no
@[simp] def bSetK (i : Nat) (f : Mo R) (g : Mo R) : Mo Out := fun ρ => (f ρ).bind fun r ρ1 => match r, ρ1[i]? with
  | .d x, some (.own (.dk _)) => (g ρ1).bind fun j ρ2 => setKd i x j ρ2
  | _, _ => .no
theorem own_dk {K : PySem.W.Frag} {H : Hp} {σ : St} {ρ : Ev} (G : Good K H σ ρ) {i : Nat} {ds : List (D × D)} (e : ρ[i]? = some (.own (.dk ds))) : ∃ p kvs, σ[i]? = some (some (.ref p)) ∧ H p = some (.dK kvs) ∧ ImKV K H kvs ds := by
  obtain ⟨p, h, e1, e2, r⟩ := G.own i _ e
  cases r with
  | dk r => exact ⟨p, _, e1, e2, r⟩
section
variable {X : Cx} {n : Nat} {W : XW}
theorem xs_setk {i : Nat} {x : Str} {e j : Expr} {p p2 pos : Pos} {f g : Mo R} (hu : X.A.units + 65 < cLine) (hx : PE X (.Name x p) (tVar i)) (he : XD X n W e f) (hj : XD X n W j g)
    (hs : swapsWith e (some (.Subscript (.Name x p) j p2)) pos.line X.env = pure false := by rfl) :
    XS X n W (.Assign [.Subscript (.Name x p) j p2] e pos) (bSetK i f g) := weakS (ps_dput (by omega) hx hj he hs) fun E σ H ⟨ρ, G, h⟩ => by
  refine ⟨ρ, G, (AftS.bind h).mono fun r ρ1 H1 s1 h1 v rv => ?_⟩
  cases rv with
  | v _ => exact h1.elim
  | @d x im =>
    split at h1
    · next x' ds0 er e0 =>
      cases er
      obtain ⟨p0, xs0, f1, f2, _⟩ := own_dk s1.good e0
      refine ⟨_, f1, ρ1, s1.good, (AftS.bind h1).mono fun jr ρ2 H2 s2 h2 w rw' => ?_⟩
      unfold setKd at h2
      split at h2
      · next kd ds ek eo =>
        split at h2
        · next k gd e1 e2 =>
          split at h2
          · next lt =>
            obtain ⟨q0, kvs, g1, g2, il⟩ := own_dk s2.good eo
            rw [f1] at g1
            cases g1
            have ix := im.grow (s2.grow s1.good)
            have ew := key_of_vw (rw'.see s2.good ek) e1
            subst ew
            refine ⟨p0, _, rfl, DPut.k (k := k) g2 (by rw [il.len2]; exact lt), ?_⟩
            exact h2 σ _ (Stp.write (n := n) s2.good eo f1 g2 (.dk il) (h' := .dK (putK kvs k v)) (.dk ((unKV_im il e2).put ix).kv))
          · exact h2.elim
        · exact h2.elim
      · exact h2.elim
    · exact h1.elim
/-- x is None as a test, x a kept error or data -/
theorem xb_nonX {i : Nat} {a b : Expr} {pos : Pos} (hv : PE X a (tVar i)) (hb : PE X b (tC .non)) (hm : behindInMarks .Is b = false) : XB X n W (.Compare a [.Is] [b] pos) (asB (eNonX i)) := weakT (pt_cmpR op_isN hv hb hm) fun σ H Q h => by
  obtain ⟨ρ, G, h⟩ := asB_run h
  unfold eNonX at h
  split at h
  · next c f d e =>
    obtain ⟨a, e1, xa⟩ := G.exc i c f d e
    exact ⟨.ref a, e1, rfl, Aft.ok G h _ (.d (.bl false))⟩
  · next d e =>
    obtain ⟨v, e1, im⟩ := G.dat i d e
    refine ⟨v, e1, rfl, ?_⟩
    rw [vw_non (.im im)]
    exact Aft.ok G h _ (.d (.bl _))
  · exact h.elim
end
end Q
namespace Q
open PySem PySem.Spec PyProof.Rows L2 Gd
variable [Tbl]
/-! ### a, b, .. = x, y, .. of any kinds -/
@[simp] def runMs : List M1 → Ev → Rt (List Sl)
  | [], ρ => .ok [] ρ
  | m :: ms, ρ => (runM m ρ).bind fun s ρ1 => (runMs ms ρ1).bind fun ss ρ2 => .ok (s :: ss) ρ2
@[simp] def puts : List Nat → List Sl → Ev → Option Ev
  | [], [], ρ => some ρ
  | i :: is, s :: ss, ρ => (put i s ρ).bind (puts is ss)
  | _, _, _ => none
@[simp] def bMany (is : List Nat) (ms : List M1) : Mo Out := fun ρ => (runMs ms ρ).bind fun ss ρ1 => nxt (puts is ss ρ1)
inductive SRs (K : PySem.W.Frag) (H0 H : Hp) (σ : L2.St) (ρ : Ev) : List V → List Sl → Prop
  | nil : SRs K H0 H σ ρ [] []
  | cons {v : V} {s : Sl} {vs : List V} {ss : List Sl} : SR K H0 H σ ρ v s → (∀ (p : Addr) (o : Ob), v = .ref p → s = .own o → ∀ (k : Nat) (o' : Ob), vs[k]? = some (.ref p) → ss[k]? = some (.own o') → False) → SRs K H0 H σ ρ vs ss → SRs K H0 H σ ρ (v :: vs) (s :: ss)
section
variable {K : PySem.W.Frag} {n : Nat} {H0 H1 H H' : Hp} {σ σ' : L2.St} {ρ ρ' : Ev}
theorem SRs.get : ∀ {vs : List V} {ss : List Sl} {k : Nat} {v : V} {s : Sl}, SRs K H0 H σ ρ vs ss → vs[k]? = some v → ss[k]? = some s → SR K H0 H σ ρ v s
  | _, _, 0, _, _, .cons h _ _, a, b => by
    cases a
    cases b
    exact h
  | _, _, k + 1, _, _, .cons _ _ r, a, b => SRs.get (k := k) r a b
theorem SR.mapd {v : V} {s : Sl} (h : SR K H0 H σ ρ v s) (g : Grow H H') (k : ∀ p u, ¬ Own σ ρ p → H p = some u → (∀ ps, u ≠ .tbl ps) → H' p = some u) (h0 : ∀ p, H0 p = none → H1 p = none) (ow : ∀ p o, v = .ref p → s = .own o → ¬ Own σ ρ p → ¬ Own σ' ρ' p) : SR K H1 H' σ' ρ' v s := by
  cases h with
  | dat im => exact .dat (im.grow g)
  | own np e r no => exact .own (h0 _ np) (k _ _ no e fun ps z => r.no_tbl z) (r.grow g) (ow _ _ rfl rfl no)
theorem SRs.mapd (g : Grow H H') (k : ∀ p u, ¬ Own σ ρ p → H p = some u → (∀ ps, u ≠ .tbl ps) → H' p = some u) (h0 : ∀ p, H0 p = none → H1 p = none) : ∀ {vs : List V} {ss : List Sl}, SRs K H0 H σ ρ vs ss → (∀ (j : Nat) (p : Addr) (o : Ob), vs[j]? = some (.ref p) → ss[j]? = some (.own o) → ¬ Own σ ρ p → ¬ Own σ' ρ' p) → SRs K H1 H' σ' ρ' vs ss
  | _, _, .nil, _ => .nil
  | _, _, .cons h d r, ow => .cons (h.mapd g k h0 fun p o e1 e2 => by
      subst e1
      subst e2
      exact ow 0 p o rfl rfl) d (SRs.mapd g k h0 r fun j p o e1 e2 => ow (j + 1) p o e1 e2)
end
def tMs (K : PySem.W.Frag) (n : Nat) (W : XW) (ms : List M1) : TA := fun σ H Q => ∃ ρ, Good K H σ ρ ∧ Aft K n W H σ ρ (runMs ms ρ) fun ss ρ' H' => ∀ vs, SRs K H H' σ ρ' vs ss → Q vs H'
theorem tM_of {K : PySem.W.Frag} {n : Nat} {W : XW} {m : M1} {σ : L2.St} {H : Hp} {Q : VK} (h : ∃ ρ, Good K H σ ρ ∧ Aft K n W H σ ρ (runM m ρ) fun s ρ' H' => ∀ v, SR K H H' σ ρ' v s → Q v H') : tM K n W m σ H Q := by
  obtain ⟨ρ, G, h⟩ := h
  cases m with
  | dd m =>
    refine ⟨ρ, G, ?_⟩
    unfold runM at h
    dsimp only at h
    generalize m ρ = z at h
    cases z with
    | no => exact h
    | ex c e ρ' => exact h
    | ok r ρ1 =>
      intro H' s v rv
      cases rv with
      | v _ => exact h.elim
      | @d x im => exact h H' s v (.dat im)
  | ff m =>
    refine ⟨ρ, G, ?_⟩
    unfold runM at h
    dsimp only at h
    generalize m ρ = z at h
    cases z with
    | no => exact h
    | ex c e ρ' => exact h
    | ok o ρ1 => exact fun H' s p u np e r no => h H' s _ (.own np e r no)
section
variable {X : Cx} {n : Nat} {W : XW}
abbrev XMs (X : Cx) (n : Nat) (W : XW) (es : List Expr) (ms : List M1) : Prop := PA X es (tMs X.K n W ms)
theorem xms_nil : XMs X n W [] [] := weakA pa_nil fun σ H Q ⟨ρ, G, h⟩ => Aft.ok G h [] .nil
theorem xms_cons {e : Expr} {es : List Expr} {m : M1} {ms : List M1} (he : XM X n W e m) (hr : XMs X n W es ms) (hs : starEach (e :: es) X.env = (false, eval e X.env) :: starEach es X.env := by rfl) : XMs X n W (e :: es) (m :: ms) :=
  weakA (pa_cons he hr hs) fun σ H Q ⟨ρ, G, h⟩ => tM_of ⟨ρ, G, (Aft.bind h).mono fun s ρ1 H1 s1 h1 v rv => ⟨ρ1, s1.good, (Aft.bind h1).mono fun ss ρ2 H2 s2 h2 vs rvs => Aft.ok s2.good h2 (v :: vs) (.cons (rv.on s1.good s2) (fun p o ev eo k o' e1 e2 => by
    subst ev
    subst eo
    cases rv with
    | own _ e3 _ _ =>
      have := rvs.get e1 e2
      cases this with
      | own np _ _ _ =>
        rw [np] at e3
        cases e3) (rvs.mapd (Grow.refl _) (fun _ _ _ h _ => h) (fun p hp => s1.live p hp) fun _ _ _ _ _ h => h))⟩⟩
def setAll (σ : L2.St) : List Nat → List V → L2.St
  | i :: is, v :: vs => setAll (σ.set i (some v)) is vs
  | _, _ => σ
theorem stores_run {K : PySem.W.Frag} {H0 H H' : Hp} {σ : L2.St} {ρ : Ev} (h0 : ∀ p, H0 p = none → Own σ ρ p ∨ H p = none) : ∀ {is : List Nat} {vs : List V} {ss : List Sl} {σ' : L2.St} {ρ' ρ2 : Ev}, (∀ i ∈ is, n ≤ i) → Stp K n H σ ρ H' σ' ρ' → SRs K H0 H' σ' ρ' vs ss → puts is ss ρ' = some ρ2 → Stp K n H σ ρ H' (setAll σ' is vs) ρ2 ∧ vs.length = is.length
  | [], _, _, σ', ρ', ρ2, _, st, .nil, e => by
    cases e
    exact ⟨st, rfl⟩
  | [], _, _, σ', ρ', ρ2, _, st, .cons _ _ _, e => by cases e
  | _ :: _, _, _, σ', ρ', ρ2, _, st, .nil, e => by cases e
  | i :: is, _, _, σ', ρ', ρ2, hn, st, @SRs.cons _ _ _ _ _ _ v s vs ss r d rs, e => by
    have e : (put i s ρ').bind (puts is ss) = some ρ2 := e
    cases e1 : put i s ρ' with
    | none =>
      rw [e1] at e
      cases e
    | some ρ3 =>
      rw [e1] at e
      obtain ⟨li, rfl⟩ := put_some e1
      have st2 := st.set_sr (hn i List.mem_cons_self) li r h0
      have rs2 := rs.mapd (σ' := σ'.set i (some v)) (ρ' := ρ'.set i s) (Grow.refl _) (fun _ _ _ h _ => h) (fun p hp => hp) fun j p o ej eo no z => by
        obtain ⟨k, o1, f1, f2⟩ := z
        by_cases w : i = k
        · subst w
          rw [set_at li] at f1
          rw [set_at (by rw [st.good.len]; exact li)] at f2
          cases f1
          cases f2
          exact d p o1 rfl rfl j o ej eo
        · rw [set_ne w] at f1 f2
          exact no ⟨k, o1, f1, f2⟩
      obtain ⟨st3, l3⟩ := stores_run h0 (fun j hj => hn j (List.mem_cons_of_mem _ hj)) st2 rs2 e
      exact ⟨st3, by rw [List.length_cons, List.length_cons, l3]⟩
def gNames (is : List Nat) : TGs := fun vs σ H Q => vs.length = is.length ∧ Q (setAll σ is vs) H
theorem pgs_names_nil : PGs X [] (gNames []) := ⟨fun pins s σ H vs us Q I r h => (pgs_nil (X := X)).run pins s σ H vs us Q I r (by
  obtain ⟨h1, h2⟩ := h
  cases vs with
  | nil => exact ⟨rfl, h2⟩
  | cons v vs => cases h1)⟩
theorem pgs_names {e : Expr} {es : List Expr} {i : Nat} {is : List Nat} (h1 : PG X e (gName i)) (h2 : PGs X es (gNames is)) (hs : (assignEach (e :: es) X.env).map (·.2) = assign e X.env :: (assignEach es X.env).map (·.2) := by rfl) : PGs X (e :: es) (gNames (i :: is)) :=
  ⟨fun pins s σ H vs us Q I r h => (pgs_cons h1 h2 hs).run pins s σ H vs us Q I r (by
    obtain ⟨l, q⟩ := h
    cases vs with
    | nil => cases l
    | cons v vs => exact ⟨v, vs, rfl, Nat.succ.inj l, q⟩)⟩
theorem xs_many {tgs es : List Expr} {is : List Nat} {ms : List M1} {kt k2 c : Nat} {pt pt2 pos : Pos} (hn : ∀ i ∈ is, n ≤ i) (hl : is.length ≤ 1000) (hcl : is.length = c) (hc : X.calm = true) (he : XMs X n W es ms) (hg : PGs X tgs (gNames is)) (hn2 : (assignEach tgs X.env).length = c := by rfl) (hst : (assignEach tgs X.env).findIdx? (·.1) = none := by rfl)
    (hs : swapsWithSole [.Tuple tgs kt pt] (.Tuple es k2 pt2) pos.line X.env = pure false := by rfl) (hw : swappedStores [.Tuple tgs kt pt] (.Tuple es k2 pt2) X.env = pure none := by rfl) (h1 : (assignEach [.Tuple tgs kt pt] X.env).map (·.2) = [assign (.Tuple tgs kt pt) X.env] := by rfl) :
    XS X n W (.Assign [.Tuple tgs kt pt] (.Tuple es k2 pt2) pos) (bMany is ms) := weakS (ps_asg (pe_tup he) (pg_tup hc hg hn2 hst) hs hw h1) fun E σ H ⟨ρ, G, h⟩ => by
  refine ⟨ρ, G, (AftS.bind' (Stp.refl G) h).mono fun ss ρ1 H1 s1 h1 vs rvs => ?_⟩
  obtain ⟨ρ2, e2, q⟩ := AftS.nxt h1
  have key : ∀ {H2 : Hp}, Same H1 H2 → Stp X.K n H σ ρ H2 (setAll σ is vs) ρ2 ∧ vs.length = is.length := fun {H2} sm => by
    have st := s1.trans (Stp.same s1.good sm)
    exact stores_run (fun p hp => .inr hp) hn st (rvs.mapd (Grow.same sm) (fun p u _ e _ => sm _ _ e) (fun p hp => hp) fun _ _ _ _ _ h => h) e2
  have lv := (key (fun _ _ h => h)).2
  refine ⟨by rw [lv]; exact Nat.le_trans hl (by decide), fun t ht => ?_⟩
  have sm : Same H1 (upd H1 t (.tup vs)) := same_upd ht
  exact ⟨t, vs, rfl, .inl (.inl upd_same), by rw [lv]; exact hcl, lv, q _ _ (key sm).1⟩
theorem xs_par3 {i j l : Nat} {x y z : Str} {a b c : Expr} {ma mb mc : M1} {px py pz pt pos : Pos} {kt k2 pt2} (hn : ∀ m ∈ [i, j, l], n ≤ m) (he : XMs X n W [a, b, c] [ma, mb, mc])
    (go : ∀ {ta : TA}, PA X [a, b, c] ta → PS X (.Assign [.Tuple [.Name x px, .Name y py, .Name z pz] kt pt] (.Tuple [a, b, c] k2 pt2) pos) (tPar3 i j l ta)) :
    XS X n W (.Assign [.Tuple [.Name x px, .Name y py, .Name z pz] kt pt] (.Tuple [a, b, c] k2 pt2) pos) (bMany [i, j, l] [ma, mb, mc]) := weakS (go he) fun E σ H ⟨ρ, G, h⟩ => by
  refine ⟨ρ, G, (AftS.bind' (Stp.refl G) h).mono fun ss ρ1 H1 s1 h1 vs rvs => ?_⟩
  obtain ⟨ρ2, e2, q⟩ := AftS.nxt h1
  obtain ⟨st, lv⟩ := stores_run (fun p hp => .inr hp) hn s1 rvs e2
  match vs, lv with
  | [u, v, w], _ => exact ⟨u, v, w, rfl, q _ _ st⟩
end
end Q
namespace Q
open PySem PySem.Spec PyProof.Rows L2 Gd
variable [Tbl]
/-! ### f(x), x new and f's own from then on -/
theorem Aft.bind0 {α β : Type} {K : PySem.W.Frag} {n : Nat} {W : XW} {H : Hp} {σ : L2.St} {ρ : Ev} {m : Rt α} {k : α → Ev → Rt β} {Q : β → Ev → Hp → Prop} (h : Aft K n W H σ ρ (m.bind k) Q) : Aft K n W H σ ρ m fun a ρ1 _ => Aft K n W H σ ρ (k a ρ1) Q := by
  cases m with
  | no => exact h
  | ok a ρ1 => exact fun _ _ => h
  | ex c d ρ1 => exact h
@[simp] def eCallN (F : Fn) (m : Mo Ob) : Mo R := fun ρ => (m ρ).bind fun o ρ1 => (F [.own o]).bnd fun s _ => match s with
  | .dat x => .ok (.d x) ρ1
  | _ => .no
section
variable {X : Cx} {n : Nat} {W : XW} {k : Nat} {f : Addr} {fd : FuncData} {ps : List Str} {x : Str} {p pos : Pos} {e : Expr} {m : Mo Ob} {F : Fn}
theorem xd_callN (G : FnG X.prog X.w X.K X.mg X.base k f fd ps (spD X.K F)) (g : X.A.guards = some []) (room : Room k X.A) (hg : Gl X x) (hm : X.mg x = some (.ref f)) (hk : PySem.W.keepIn X.K (.ref f) = true) (hb : Binds X.K fd ps [])
    (he : XF X n W e m) (hdb : (x == ("__debug__" : Str)) = false := by decide) (h1 : starEach [e] X.env = (false, eval e X.env) :: starEach [] X.env := by rfl) (h2 : (backTo pos (starEach [] X.env)).any (·.1) = false := by rfl) :
    XD X n W (.Call (.Name x p) [e] [] pos) (eCallN F m) := weakE (pe_callG G g room hg hm hk hb (pa_cons he pa_nil h1) hdb h1 h2) fun σ H Q ⟨ρ, Gd, h⟩ => by
  refine ⟨ρ, Gd, (Aft.bind0 h).mono fun o ρ1 H1 s1 h1 p u np ep r no => ?_⟩
  have G1 : Good X.K H1 [some (.ref p)] [.own o] := by
    refine ⟨rfl, fun i d e => ?_, fun i o' e => ?_, fun i j o1 o2 q e1 e2 e3 e4 => ?_, s1.good.tab, fun i c f d e => ?_⟩
    · cases i with
      | zero => cases e
      | succ j => cases e
    · cases i with
      | zero =>
        cases e
        exact ⟨p, u, rfl, ep, r⟩
      | succ j => cases e
    · cases i with
      | zero => cases j with
        | zero => rfl
        | succ j => cases e2
      | succ i => cases e1
    · cases i with
      | zero => cases e
      | succ j => cases e
  cases ef : F [.own o] with
  | no =>
    rw [ef] at h1
    exact h1.elim
  | ex c d q =>
    rw [ef] at h1
    exact h1.elim
  | ok s as' =>
    rw [ef] at h1
    cases s with
    | no => exact h1.elim
    | own _ => exact h1.elim
    | exc _ _ _ => exact h1.elim
    | dat d =>
      refine ⟨[.own o], _, as', G1, ef, fun v H' st sr => ?_⟩
      have st : Stp X.K 1 H1 [some (.ref p)] [.own o] H' [some (.ref p)] as' := st
      have on : ∀ q, Own [some (.ref p)] [Sl.own o] q → q = p := fun q hq => by
        obtain ⟨i, o1, e1, e2⟩ := hq
        cases i with
        | zero =>
          cases e2
          rfl
        | succ j => cases e1
      have gd : Good X.K H' σ ρ1 := s1.good.grow (st.grow G1) (fun q w hq eq => by
        obtain ⟨w', o1, e1, r1⟩ := s1.good.at hq
        rw [eq] at e1
        cases e1
        exact st.kept q w eq (fun z => no (by rw [← on q z]; exact hq)) fun ps z => r1.no_tbl z) fun _ => st.good.tab
      have sp : Stp X.K n H σ ρ H' σ ρ1 := ⟨gd, s1.par, fun b w eb nb nt => st.kept b w (s1.kept b w eb nb nt) (fun z => by
        have := on b z
        rw [this, np] at eb
        cases eb) nt, s1.news, fun b hb => s1.live b (st.live b hb)⟩
      cases sr with
      | dat im => exact h1 H' sp v (.d im)
end
end Q
namespace SetS
open PySem PySem.Spec PyProof.Rows L2 Gd PySem.Froz
/-! ### sets of texts whose walk is known: add, sorted -/
def keyS (e : Int × Value) : Str := match e.2 with
  | .str k _ => k
  | _ => Str.empty
/-- the set at a holds the texts l -/
def Is (P : Program) (w : World) (h : Heap) (a : Addr) (l : List Str) : Prop :=
  ∃ D : SD, h.get? a = some (sObj "set" D) ∧ TxOk P w D l ∧ (D.1.toList.map keyS).Perm l ∧ (∀ e ∈ D.1.toList, ∃ u, e.2 = Value.str (keyS e) u) ∧ Ris D.2.2.place.toList ∧ (w.params.followText "set-order" = true ∨ D.2.2.led = true)
def add (l : List Str) (k : Str) : List Str := if l.contains k = true then l else k :: l
section
variable {P : Program} {w : World} {A : Around} {E : Value → Shared → Prop} {s : Shared} {h h' : Heap} {a : Addr} {l : List Str}
theorem Is.at (R : Is P w h a l) (k : ∀ o, h.get? a = some o → h'.get? a = some o) : Is P w h' a l := by
  obtain ⟨D, ho, rest⟩ := R
  exact ⟨D, k _ ho, rest⟩
theorem tail_ris {ep : Nat} {es : Array (Int × Value)} {t : SetTable} {d : Bool} (r : Ris t.place.toList) : Ris (tailTx ep es t d).2.2.place.toList := by
  unfold tailTx
  split
  · exact relayAll_ris _ _ _
  · exact r
theorem tail_led {ep : Nat} {es : Array (Int × Value)} {t : SetTable} {d : Bool} : (tailTx ep es t d).2.2.led = t.led := by
  unfold tailTx
  split
  · exact relayAll_led _ _ _
  · rfl
theorem tail_perm {ep : Nat} {es : Array (Int × Value)} {t : SetTable} {d : Bool} : (tailTx ep es t d).1.toList.Perm es.toList := by
  unfold tailTx
  split
  · exact relayAll_perm _ _ _
  · exact List.Perm.refl _
theorem add_ris {hs : Int} {v : Value} {D : SD} (r : Ris D.2.2.place.toList) : Ris (addTx hs v D).2.2.place.toList := by
  unfold addTx
  refine tail_ris ?_
  have q := layNew_ris D.2.2 D.1 hs v r
  split <;> exact q
theorem add_led {hs : Int} {v : Value} {D : SD} : (addTx hs v D).2.2.led = D.2.2.led := by
  unfold addTx
  rw [tail_led]
  have q := layNew_led D.2.2 D.1 hs v
  split <;> exact q
theorem add_perm {hs : Int} {v : Value} {D : SD} : (addTx hs v D).1.toList.Perm ((hs, v) :: D.1.toList) := by
  unfold addTx
  refine tail_perm.trans ((layNew_perm D.2.2 D.1 hs v).trans ?_)
  rw [Array.toList_push]
  exact List.perm_append_singleton _ _
/-- what an add makes of it -/
theorem Is.more {k : Str} {u : Tok} {D : SD} (F : TxOk P w D l) (pm : (D.1.toList.map keyS).Perm l) (g : ∀ e ∈ D.1.toList, ∃ u, e.2 = Value.str (keyS e) u) (r : Ris D.2.2.place.toList) (led : w.params.followText "set-order" = true ∨ D.2.2.led = true)
    (ho : h.get? a = some (sObj "set" (addTx (hashStr w k) (.str k u) D))) : Is P w h a (k :: l) := by
  refine ⟨_, ho, add_ok u F, (add_perm.map keyS).trans (pm.cons k), fun e he => ?_, add_ris r, led.imp id fun z => by rw [add_led]; exact z⟩
  rcases List.mem_cons.mp (add_perm.mem_iff.mp he) with z | z
  · rw [z]
    exact ⟨u, rfl⟩
  · exact g e z
theorem add_hashed {k : Str} {u : Tok} {Q : Bool → Shared → Prop} (R : Is P w s.heap a l) (room : l.length + 1 < scanBound)
    (hQ : ∀ b h', Heap.SameBut a s.heap h' → Is P w h' a (add l k) → Q b { s with heap := h' }) : wpAny (model P w) A (setAddHashed a (.str k u) (hashStr w k)) Q E s := by
  obtain ⟨D, ho, F, pm, g, r, led⟩ := R
  by_cases c : l.contains k = true
  · have hk : k ∈ l := List.contains_iff_mem.mp c
    have hQ' := hQ false s.heap (Heap.SameBut.refl a s.heap) (by
      unfold add
      rw [if_pos c]
      exact ⟨D, ho, F, pm, g, r, led⟩)
    obtain ⟨es, ep, t⟩ := D
    have hd : (sObj "set" (es, ep, t)).data = .set es ep t := rfl
    have hf : t.fits es.size = true := F.fit
    have hel : ElemsOf (strKind P w) es.toList := F.el
    have hsz : es.size = l.length := F.sz
    have hkey : (strKind P w).is k (.str k u) = true := is_str k u
    obtain ⟨e, he, ez⟩ := (F.mem k).mp hk
    unfold setAddHashed setAddHashedIn
    refine wpAny_holding (wpAny_bind (wpAny_setState_of ho hd hf ?_))
    dsimp only
    rw [byScan_of rfl (by omega) hel]
    simp only [↓reduceIte]
    unfold setAddByScan
    refine wpAny_bind ?_
    refine wpAny_bind (wpAny_rule ?_)
    refine wpAny_bind (wpAny_setScan_of (knd := strKind P w) (k := k) hkey ho hd hf hel ?_)
    cases hfi : List.findIdx? (fun e => (strKind P w).is k e.2) es.toList with
    | none =>
      have z := List.findIdx?_eq_none_iff.mp hfi e he
      rw [ez] at z
      cases z
    | some j =>
      dsimp only
      exact wpAny_pure (wpAny_pure hQ')
  · have hk : k ∉ l := fun z => c (List.contains_iff_mem.mpr z)
    refine add_x ho F hk room (hQ true _ (Heap.SameBut.update _ a _) ?_)
    unfold add
    rw [if_neg c]
    exact Is.more F pm g r led (get_upd _ ho rfl)
theorem call_add {k : Str} {u : Tok} {Q : Value → Shared → Prop} (R : Is P w s.heap a l) (room : l.length + 1 < scanBound)
    (hQ : ∀ h', Heap.SameBut a s.heap h' → Is P w h' a (add l k) → Q .none { s with heap := h', toks := s.toks + 1 }) : wpAny (model P w) A (call (.builtin "set.add") [.ref a, .str k u]) Q E s := by
  have hT : s.TypeIs (.ref a) "set" := by
    obtain ⟨D, ho, _⟩ := id R
    exact ⟨_, ho, rfl⟩
  refine wpAny_call_entry F.slot_set_add hT F.entry_set_add ?_ (F.args_set_add_2 _ _)
  unfold Builtin.«set.add» Builtin.Frozenset.oneOther
  simp only [List.isEmpty_nil, bind_assoc]
  unfold Builtin.Frozenset.addrOf setAdd
  refine wpAny_bind (wpAny_pure ?_)
  try dsimp only
  refine wpAny_bind (wpAny_pure ?_)
  try dsimp only
  refine wpAny_bind ?_
  refine wpAny_holding ?_
  refine wpAny_bind ((strKind P w).pyHash (is_str k u) ?_)
  refine add_hashed (s := { s with toks := s.toks + 1 }) R room fun b h' sb r => ?_
  show wpAny _ _ (ret Value.none) _ _ _
  exact wpAny_pure ⟨_, rfl, hQ h' sb r⟩
theorem fresh {h : Heap} : Is P w (h.push { cls := .type "set", dict := none, data := .set #[] 0 (.fresh 0 0 (!w.params.followText "set-order")) }) h.objs.size [] :=
  ⟨(#[], 0, .fresh 0 0 (!w.params.followText "set-order")), Heap.get?_push_size _ rfl, TxOk.nil (by rfl), List.Perm.refl _, (fun e he => nomatch he), List.Pairwise.nil, by
    show _ ∨ (!w.params.followText "set-order") = true
    cases w.params.followText "set-order"
    · exact .inr rfl
    · exact .inl rfl⟩
theorem strs_of : ∀ (vs : List Value), (∀ v ∈ vs, ∃ k u, v = Value.str k u) → StrsAre vs (vs.map fun v => keyS (0, v))
  | [], _ => .nil
  | v :: vs, h => by
    obtain ⟨k, u, rfl⟩ := h v List.mem_cons_self
    exact .cons k u (strs_of vs fun v hv => h v (List.mem_cons_of_mem _ hv))
theorem call_sorted {Q : Value → Shared → Prop} (R : Is P w s.heap a l) (hh : A.handled = none) (h64 : l.length < 64)
    (hQ : ∀ s' p (out : Array Value) (c : Nat) (ys : List Str), (∀ b o, s.heap.get? b = some o → s'.heap.get? b = some o) → s'.gens = s.gens → s'.os = s.os → s.heap.objs.size ≤ p →
      s'.heap.get? p = some (seqObj "list" out c) → StrsAre out.toList ys → ys.Perm l → sortedS ys = true → Q (.ref p) s') :
    wpAny (model P w) A (call (.builtin "sorted") [.ref a]) Q E s := by
  obtain ⟨D, ho, F, pm, g, r, led⟩ := R
  have hsz : D.1.size = l.length := F.sz
  refine Calls.call_function_entry kind_sorted plain_sorted entry_sorted (args_sorted1 _) ?_
  unfold Builtin.«sorted»
  refine wpAny_bind (m := checkCount "sorted" 1 1 _) (wpAny_pure ?_)
  refine wpAny_bind (collect_set (A := A.in1) (es := D.1) (ep := D.2.1) (t := D.2.2) hh ⟨_, ho, rfl, rfl⟩ F.fit (by rw [hsz]; exact Nat.lt_trans h64 (by decide)) r led fun s1 vs k1 hz g1 o1 pv => ?_)
  have hvl : vs.length = l.length := by rw [pv.length_eq, List.length_map, Array.length_toList]; exact hsz
  have hS : StrsAre vs (vs.map fun v => keyS (0, v)) := strs_of vs fun v hv => by
    obtain ⟨e, he, q⟩ := List.mem_map.mp (pv.mem_iff.mp hv)
    obtain ⟨u, eu⟩ := g e he
    exact ⟨_, u, by rw [← q]; exact eu⟩
  have pk : (vs.map fun v => keyS (0, v)).Perm l := by
    have q := pv.map fun v => keyS (0, v)
    rw [List.map_map] at q
    exact q.trans pm
  refine wpAny_bind (wpAny_newList ?_ (by rw [hvl, sizeLine_eq]; omega))
  have hoL : (s1.heap.push (seqObj "list" vs.toArray 0)).get? s1.heap.objs.size = some (seqObj "list" vs.toArray 0) := Heap.get?_push_size _ rfl
  refine wpAny_bind (wpAny_holding (wpAny_call_entry slot_list_sort ⟨_, hoL, rfl⟩ entry_list_sort (list_sort_treeK strKind_oneLt (s := { s1 with heap := s1.heap.push (seqObj "list" vs.toArray 0) }) hoL hS.keysOf (fun _ _ _ e => keyKind_strs (by rw [← e]; exact hS)) (by omega) fun st hp hs => ⟨_, rfl, ?_⟩) (args_list_sort _)))
  obtain ⟨ys, g1', g2', g3'⟩ := sorted_out_str hS hp hs
  obtain ⟨c, hc⟩ := sortedHeap_at (vs := vs) (out := (arrOf st).map (·.2)) hoL
  refine wpAny_pure ⟨_, rfl, hQ _ s1.heap.objs.size _ c ys (fun b u e => ?_) g1 o1 hz hc g1' (g2'.trans pk) g3'⟩
  have q := k1 b u e
  have hlt := Heap.lt_size q
  show (sortedHeap (s1.heap.push (seqObj "list" vs.toArray 0)) s1.heap.objs.size vs _).get? b = some u
  rw [sortedHeap_old (Nat.ne_of_lt hlt) (by rw [size_push']; exact Nat.lt_succ_of_lt hlt)]
  exact Heap.get?_push_of_some _ q
end
end SetS
namespace SetS
open PySem PySem.Spec PyProof.Rows L2 Gd PySem.Froz PpSet
/-! ### the text set as a tracked thing -/
def SO (P : Program) (w : World) (a : Addr) (l : List Str) : HO := .ext fun h => Is P w h a l
theorem so_new {w : World} {P : Program} {H : Hp} {h : Heap} {a : Addr} {l : List Str} (R : Is P w h a l) : ObjOk P w H h a (SO P w a l) := by
  have ⟨D, ho, _⟩ := R
  exact ⟨R, ⟨_, ho⟩, fun h1 h2 p k => Is.at p k⟩
section
variable {X : Cx}
theorem so_get {pins : List (Addr × Obj)} {σ : L2.St} {H : Hp} {s : Shared} {a : Addr} {l : List Str} (I : Inv X pins σ H s) (ha : H a = some (SO X.prog X.w a l)) : Is X.prog X.w s.heap a l := (I.hok a _ ha).1
theorem so_add {pins : List (Addr × Obj)} {σ : L2.St} {H : Hp} {s : Shared} {E : Value → Shared → Prop} {D : Addr} {l : List Str} {k : Str} {v : Value} {Q : Value → Shared → Prop} (I : Inv X pins σ H s) (hD : H D = some (SO X.prog X.w D l)) (room : l.length + 1 < scanBound) (r : RelV (.str k) v)
    (h : ∀ s', Inv X pins σ (upd H D (SO X.prog X.w D (add l k))) s' → Q .none s') : wpAny (model X.prog X.w) X.A (call (.builtin "set.add") [.ref D, v]) Q E s := by
  have R := so_get I hD
  obtain ⟨u, rfl⟩ := r
  refine call_add R room fun h' sb new => ?_
  have he : ∃ u, h'.get? D = some u := by
    have ⟨D', ho, _⟩ := new
    exact ⟨_, ho⟩
  exact h _ (I.write (e := D) (t' := s.toks + 1) (by rw [hD]; trivial) (.inl rfl) (fun b u hb hu => (sb.2 b hb).trans hu) he (so_new new))
/-- sorted(s), s a tracked set of texts -/
def rSortS (P : Program) (w : World) : List V → Hp → VK → Prop := fun vs H Q => ∃ (a : Addr) (l : List Str), vs = [V.ref a] ∧ H a = some (SO P w a l) ∧ l.length < 64 ∧ ∀ (ys : List Str) (p : Addr), ys.Perm l → sortedS ys = true → H p = none → Q (.ref p) (upd H p (.lst (ys.map V.str)))
theorem cr_sortS (hc : X.calm = true) : CallR X (.builtin "sorted") (rSortS X.prog X.w) := by
  rintro pins s σ H vs us Q I r ⟨a, l, rfl, ha, h64, q⟩
  obtain ⟨u, rfl, rx⟩ := vals1 r
  cases rx
  refine call_sorted (so_get I ha) (I.ok.hd hc) h64 fun s' p out c ys kk hg ho hz hp hs pm so => ?_
  have small : (ys.map V.str).length ≤ sizeLine := by
    rw [List.length_map, pm.length_eq, sizeLine_eq]
    omega
  have hn : H p = none := I.hok.fresh hz
  have J : Inv X pins σ (upd H p (.lst (ys.map V.str))) s' :=
    I.call' (ch := []) ho (Un.laid kk hz hn) (I.hok.laid kk hz ⟨small, out.toList, c, vals_of_strs hs, by rw [Array.toArray_toList]; exact hp⟩) (by rw [hg]; exact I.bare) (fun _ z => nomatch z)
  exact ⟨.ref p, _, J, rfl, q ys p pm so hn⟩
end
/-! ### the comprehension with two fors -/
section
variable {prog : Program} {w : World} {A : Around} {R : Result → Shared → Prop} {s : Shared} {env : Env} {elt t1 it1 t2 it2 : Expr} {scope : Scope} {pos : Pos} {it acc : Value}
abbrev Sc2 (elt t1 it1 t2 it2 : Expr) (scope : Scope) (pos : Pos) : Expr := .SetComp elt [⟨t1, it1, [], 0⟩, ⟨t2, it2, [], 0⟩] scope pos
theorem turn_in : compTurn (Sc2 elt t1 it1 t2 it2 scope pos) 1 it acc env = (do
      standAt it2.pos
      match ← pyNext it with
      | none => pure (.done .next)
      | some v =>
        letOwnedTupleGo t2 it v
        assign t2 env v
        let mut ok := true
        for c in ([] : List Expr) do
          if ok then ok ← isTrue c env (eval c env)
        if ok then
          (do let v ← eval elt env; standAt elt.pos; let _ ← call (.builtin "set.add") [acc, v])
        again (.compLoop (Sc2 elt t1 it1 t2 it2 scope pos) 1 it acc env)) := by rfl
theorem turn_out : compTurn (Sc2 elt t1 it1 t2 it2 scope pos) 0 it acc env = (do
      standAt it1.pos
      match ← pyNext it with
      | none => pure (.done .next)
      | some v =>
        letOwnedTupleGo t1 it v
        assign t1 env v
        let mut ok := true
        for c in ([] : List Expr) do
          if ok then ok ← isTrue c env (eval c env)
        if ok then
          let x ← eval it2 env
          standAt it2.pos
          let x ← foldedSetIterable it2 env x
          let _ ← runOwn (.compStart (Sc2 elt t1 it1 t2 it2 scope pos) 1 (← holding [x] (pyIter x)) acc env) env
        again (.compLoop (Sc2 elt t1 it1 t2 it2 scope pos) 0 it acc env)) := by rfl
abbrev No : Value → Shared → Prop := fun _ _ => False
theorem loop_in (I : Nat → Shared → Prop)
    (turn : ∀ n s, I n s → wpAny (model prog w) A (pyNext it) (fun r s₁ => match r with
      | none => R (.ok .next) s₁
      | some v => wpAny (model prog w) A (letOwnedTupleGo t2 it v) (fun _ s₁' => wpAny (model prog w) A (assign t2 env v) (fun _ s₂ =>
          wpAny (model prog w) A (eval elt env) (fun x s₄ => wpAny (model prog w) A (call (.builtin "set.add") [acc, x]) (fun _ s₅ => ∃ m, m < n ∧ I m s₅) No s₄) No s₂) No s₁') No s₁) No s)
    (n : Nat) (h : I n s) : codeAny (model prog w) A (.compLoop (Sc2 elt t1 it1 t2 it2 scope pos) 1 it acc env) R s := by
  refine codeAny_loop rfl I (fun n s hI => ?_) n h
  show wpAny _ A ((compTurn (Sc2 elt t1 it1 t2 it2 scope pos) 1 it acc env).onRaise (fun x => do noteFrame x env; theTreesLotGoes x)) _ _ s
  refine wpAny_noted ?_
  rw [turn_in]
  refine wpAny_bind (wpAny_standAt (wpAny_bind (thnF (turn n s hI) fun r s₁ h₁ => ?_)))
  cases r with
  | none => exact wpAny_pure h₁
  | some v =>
    refine wpAny_bind (thnF h₁ fun _ s₁' h₁' => ?_)
    refine wpAny_bind (thnF h₁' fun _ s₂ h₂ => wpAny_bind (wpAny_tests_nil ?_))
    exact wpAny_bind (wpAny_bind (thnF h₂ fun x s₄ h₄ => wpAny_bind (wpAny_standAt (wpAny_bind (thnF h₄ fun _ s₅ h₅ => wpAny_pure (wpAny_pure ⟨rfl, h₅⟩))))))
theorem start_in
    (h0 : codeAny (model prog w) A (.compLoop (Sc2 elt t1 it1 t2 it2 scope pos) 1 it acc env) R s)
    (h : wpAny (model prog w) A (pyIter it) (fun it' s' => codeAny (model prog w) A (.compLoop (Sc2 elt t1 it1 t2 it2 scope pos) 1 it' acc env) R s')
      (notedBy (model prog w) A env fun x s' => R (.error x) s') s) :
    codeAny (model prog w) A (.compStart (Sc2 elt t1 it1 t2 it2 scope pos) 1 it acc env) R s := by
  refine codeAny_of_tree ?_
  show wpAny _ _ ((compStart (Sc2 elt t1 it1 t2 it2 scope pos) 1 it acc env).onRaise (fun x => do noteFrame x env; standAt theWindowsPlace)) _ _ s
  refine wpAny_notedAt ?_
  unfold compStart
  show wpAny _ _ (ask >>= _) _ _ s
  refine wpAny_bind (wpAny_askSetting (wpAny_ite ?_))
  split
  · first
      | exact wpAny_bind (wpAny_pure (wpAny_pure (And.intro rfl h0)))
      | exact wpAny_pure (And.intro rfl h0)
  · first
      | exact wpAny_bind (wpAny_rule (wpAny_bind (wpAny_standAt (wpAny_bind (wpAny_mono h (fun it' s' h' => wpAny_pure (And.intro rfl h')) fun _ _ x => x)))))
      | (refine wpAny_bind (wpAny_rule ?_); show wpAny _ _ (standAt it2.pos >>= _) _ _ s; exact wpAny_bind (wpAny_standAt (wpAny_bind (wpAny_mono h (fun it' s' h' => wpAny_pure (And.intro rfl h')) fun _ _ x => x))))
theorem loop_out (hs : ∀ x, foldedSetIterable it2 env x = pure x) (I : Nat → Shared → Prop)
    (turn : ∀ n s, I n s → wpAny (model prog w) A (pyNext it) (fun r s₁ => match r with
      | none => R (.ok .next) s₁
      | some v => wpAny (model prog w) A (letOwnedTupleGo t1 it v) (fun _ s₁' => wpAny (model prog w) A (assign t1 env v) (fun _ s₂ =>
          wpAny (model prog w) A (eval it2 env) (fun x s₄ => wpAny (model prog w) A (pyIter x) (fun it' s₅ =>
            codeAny (model prog w) A (.compStart (Sc2 elt t1 it1 t2 it2 scope pos) 1 it' acc env) (fun r s' => ∃ f, r = .ok f ∧ ∃ m, m < n ∧ I m s') s₅) No s₄) No s₂) No s₁') No s₁) No s)
    (n : Nat) (h : I n s) : codeAny (model prog w) A (.compLoop (Sc2 elt t1 it1 t2 it2 scope pos) 0 it acc env) R s := by
  refine codeAny_loop rfl I (fun n s hI => ?_) n h
  show wpAny _ A ((compTurn (Sc2 elt t1 it1 t2 it2 scope pos) 0 it acc env).onRaise (fun x => do noteFrame x env; theTreesLotGoes x)) _ _ s
  refine wpAny_noted ?_
  rw [turn_out]
  refine wpAny_bind (wpAny_standAt (wpAny_bind (thnF (turn n s hI) fun r s₁ h₁ => ?_)))
  cases r with
  | none => exact wpAny_pure h₁
  | some v =>
    refine wpAny_bind (thnF h₁ fun _ s₁' h₁' => ?_)
    refine wpAny_bind (thnF h₁' fun _ s₂ h₂ => wpAny_bind (wpAny_tests_nil ?_))
    refine wpAny_bind (thnF h₂ fun x s₄ h₄ => ?_)
    refine wpAny_bind (wpAny_standAt (wpAny_bind (wpAny_of_eq (hs x) ?_)))
    refine wpAny_bind (wpAny_holding (thnF h₄ fun it' s₅ h₅ => ?_))
    refine wpAny_bind (wpAny_runOwn (codeAny_mono h₅ fun r s' ⟨f, e, h⟩ => ?_))
    subst e
    exact wpAny_pure ⟨rfl, h⟩
theorem start_out
    (h0 : codeAny (model prog w) A (.compLoop (Sc2 elt t1 it1 t2 it2 scope pos) 0 it acc env) R s)
    (h : wpAny (model prog w) A (pyIter it) (fun it' s' => codeAny (model prog w) A (.compLoop (Sc2 elt t1 it1 t2 it2 scope pos) 0 it' acc env) R s')
      (notedBy (model prog w) A env fun x s' => R (.error x) s') s) :
    codeAny (model prog w) A (.compStart (Sc2 elt t1 it1 t2 it2 scope pos) 0 it acc env) R s := PpSet.codeAny_compStart_set h0 h
end
end SetS
namespace SetS
open PySem PySem.Spec PyProof.Rows L2 Gd PySem.Froz PpSet
theorem wipe_out' {σ : L2.St} {i : Nat} : ∀ {vs : List Nat}, i ∉ vs → (wipe σ vs)[i]? = σ[i]?
  | [], _ => rfl
  | v :: vs, h => by
    unfold wipe
    rw [List.getElem?_set_ne fun z => h (by rw [z]; exact List.mem_cons_self), wipe_out' fun z => h (List.mem_cons_of_mem _ z)]
def tSc2 (P : Program) (w : World) (wi1 : TI) (g1 : TG) (wi2 : TI) (g2 : TG) (te : TE) (vs vs2 : List Nat) : TE := fun σ H Q => wi1 σ H fun J H1 => ∀ D, H1 D = none → ∃ W : Nat → Nat → Hp → Prop, (∃ m, W 0 m (upd H1 D (SO P w D []))) ∧ ∀ i m H, W i m H →
  (J.stop i H ∧ Q (.ref D) H) ∨ (J.go i H ∧ ∃ Nx : Hp → Prop, (∀ H', Nx H' → ∃ m', m' < m ∧ W (i + 1) m' H') ∧ ∀ x H', J.yld i H x H' → g1 x (wipe σ vs) H' fun σ2 H2 => wipe σ2 vs = wipe σ vs ∧ wi2 σ2 H2 fun J2 H3 =>
    ∃ W2 : Nat → Nat → Hp → Prop, (∃ m, W2 0 m H3) ∧ ∀ i m H, W2 i m H → (J2.stop i H ∧ Nx H) ∨ (J2.go i H ∧ ∃ Nx2 : Hp → Prop, (∀ H', Nx2 H' → ∃ m', m' < m ∧ W2 (i + 1) m' H') ∧ ∀ x H', J2.yld i H x H' → g2 x (wipe σ2 vs2) H' fun σ3 H4 =>
      wipe σ3 vs2 = wipe σ2 vs2 ∧ te σ3 H4 fun y H5 => ∃ c l, y = .str c ∧ H5 D = some (SO P w D l) ∧ l.length + 1 < scanBound ∧ Nx2 (upd H5 D (SO P w D (add l c)))))
section
variable {X : Cx}
theorem sc2_core {pins : List (Addr × Obj)} {s : Shared} {σ : L2.St} {H : Hp} {Q : VK} {elt tg iter tg2 iter2 : Expr} {scope : Scope} {own : List (PySem.Str × Nat)} {vs2 : List Nat} {pos pos' : Pos} {wi1 wi2 : TI} {g1 g2 : TG} {te : TE} {use : Option (Value → Sem Unit)} {Qf : Value → Shared → Prop}
    (hc : X.calm = true) (hN : X.N.Nodup) (I : Inv X pins σ H s) (hi : PI X tg iter wi1) (ok : BlkOk X.N X.env.scope scope own) (hv2 : ∀ v ∈ vs2, v ∈ own.map (·.2))
    (hg : ∀ (s : Shared) (H : Hp) (C : Addr) (cl : List (PySem.Str × Addr)) (fp : List Addr), PG (X.blk s H scope (compEnvC scope cl C X.env) fp) tg g1)
    (hi2 : ∀ (s : Shared) (H : Hp) (C : Addr) (cl : List (PySem.Str × Addr)) (fp : List Addr), PI (X.blk s H scope (compEnvC scope cl C X.env) fp) tg2 iter2 wi2)
    (hg2 : ∀ (s : Shared) (H : Hp) (C : Addr) (cl : List (PySem.Str × Addr)) (fp : List Addr), PG (X.blk s H scope (compEnvC scope cl C X.env) fp) tg2 g2)
    (he : ∀ (s : Shared) (H : Hp) (C : Addr) (cl : List (PySem.Str × Addr)) (fp : List Addr), PE (X.blk s H scope (compEnvC scope cl C X.env) fp) elt te) (hs : ∀ x, foldedSetIterable iter X.env x = pure x) (hs2 : ∀ (env : Env) x, foldedSetIterable iter2 env x = pure x)
    (h : tSc2 X.prog X.w wi1 g1 wi2 g2 te (own.map (·.2)) vs2 σ H Q)
    (hRR : ∀ D C s' m H', Inv X pins σ H' s' → Q (.ref D) H' → s'.heap.Ns C m → FpOk X pins H' C → compPost (model X.prog X.w) X.A X.xe use Qf (.ref D) C (.ok .next) s') :
    wpAny (model X.prog X.w) X.A (comprehension (Sc2 elt tg iter tg2 iter2 scope pos) scope X.env pos' (newSet (.type "set")) false (eval iter X.env) use) Qf X.xe s := by
  have hfree : ∀ y ∈ scope.names, y.2 = .free → ∃ c, X.env.cells.lookup y.1 = some c := fun y hy e => by
    rcases ok.free y hy e with k | k
    · exact I.ok.has _ (.inl k)
    · exact I.ok.has _ (.inr k)
  refine wpAny_comprehension_free (use := use) rfl hs (closure_ok hfree) ok.kind (fun y hy e => by rw [ok.uniq y hy, e])
    (thn (hi.run pins s σ H _ I h) fun xv s1 hx => thn hx fun itv s2 h2 => ?_)
  obtain ⟨it, fp, tn, J, H2, e, I2, T, st2, f2, q⟩ := h2
  subst e
  refine newSet_ok (newEnv_comp ?_)
  generalize hD : s2.heap.objs.size = D
  have hDn : H2 D = none := I2.hok.fresh (Nat.le_of_eq hD)
  obtain ⟨W, ⟨m0, w0⟩, turn⟩ := q D hDn
  generalize hs3 : ({ s2 with heap := s2.heap.push { cls := .type "set", dict := none, data := .set #[] 0 (.fresh 0 0 (!X.w.params.followText "set-order")) } } : Shared) = s3
  have I3 : Inv X pins σ (upd H2 D (SO X.prog X.w D [])) s3 := by
    rw [← hs3]
    refine I2.laid (t' := s2.toks) (fun b o e => Heap.get?_push_of_some _ e) (Nat.le_of_eq hD) ?_
    rw [← hD]
    exact so_new fresh
  have h3 : s3.heap = s2.heap.push { cls := .type "set", dict := none, data := .set #[] 0 (.fresh 0 0 (!X.w.params.followText "set-order")) } := by rw [← hs3]
  have sz : ∀ b ∈ fp, b < s2.heap.objs.size := fun b hb => by
    obtain ⟨o, e, _⟩ := T.obj _ _ st2 b hb
    exact Heap.lt_size e
  have f3 : ∀ b ∈ fp, FpOk X pins (upd H2 D (SO X.prog X.w D [])) b ∧ b < s3.heap.objs.size := fun b hb => by
    have hlt := sz b hb
    refine ⟨⟨?_, (f2 b hb).2⟩, by rw [h3, Heap.size_push]; exact Nat.lt_succ_of_lt hlt⟩
    rw [upd_ne (by rw [← hD]; exact Nat.ne_of_lt hlt)]
    exact (f2 b hb).1
  have st3 : tn 0 s3.heap := T.keep _ _ _ st2 fun b _ o e => by rw [h3]; exact Heap.get?_push_of_some _ e
  have I4 := block_start I3 ok hN f3
  show codeAny _ _ (.compStart (Sc2 elt tg iter tg2 iter2 scope pos) 0 (.ref it) (.ref D) (compEnvC scope (cellsFrom (s3.heap.objs.size + 1) scope.names (cloFrom X.env.cells scope.names [])) s3.heap.objs.size X.env)) (compPost (model X.prog X.w) X.A X.xe use Qf (.ref D) s3.heap.objs.size) { s3 with heap := pushCells (s3.heap.push { cls := .type "dict", data := .dict #[] }) scope.names }
  generalize hcl : cellsFrom (s3.heap.objs.size + 1) scope.names (cloFrom X.env.cells scope.names []) = cl at I4 ⊢
  have pg := hg s3 (upd H2 D (SO X.prog X.w D [])) s3.heap.objs.size cl fp
  have pi2 := hi2 s3 (upd H2 D (SO X.prog X.w D [])) s3.heap.objs.size cl fp
  have pg2 := hg2 s3 (upd H2 D (SO X.prog X.w D [])) s3.heap.objs.size cl fp
  have pe := he s3 (upd H2 D (SO X.prog X.w D [])) s3.heap.objs.size cl fp
  have nfp : ∀ b ∈ fp, (upd H2 D (SO X.prog X.w D [])) b = none := fun b hb => (f3 b hb).1.1
  generalize hce : compEnvC scope cl s3.heap.objs.size X.env = ce at I4 pg pg2 pi2 pe ⊢
  have cL : ce.locals = s3.heap.objs.size := by subst hce; rfl
  generalize hH3 : upd H2 D (SO X.prog X.w D []) = H3 at I3 I4 pg pg2 pi2 pe w0 nfp f3
  generalize hs4 : ({ s3 with heap := pushCells (s3.heap.push { cls := .type "dict", data := .dict #[] }) scope.names } : Shared) = s4 at I4 ⊢
  have st4 : tn 0 s4.heap := T.keep _ _ _ st3 fun b _ o e => by rw [← hs4]; exact pushCells_keeps _ _ _ _ (Heap.get?_push_of_some _ e)
  have stat : ∀ {σ' : L2.St} {H' : Hp} {s' : Shared}, Inv (X.blk s3 H3 scope ce fp) [] σ' H' s' → (∀ b ∈ fp, H' b = none) → ∀ b ∈ fp, FpOk (X.blk s3 H3 scope ce fp) [] H' b := fun {σ' H' s'} I' hn b hb =>
    ⟨hn b hb, (I'.ok.exf b hb).1, I'.ok.exfs b hb, .inl hb, fun x c e => (I'.ok.exf b hb).2 x c e, fun p hp => absurd (show p ∈ ([] : List (Addr × Obj)) ++ [] from hp) (by simp)⟩
  have loop : codeAny (model X.prog X.w) X.A (.compLoop (Sc2 elt tg iter tg2 iter2 scope pos) 0 (.ref it) (.ref D) ce) (compPost (model X.prog X.w) X.A X.xe use Qf (.ref D) s3.heap.objs.size) s4 := by
    refine loop_out (hs2 ce) (fun n s' => ∃ i H', Inv (X.blk s3 H3 scope ce fp) [] (wipe σ (own.map (·.2))) H' s' ∧ tn i s'.heap ∧ (∀ b ∈ fp, H' b = none) ∧ W i n H') ?_ m0 ⟨0, H3, I4, st4, nfp, w0⟩
    rintro n s5 ⟨i, H5, I5, st5, n5, w5⟩
    rcases turn i n H5 w5 with ⟨stop, qq⟩ | ⟨go, Nx, hNx, step⟩
    · have td := T.done (X.blk s3 H3 scope ce fp) rfl rfl rfl hc i [] s5 _ H5 (fun _ _ => False) I5 (stat I5 n5) st5 stop
      refine thnF td fun r s6 ⟨hr, I6⟩ => ?_
      subst hr
      have I7 : Inv X pins σ H5 s6 := I3.call' (ch := fp) I6.os I6.base I6.hok I6.bare fun b hb => ⟨(f3 b hb).1.2.2.2.1, (f3 b hb).1.2.1, (f3 b hb).1.2.2.2.2.1, (f3 b hb).1.2.2.2.2.2⟩
      have nC : H5 s3.heap.objs.size = none := by
        have z : H5 ce.locals = none := I6.free
        rw [cL] at z
        exact z
      obtain ⟨m, hn, _⟩ := I6.loc
      have hn : s6.heap.Ns ce.locals m := hn
      rw [cL] at hn
      exact hRR D s3.heap.objs.size s6 m H5 I7 qq hn (I3.fpOk (Nat.le_refl _) nC)
    · have ti := T.item (X.blk s3 H3 scope ce fp) rfl rfl rfl hc i [] s5 _ H5 (fun _ _ => False) I5 (stat I5 n5) st5 go
      refine thnF ti fun r s6 ⟨u, hr, h6⟩ => ?_
      subst hr
      refine thnF h6 fun _ s7 ⟨x, H7, I7, r7, y7, st7, n7⟩ => ?_
      have I7' := I7.pinned (stat I7 n7) (T.obj _ _ st7)
      refine thnF (pg.run _ s7 _ H7 x u _ I7' r7 (step x H7 y7)) fun _ s8 ⟨σ8, H8, I8, hw8, q8⟩ => ?_
      refine thnF (pi2.run _ s8 σ8 H8 _ I8 q8) fun xv s9 h9 => thnF h9 fun itv s10 h10 => ?_
      obtain ⟨itb, fpb, tnb, J2, H10, e, I10, T2, st10, f10, W2, ⟨m20, w20⟩, turn2⟩ := h10
      subst e
      -- the outer turn's end
      have fin : ∀ {s' : Shared} {H' : Hp}, Inv (X.blk s3 H3 scope ce fp) ([] ++ pinsAt fp s7.heap) (wipe σ8 vs2) H' s' → Nx H' → ∃ m, m < n ∧ ∃ i H', Inv (X.blk s3 H3 scope ce fp) [] (wipe σ (own.map (·.2))) H' s' ∧ tn i s'.heap ∧ (∀ b ∈ fp, H' b = none) ∧ W i m H' := fun {s' H'} I' nx => by
        obtain ⟨m', hm, w'⟩ := hNx H' nx
        have pin' : ∀ b ∈ fp, ∀ o, s7.heap.get? b = some o → s'.heap.get? b = some o ∧ H' b = none := fun b hb o e =>
          let z := I'.pin (b, o) (List.mem_append_right _ (List.mem_append_right _ (mem_pinsAt hb e)))
          ⟨z.1, z.2.1⟩
        have hl : (wipe σ (own.map (·.2))).length = (wipe σ8 vs2).length := by rw [← hw8, wipe_length, wipe_length]
        refine ⟨m', hm, i + 1, H', (I'.unpinned (pins := [])).weak hl (fun j v e => ?_), T.keep _ _ _ st7 fun b hb o e => (pin' b hb o e).1, fun b hb => ?_, w'⟩
        · rw [← hw8] at e
          obtain ⟨e1, e2⟩ := wipe_some e
          rw [wipe_out' fun z => e2 (hv2 _ z)]
          exact e1
        · obtain ⟨o, e, _⟩ := T.obj _ _ st7 b hb
          exact (pin' b hb o e).2
      have stat2 : ∀ {H' : Hp}, (∀ b ∈ fpb, H' b = none) → ∀ b ∈ fpb, FpOk (X.blk s3 H3 scope ce fp) ([] ++ pinsAt fp s7.heap) H' b := fun {H'} hn b hb => ⟨hn b hb, (f10 b hb).2⟩
      have I10' : Inv (X.blk s3 H3 scope ce fp) ([] ++ pinsAt fp s7.heap) (wipe σ8 vs2) H10 s10 := I10.weak (wipe_length _ _) fun j v e => (wipe_some e).1
      have loop2 : codeAny (model X.prog X.w) X.A (.compLoop (Sc2 elt tg iter tg2 iter2 scope pos) 1 (.ref itb) (.ref D) ce) (fun r s' => ∃ f, r = .ok f ∧ ∃ m, m < n ∧ ∃ i H', Inv (X.blk s3 H3 scope ce fp) [] (wipe σ (own.map (·.2))) H' s' ∧ tn i s'.heap ∧ (∀ b ∈ fp, H' b = none) ∧ W i m H') s10 := by
        refine loop_in (fun n2 s' => ∃ j H', Inv (X.blk s3 H3 scope ce fp) ([] ++ pinsAt fp s7.heap) (wipe σ8 vs2) H' s' ∧ tnb j s'.heap ∧ (∀ b ∈ fpb, H' b = none) ∧ W2 j n2 H') ?_ m20 ⟨0, H10, I10', st10, fun b hb => (f10 b hb).1, w20⟩
        rintro n2 s11 ⟨j, H11, I11, st11, n11, w11⟩
        rcases turn2 j n2 H11 w11 with ⟨stop, nx⟩ | ⟨go2, Nx2, hNx2, step2⟩
        · have td := T2.done (X.blk s3 H3 scope ce fp) rfl rfl rfl hc j _ s11 _ H11 (fun _ _ => False) I11 (stat2 n11) st11 stop
          refine thnF td fun r s12 ⟨hr, I12⟩ => ?_
          subst hr
          exact ⟨_, rfl, fin I12 nx⟩
        · have ti := T2.item (X.blk s3 H3 scope ce fp) rfl rfl rfl hc j _ s11 _ H11 (fun _ _ => False) I11 (stat2 n11) st11 go2
          refine thnF ti fun r s12 ⟨u2, hr, h12⟩ => ?_
          subst hr
          refine thnF h12 fun _ s13 ⟨x2, H13, I13, r13, y13, st13, n13⟩ => ?_
          have I13' := I13.pinned (stat2 n13) (T2.obj _ _ st13)
          refine thnF (pg2.run _ s13 _ H13 x2 u2 _ I13' r13 (step2 x2 H13 y13)) fun _ s14 ⟨σ14, H14, I14, hw14, q14⟩ => ?_
          refine thnF (pe.run _ s14 σ14 H14 _ I14 q14) fun z s15 ⟨yv, H15, I15, r15, cb, l, ey, hD15, hz15, nx⟩ => ?_
          subst ey
          refine so_add (X := X.blk s3 H3 scope ce fp) I15 hD15 hz15 r15 fun s16 I16 => ?_
          obtain ⟨m', hm, w'⟩ := hNx2 _ nx
          have pin' : ∀ b ∈ fpb, ∀ o, s13.heap.get? b = some o → s16.heap.get? b = some o ∧ (upd H15 D (SO X.prog X.w D (add l cb))) b = none := fun b hb o e =>
            let z := I16.pin (b, o) (List.mem_append_right _ (List.mem_append_right _ (mem_pinsAt hb e)))
            ⟨z.1, z.2.1⟩
          have hl : (wipe σ8 vs2).length = σ14.length := by rw [← hw14, wipe_length]
          refine ⟨m', hm, j + 1, _, (I16.unpinned (pins := [] ++ pinsAt fp s7.heap)).weak hl (fun k v e => ?_), T2.keep _ _ _ st13 fun b hb o e => (pin' b hb o e).1, fun b hb => ?_, w'⟩
          · rw [← hw14] at e
            exact (wipe_some e).1
          · obtain ⟨o, e, _⟩ := T2.obj _ _ st13 b hb
            exact (pin' b hb o e).2
      exact start_in loop2 (T2.self X.A 0 _ _ _ st10 loop2)
  exact start_out loop (T.self X.A 0 _ _ _ st4 loop)
theorem pe_sc2 {elt tg iter tg2 iter2 : Expr} {scope : Scope} {own : List (PySem.Str × Nat)} {vs2 : List Nat} {pos : Pos} {wi1 wi2 : TI} {g1 g2 : TG} {te : TE}
    (hc : X.calm = true) (hN : X.N.Nodup) (hi : PI X tg iter wi1) (ok : BlkOk X.N X.env.scope scope own) (hv2 : ∀ v ∈ vs2, v ∈ own.map (·.2))
    (hg : ∀ (s : Shared) (H : Hp) (C : Addr) (cl : List (PySem.Str × Addr)) (fp : List Addr), PG (X.blk s H scope (compEnvC scope cl C X.env) fp) tg g1)
    (hi2 : ∀ (s : Shared) (H : Hp) (C : Addr) (cl : List (PySem.Str × Addr)) (fp : List Addr), PI (X.blk s H scope (compEnvC scope cl C X.env) fp) tg2 iter2 wi2)
    (hg2 : ∀ (s : Shared) (H : Hp) (C : Addr) (cl : List (PySem.Str × Addr)) (fp : List Addr), PG (X.blk s H scope (compEnvC scope cl C X.env) fp) tg2 g2)
    (he : ∀ (s : Shared) (H : Hp) (C : Addr) (cl : List (PySem.Str × Addr)) (fp : List Addr), PE (X.blk s H scope (compEnvC scope cl C X.env) fp) elt te) (hs : ∀ x, foldedSetIterable iter X.env x = pure x := by intro _; rfl) (hs2 : ∀ (env : Env) x, foldedSetIterable iter2 env x = pure x := by intro _ _; rfl) :
    PE X (Sc2 elt tg iter tg2 iter2 scope pos) (tSc2 X.prog X.w wi1 g1 wi2 g2 te (own.map (·.2)) vs2) := by
  refine ⟨fun pins s σ H Q I h => ?_⟩
  rw [PpSet.eval_SetComp]
  refine sc2_core hc hN I hi ok hv2 hg hi2 hg2 he hs hs2 h fun D C s' m H' I' q hn f => ⟨m, hn, fun h'' sb => ?_⟩
  obtain ⟨f0, f1, f2, f3, f4, f5⟩ := f
  exact ⟨.ref D, H', I'.turned (t' := s'.toks) (fun b o hb e => (sb.2 b hb).trans e) f0 f1 f3 f4 f5, rfl, q⟩
end
end SetS
namespace Q
open PySem PySem.Spec PyProof.Rows L2 Gd
variable [Tbl]
/-! ### sorted({elt for x in xs for y in ys}), elt a text -/
def comp2D (g1 : Tg) (it2 : Mo (List D)) (g2 : Tg) (e : Mo R) (vs vs2 : List Nat) : List D → Mo (List D)
  | [], ρ => .ok [] ρ
  | d :: ds, ρ => match g1 d ρ with
    | none => .no
    | some ρ1 => (it2 ρ1).bnd fun ds2 ρ2 => (compD g2 bYes e vs2 ds2 (wipeE ρ2 vs2)).bnd fun xs ρ3 => (comp2D g1 it2 g2 e vs vs2 ds (wipeE ρ3 vs)).bnd fun ys ρ4 => .ok (xs ++ ys) ρ4
def addAll : List Str → List Str → List Str
  | l, [] => l
  | l, x :: xs => addAll (SetS.add l x) xs
theorem addAll_app : ∀ (xs l ys : List Str), addAll l (xs ++ ys) = addAll (addAll l xs) ys
  | [], _, _ => rfl
  | x :: xs, l, ys => addAll_app xs (SetS.add l x) ys
theorem add_len (l : List Str) (x : Str) : (SetS.add l x).length ≤ l.length + 1 := by
  unfold SetS.add
  split
  · exact Nat.le_succ _
  · exact Nat.le_refl _
theorem addAll_len : ∀ (xs l : List Str), (addAll l xs).length ≤ l.length + xs.length
  | [], l => Nat.le_refl _
  | x :: xs, l => by
    have a := addAll_len xs (SetS.add l x)
    have b := add_len l x
    show (addAll (SetS.add l x) xs).length ≤ l.length + (xs.length + 1)
    omega
def setOut (ρ1 : Ev) (vs : List Nat) (xs : List D) (ρ2 : Ev) : Rt Ob := match strsD xs with
  | some ns => if ns.length ≤ 4000 ∧ (addAll [] ns).length < 64 then .ok (.lst ((srt (addAll [] ns)).map PyData.str)) (mixE ρ1 ρ2 vs) else .no
  | none => .no
def fSc2 (it1 : Mo (List D)) (g1 : Tg) (it2 : Mo (List D)) (g2 : Tg) (e : Mo R) (vs vs2 : List Nat) : Mo Ob := fun ρ => (it1 ρ).bind fun ds ρ1 => if noOwn ρ1 vs = true then (comp2D g1 it2 g2 e vs vs2 ds (wipeE ρ1 vs)).bnd fun xs ρ2 => setOut ρ1 vs xs ρ2 else .no
theorem wk_it {J : It} {n : Nat} {G : Hp → Prop} {Y : Nat → Hp → V → Hp → Prop} (w : Walk J n G Y) {Step : V → Hp → (Hp → Prop) → Prop} {H0 : Hp} {Qd : Hp → Prop} (Pv : Nat → Hp → Prop) (h0 : Pv 0 H0) (hG : ∀ i H, i ≤ n → Pv i H → G H)
    (hs : ∀ i x H H', i < n → Pv i H → Y i H x H' → Step x H' (Pv (i + 1))) (hd : ∀ H, Pv n H → Qd H) :
    ∃ W : Nat → Nat → Hp → Prop, (∃ m, W 0 m H0) ∧ ∀ i m H, W i m H →
      (J.stop i H ∧ Qd H) ∨ (J.go i H ∧ ∃ Nx : Hp → Prop, (∀ H', Nx H' → ∃ m', m' < m ∧ W (i + 1) m' H') ∧ ∀ x H', J.yld i H x H' → Step x H' Nx) := by
  refine ⟨fun i m H => m = n - i ∧ i ≤ n ∧ Pv i H, ⟨n, by simp, Nat.zero_le _, h0⟩, ?_⟩
  rintro i m H ⟨rfl, hi, p⟩
  have q := hG i H hi p
  by_cases hlt : i < n
  · exact .inr ⟨w.goes i H hlt q, Pv (i + 1), fun H' p' => ⟨n - (i + 1), by omega, rfl, hlt, p'⟩, fun x H' y => hs i x H H' hlt p (w.yields i H x H' hlt q y)⟩
  · have e : i = n := by omega
    subst e
    exact .inl ⟨w.stops H q, hd H p⟩
theorem Rt.bnd_ok {α β : Type} {r : Rt α} {k : α → Ev → Rt β} {b : β} {ρ : Ev} (h : r.bnd k = .ok b ρ) : ∃ a ρ1, r = .ok a ρ1 ∧ k a ρ1 = .ok b ρ := by
  cases r with
  | no => cases h
  | ex c d ρ' => cases h
  | ok a ρ1 => exact ⟨a, ρ1, rfl, h⟩
section
variable {K : PySem.W.Frag} {n : Nat} {W : XW}
theorem ow_keep {Ha Hb : Hp} {σa σb : St} {ρa ρb : Ev} {D : Addr} {o : HO} (nt : ∀ ps, o ≠ .tbl ps) (e : Ha D = some o) (no : ¬ Own σa ρa D) (s : Stp K n Ha σa ρa Hb σb ρb) : Hb D = some o ∧ ¬ Own σb ρb D := by
  refine ⟨s.kept _ _ e no nt, fun z => ?_⟩
  rcases s.news _ z with z | z
  · exact no z
  · rw [e] at z
    cases z
theorem so_nt {P : Program} {w : World} {a : Addr} {l : List Str} (ps) : SetS.SO P w a l ≠ .tbl ps := fun z => by
  unfold SetS.SO at z
  cases z
theorem so_code {P : Program} {w : World} {a : Addr} {l : List Str} (q : Str) : SetS.SO P w a l ≠ LamX.CodeO a q := fun z => by
  unfold SetS.SO LamX.CodeO at z
  injection z with z
  have hg : ({ objs := Array.replicate (a + 1) ({ cls := .none, data := .fields #[.none, .str q 0] } : Obj) } : Heap).get? a = some { cls := .none, data := .fields #[.none, .str q 0] } :=
    Heap.get?_some_iff.mpr ⟨by simp, rfl⟩
  have h2 := (congrFun z _).mpr ⟨_, _, _, hg, rfl, rfl⟩
  obtain ⟨D, ho, _⟩ := h2
  rw [hg] at ho
  cases ho
theorem Stp.besideX {H H' : Hp} {σ σ' : St} {ρ ρ' : Ev} (s : Stp K n H σ ρ H' σ' ρ') {p : Addr} {h u : HO} (np : H p = none) (e : H' p = some h) (m : Mut (some h)) (m1 : ∀ ps, h ≠ .tbl ps) (m2 : ∀ q, h ≠ LamX.CodeO p q) (no : ¬ Own σ' ρ' p) : Stp K n H σ ρ (L2.upd H' p u) σ' ρ' := by
  refine ⟨s.good.grow (grow_upd e m m2) (fun q o hq eq => ?_) (TabOk.updX e m m1 m2), s.par, fun b o eb nb nt => ?_, s.news, fun b hb => s.live b (live_upd e b hb)⟩
  · rw [upd_ne fun z => no (by rw [← z]; exact hq)]
    exact eq
  · rw [upd_ne (ne_of_none eb np)]
    exact s.kept b o eb nb nt
theorem sc2_run {P : Program} {w : World} {is1 is2 vs vs2 : List Nat} {it1 it2 : Mo (List D)} {g1 g2 : Tg} {e : Mo R} (hi1 : ∀ i ∈ is1, i ∈ vs) (hi2 : ∀ i ∈ is2, i ∈ vs2) (h2 : ∀ v ∈ vs2, v ∈ vs) (hn : ∀ v ∈ vs, n ≤ v) (σ : St) (H : Hp) (Q : VK) (h : tF K n W (fSc2 it1 g1 it2 g2 e vs vs2) σ H Q) :
    SetS.tSc2 P w (tI K n W it1) (tG K n is1 g1) (tI K n W0 it2) (tG K n is2 g2) (tX K n W0 e) vs vs2 σ H fun x H1 => SetS.rSortS P w [x] H1 Q := by
  obtain ⟨ρ, G, h⟩ := h
  have hn2 : ∀ v ∈ vs2, n ≤ v := fun v hv => hn v (h2 v hv)
  refine ⟨ρ, G, (Aft.bind h).mono fun ds ρ1 H1 s1 h1 J wk D hD => ?_⟩
  split at h1
  case isFalse => exact h1.elim
  case isTrue hno =>
  have sD := same_upd (o := SetS.SO P w D []) hD
  have no1 : ¬ Own (wipe σ vs) (wipeE ρ1 vs) D := fun z => new_own s1.good hD z.wipe
  have stD : Stp K n H1 (wipe σ vs) (wipeE ρ1 vs) (upd H1 D (SetS.SO P w D [])) (wipe σ vs) (wipeE ρ1 vs) := Stp.same (s1.good.wipe vs) sD
  obtain ⟨ns, ρ2, ec, l4, l64, h1⟩ : ∃ (ns : List Str) (ρ2 : Ev), comp2D g1 it2 g2 e vs vs2 ds (wipeE ρ1 vs) = .ok (ns.map PyData.str) ρ2 ∧ ns.length ≤ 4000 ∧ (addAll [] ns).length < 64 ∧
      Aft K n W H1 σ ρ1 (Rt.ok (Ob.lst ((srt (addAll [] ns)).map PyData.str)) (mixE ρ1 ρ2 vs)) fun o ρ' H' => ∀ p h, H p = none → H' p = some h → ObR K H' h o → ¬ Own σ ρ' p → Q (.ref p) H' := by
    cases hc : comp2D g1 it2 g2 e vs vs2 ds (wipeE ρ1 vs) with
    | no =>
      rw [hc] at h1
      exact h1.elim
    | ex c d ρ' =>
      rw [hc] at h1
      exact h1.elim
    | ok xs ρ2 =>
      rw [hc] at h1
      have h1 : Aft K n W H1 σ ρ1 (setOut ρ1 vs xs ρ2) fun o ρ' H' => ∀ p h, H p = none → H' p = some h → ObR K H' h o → ¬ Own σ ρ' p → Q (.ref p) H' := h1
      unfold setOut at h1
      cases es : strsD xs with
      | none =>
        rw [es] at h1
        exact h1.elim
      | some ns =>
        rw [es] at h1
        dsimp only at h1
        split at h1
        · next q => exact ⟨ns, ρ2, by rw [strsD_eq es], q.1, q.2, h1⟩
        · exact h1.elim
  refine wk_it wk (fun i H' => ∃ ρ' pn xn, Stp K n H1 (wipe σ vs) (wipeE ρ1 vs) H' (wipe σ vs) ρ' ∧ H' D = some (SetS.SO P w D (addAll [] pn)) ∧ ¬ Own (wipe σ vs) ρ' D ∧ ns = pn ++ xn ∧ comp2D g1 it2 g2 e vs vs2 (ds.drop i) ρ' = .ok (xn.map PyData.str) ρ2)
    ⟨_, [], ns, stD, upd_same, no1, rfl, ec⟩ (fun i H' _ hP => ?_) (fun i x H' H2 hi hP hY => ?_) (fun H' hP => ?_)
  · obtain ⟨ρ', _, _, st, _⟩ := hP
    exact st.grow (s1.good.wipe vs)
  · obtain ⟨ρ', pn, xn, st, eD, no, en, ec⟩ := hP
    obtain ⟨sm, d, ed, imx⟩ := hY
    have lt : i < ds.length := hi
    have es : ds.drop i = d :: ds.drop (i + 1) := by
      rw [List.drop_eq_getElem_cons lt]
      rw [List.getElem?_eq_getElem lt] at ed
      rw [Option.some.inj ed]
    rw [es] at ec
    have st2 := st.trans (Stp.same st.good sm)
    have eD2 := sm _ _ eD
    unfold comp2D at ec
    cases eg : g1 d ρ' with
    | none =>
      rw [eg] at ec
      cases ec
    | some ρ3 =>
      rw [eg] at ec
      obtain ⟨ds2, ρ4, e4, ec⟩ := Rt.bnd_ok ec
      obtain ⟨ys, ρ5, e5, ec⟩ := Rt.bnd_ok ec
      obtain ⟨zs, ρ6, e6, ec⟩ := Rt.bnd_ok ec
      have exs : ys ++ zs = xn.map PyData.str ∧ ρ6 = ρ2 := by
        injection ec with a b
        exact ⟨a, b⟩
      obtain ⟨exs, rfl⟩ := exs
      obtain ⟨yn, zn, rfl, rfl, rfl⟩ := List.map_eq_append_iff.mp exs.symm
      refine ⟨ρ', d, st2.good, imx, ρ3, eg, fun σ3 H3 s3 nj l3 => ?_⟩
      have l3 : σ3.length = σ.length := by rw [l3, wipe_length]
      have ew : wipe σ3 vs = wipe σ vs := wipe_eq l3 fun j hj => nj j fun z => hj (hi1 j z)
      obtain ⟨eD3, no3⟩ := ow_keep (so_nt) eD2 no s3
      have st3 := st2.trans s3
      refine ⟨ew, ρ3, s3.good, ?_⟩
      rw [e4]
      intro H4 s4 J2 wk2
      obtain ⟨eD4, no4⟩ := ow_keep so_nt eD3 no3 s4
      have st4 := st3.trans s4
      have stI : Stp K n H1 (wipe σ vs) (wipeE ρ1 vs) H4 (wipe σ3 vs2) (wipeE ρ4 vs2) := st4.wiped hn2
      refine wk_it wk2 (fun j H' => ∃ ρ' qn rn, Grow H4 H' ∧ Stp K n H1 (wipe σ vs) (wipeE ρ1 vs) H' (wipe σ3 vs2) ρ' ∧ H' D = some (SetS.SO P w D (addAll [] (pn ++ qn))) ∧ ¬ Own (wipe σ3 vs2) ρ' D ∧ yn = qn ++ rn ∧ compD g2 bYes e vs2 (ds2.drop j) ρ' = .ok (rn.map PyData.str) ρ5)
        ⟨_, [], yn, Grow.refl _, stI, by rw [List.append_nil]; exact eD4, fun z => no4 z.wipe, rfl, e5⟩ (fun j H' _ hP => ?_) (fun j x H' H5 hj hP hY => ?_) (fun H' hP => ?_)
      · obtain ⟨ρ', _, _, gr, _⟩ := hP
        exact gr
      · obtain ⟨ρ7, qn, rn, grJ, stJ, eDJ, noJ, eyn, ecJ⟩ := hP
        obtain ⟨sm, d2, ed, imx⟩ := hY
        have lt : j < ds2.length := hj
        have es : ds2.drop j = d2 :: ds2.drop (j + 1) := by
          rw [List.drop_eq_getElem_cons lt]
          rw [List.getElem?_eq_getElem lt] at ed
          rw [Option.some.inj ed]
        rw [es] at ecJ
        have stK := stJ.trans (Stp.same stJ.good sm)
        have eDK := sm _ _ eDJ
        unfold compD at ecJ
        cases eg2 : g2 d2 ρ7 with
        | none =>
          rw [eg2] at ecJ
          cases ecJ
        | some ρ8 =>
          rw [eg2] at ecJ
          have ecJ : (e ρ8).bnd (fun r ρ3 => match r with
            | .d x => (compD g2 bYes e vs2 (ds2.drop (j + 1)) (wipeE ρ3 vs2)).bnd fun xs ρ4 => .ok (x :: xs) ρ4
            | .v _ => .no) = .ok (rn.map PyData.str) ρ5 := ecJ
          obtain ⟨r, ρ9, e9, ecJ⟩ := Rt.bnd_ok ecJ
          refine ⟨ρ7, d2, stK.good, imx, ρ8, eg2, fun σ8 H8 s8 nj8 l8 => ?_⟩
          have l8 : σ8.length = σ3.length := by rw [l8, wipe_length]
          have ew8 : wipe σ8 vs2 = wipe σ3 vs2 := wipe_eq l8 fun k hk => nj8 k fun z => hk (hi2 k z)
          obtain ⟨eD8, no8⟩ := ow_keep so_nt eDK noJ s8
          refine ⟨ew8, ρ8, s8.good, ?_⟩
          rw [e9]
          intro H9 s9 v rv
          obtain ⟨eD9, no9⟩ := ow_keep so_nt eD8 no8 s9
          have st9 := (stK.trans s8).trans s9
          cases rv with
          | v _ => cases ecJ
          | @d x9 imv =>
            obtain ⟨us, ρ10, e10, ecJ⟩ := Rt.bnd_ok (show (compD g2 bYes e vs2 (ds2.drop (j + 1)) (wipeE ρ9 vs2)).bnd (fun xs ρ4 => Rt.ok (x9 :: xs) ρ4) = .ok (rn.map PyData.str) ρ5 from ecJ)
            obtain ⟨ex, rfl⟩ : x9 :: us = rn.map PyData.str ∧ ρ10 = ρ5 := by
              injection ecJ with a b
              exact ⟨a, b⟩
            cases rn with
            | nil => cases ex
            | cons c rn =>
              injection ex with ex1 ex2
              subst ex1
              subst ex2
              have ev : v = .str c := by cases imv; rfl
              have lq : (addAll [] (pn ++ qn)).length ≤ 0 + (pn ++ qn).length := addAll_len (pn ++ qn) []
              have le : ns.length = pn.length + (yn.length + zn.length) := by rw [en, List.length_append, List.length_append]
              have ly : yn.length = qn.length + (rn.length + 1) := by rw [eyn, List.length_append]; rfl
              rw [List.length_append] at lq
              refine ⟨c, _, ev, eD9, Nat.lt_of_le_of_lt (show (addAll [] (pn ++ qn)).length + 1 ≤ 4000 by omega) (by decide), wipeE ρ9 vs2, qn ++ [c], rn, (grJ.trans (Grow.same sm)).trans ((s8.grow stK.good).trans ((s9.grow s8.good).trans (grow_upd eD9 trivial so_code))), ?_, ?_, fun z => ?_, by rw [eyn, List.append_assoc]; rfl, e10⟩
              · have := (st9.besideX (u := SetS.SO P w D (SetS.add (addAll [] (pn ++ qn)) c)) hD eD9 trivial so_nt so_code no9).wiped (vs := vs2) hn2
                rw [ew8] at this
                exact this
              · rw [upd_same, ← List.append_assoc, addAll_app (pn ++ qn) [] [c]]
                rfl
              · rw [← ew8] at z
                exact no9 z.wipe
      · obtain ⟨ρ7, qn, rn, grJ, stJ, eDJ, noJ, eyn, ecJ⟩ := hP
        rw [List.drop_length] at ecJ
        obtain ⟨e0, rfl⟩ : ([] : List PyData) = rn.map PyData.str ∧ ρ7 = ρ5 := by
          injection ecJ with a b
          exact ⟨a, b⟩
        cases rn with
        | cons _ _ => cases e0
        | nil =>
        rw [List.append_nil] at eyn
        subst eyn
        have ew2 : wipe (wipe σ3 vs2) vs = wipe σ vs := by
          rw [← ew]
          exact wipe_eq (by rw [wipe_length]) fun k hk => by rw [wipe_out fun z => hk (h2 k z), wipe_out hk]
        refine ⟨wipeE ρ7 vs, pn ++ yn, zn, ?_, eDJ, fun z => ?_, by rw [en, List.append_assoc], e6⟩
        · have := stJ.wiped (vs := vs) hn
          rw [ew2] at this
          exact this
        · rw [← ew2] at z
          exact noJ z.wipe
  · obtain ⟨ρ', pn, xn, st, eD, no, en, ec⟩ := hP
    rw [List.drop_length] at ec
    obtain ⟨e0, rfl⟩ : ([] : List PyData) = xn.map PyData.str ∧ ρ' = ρ2 := by
      injection ec with a b
      exact ⟨a, b⟩
    cases xn with
    | cons _ _ => cases e0
    | nil =>
    rw [List.append_nil] at en
    subst en
    refine ⟨D, _, rfl, eD, l64, fun ys p pm so hp => ?_⟩
    have stF := Stp.mixed s1.good hn (noOwn_at hno) st
    rw [srt_one pm so]
    exact h1 _ (stF.trans (Stp.same stF.good (same_upd hp))) p _ (s1.live _ (stF.live p hp)) upd_same (.lst (ImL.of_strs _)) (new_own stF.good hp)
end
section
variable {X : Cx} {n : Nat} {W : XW}
theorem xf_sortSc2 {elt tg iter tg2 iter2 : Expr} {scope : Scope} {own : List (Str × Nat)} {is1 is2 vs vs2 : List Nat} {p cpos pos : Pos} {it1 it2 : Mo (List D)} {g1 g2 : Tg} {e : Mo R} (hc : X.calm = true) (hgs : Gl X "sorted") (hms : X.mg "sorted" = none) (hN : X.N.Nodup) (hv : vs = own.map (·.2)) (hi1 : ∀ i ∈ is1, i ∈ vs) (hi2 : ∀ i ∈ is2, i ∈ vs2) (h2 : ∀ v ∈ vs2, v ∈ vs) (hn : ∀ v ∈ vs, n ≤ v)
    (hi : XI X n W tg iter it1) (ok : BlkOk X.N X.env.scope scope own)
    (hg : ∀ (s : Shared) (H : Hp) (C : Addr) (cl : List (Str × Addr)) (fp : List Addr), PG (X.blk s H scope (compEnvC scope cl C X.env) fp) tg (tG X.K n is1 g1))
    (hj : ∀ (s : Shared) (H : Hp) (C : Addr) (cl : List (Str × Addr)) (fp : List Addr), PI (X.blk s H scope (compEnvC scope cl C X.env) fp) tg2 iter2 (tI X.K n W0 it2))
    (hg2 : ∀ (s : Shared) (H : Hp) (C : Addr) (cl : List (Str × Addr)) (fp : List Addr), PG (X.blk s H scope (compEnvC scope cl C X.env) fp) tg2 (tG X.K n is2 g2))
    (he : ∀ (s : Shared) (H : Hp) (C : Addr) (cl : List (Str × Addr)) (fp : List Addr), PE (X.blk s H scope (compEnvC scope cl C X.env) fp) elt (tX X.K n W0 e)) (hs : ∀ x, foldedSetIterable iter X.env x = pure x := by intro _; rfl) (hs2 : ∀ (env : Env) x, foldedSetIterable iter2 env x = pure x := by intro _ _; rfl)
    (hst : starEach [SetS.Sc2 elt tg iter tg2 iter2 scope cpos] X.env = (false, eval (SetS.Sc2 elt tg iter tg2 iter2 scope cpos) X.env) :: starEach [] X.env := by rfl) :
    XF X n W (.Call (.Name "sorted" p) [SetS.Sc2 elt tg iter tg2 iter2 scope cpos] [] pos) (fSc2 it1 g1 it2 g2 e vs vs2) := by
  subst hv
  refine weakE (pe_callB (SetS.cr_sortS hc) hgs hms (by decide +kernel) (pa_cons (SetS.pe_sc2 hc hN hi ok h2 hg hj hg2 he hs hs2) pa_nil) (by decide) (by decide) hst (by rfl)) fun σ H Q h => ?_
  exact sc2_run hi1 hi2 h2 hn σ H Q h
end
end Q
namespace Q
open PySem PySem.Spec PyProof.Rows L2 Gd
variable [Tbl]
/-! ### max(xs), min(xs), xs a list of ints -/
def intsD : List D → Option (List Int)
  | [] => some []
  | .int i :: ds => (intsD ds).map (i :: ·)
  | _ => none
theorem intsD_eq : ∀ {ds : List D} {ns : List Int}, intsD ds = some ns → ds = ns.map PyData.int
  | [], ns, h => by cases h; rfl
  | .int i :: ds, ns, h => by
    have h : (intsD ds).map (i :: ·) = some ns := h
    cases e : intsD ds with
    | none =>
      rw [e] at h
      cases h
    | some ms =>
      rw [e] at h
      cases h
      rw [intsD_eq e]
      rfl
  | .none :: _, _, h => by cases h
  | .bool _ :: _, _, h => by cases h
  | .str _ :: _, _, h => by cases h
  | .list _ :: _, _, h => by cases h
  | .tuple _ :: _, _, h => by cases h
  | .dict _ :: _, _, h => by cases h
theorem intsD_map : ∀ ns : List Int, intsD (ns.map PyData.int) = some ns
  | [] => rfl
  | n :: ns => by
    show (intsD (ns.map PyData.int)).map (n :: ·) = _
    rw [intsD_map ns]
    rfl
theorem ImL.ints {K : PySem.W.Frag} {H : Hp} : ∀ {xs : List V} {ns : List Int}, ImL K H xs (ns.map PyData.int) → xs = ns.map V.int
  | _, [], .nil => rfl
  | _, _ :: _, .cons h r => by
    cases h
    rw [ImL.ints r]
    rfl
def max1D : List D → Option D
  | [.list ds] => (intsD ds).bind fun ns => ns.max?.map PyData.int
  | _ => none
def min1D : List D → Option D
  | [.list ds] => (intsD ds).bind fun ns => ns.min?.map PyData.int
  | _ => none
section
variable {X : Cx}
theorem c_max1 (hc : X.calm = true) : CallR X (.builtin "max") (rQN X.K max1D) := by
  rintro pins s σ H xs us Q I r ⟨as, d, hx, e, q⟩
  unfold max1D at e
  split at e
  · next ds =>
    cases en : intsD ds with
    | none =>
      rw [en] at e
      cases e
    | some ns =>
      rw [en] at e
      have e : ns.max?.map PyData.int = some d := e
      cases em : ns.max? with
      | none =>
        rw [em] at e
        cases e
      | some m =>
        rw [em] at e
        cases e
        obtain ⟨m1, m2⟩ := List.max?_eq_some_iff.mp em
        obtain ⟨x, rfl, h⟩ := hx.one
        obtain ⟨p, ys, rfl, hp, ip⟩ := h.list
        rw [intsD_eq en] at ip
        rw [ip.ints] at hp
        refine cr_max hc pins s σ H _ us Q I r ⟨p, ns, rfl, hp, List.length_pos_of_mem m1, fun y h1 h2 => ?_⟩
        have ey : y = m := Int.le_antisymm (m2 y h1) (h2 m m1)
        rw [ey]
        exact q _ H (Same.refl H) (.int _)
  · cases e
theorem c_min1 (hc : X.calm = true) : CallR X (.builtin "min") (rQN X.K min1D) := by
  rintro pins s σ H xs us Q I r ⟨as, d, hx, e, q⟩
  unfold min1D at e
  split at e
  · next ds =>
    cases en : intsD ds with
    | none =>
      rw [en] at e
      cases e
    | some ns =>
      rw [en] at e
      have e : ns.min?.map PyData.int = some d := e
      cases em : ns.min? with
      | none =>
        rw [em] at e
        cases e
      | some m =>
        rw [em] at e
        cases e
        obtain ⟨m1, m2⟩ := List.min?_eq_some_iff.mp em
        obtain ⟨x, rfl, h⟩ := hx.one
        obtain ⟨p, ys, rfl, hp, ip⟩ := h.list
        rw [intsD_eq en] at ip
        rw [ip.ints] at hp
        refine cr_min hc pins s σ H _ us Q I r ⟨p, ns, rfl, hp, List.length_pos_of_mem m1, fun y h1 h2 => ?_⟩
        have ey : y = m := Int.le_antisymm (h2 m m1) (m2 y h1)
        rw [ey]
        exact q _ H (Same.refl H) (.int _)
  · cases e
end
end Q
namespace SetS
open PySem PySem.Spec PyProof.Rows L2 Gd PySem.Froz
/-! ### set(t), t a tuple of texts, told so that its walk is known -/
theorem adds_len : ∀ (xs l : List Str), (xs.foldl add l).length ≤ l.length + xs.length
  | [], l => Nat.le_refl _
  | x :: xs, l => by
    have a := adds_len xs (add l x)
    have b : (add l x).length ≤ l.length + 1 := by
      unfold add
      split
      · exact Nat.le_succ _
      · exact Nat.le_refl _
    show (xs.foldl add (add l x)).length ≤ l.length + (xs.length + 1)
    omega
section
variable {prog : Program} {w : World} {A : Around} {R : Result → Shared → Prop} {I : Addr} {fp wr : List Addr} {G : Array GenState → Array GenState → Prop} {n : Nat} {P : Nat → Value → Prop} {St : Nat → Shared → Prop}
theorem fresh_at {h : Heap} {a : Addr} (ho : h.get? a = some { cls := .type "set", dict := none, data := .set #[] 0 (.fresh 0 0 (!w.params.followText "set-order")) }) : Is prog w h a [] :=
  ⟨(#[], 0, .fresh 0 0 (!w.params.followText "set-order")), ho, TxOk.nil (by rfl), List.Perm.refl _, (fun e he => nomatch he), List.Pairwise.nil, by
    show _ ∨ (!w.params.followText "set-order") = true
    cases w.params.followText "set-order"
    · exact .inr rfl
    · exact .inl rfl⟩
theorem loop_txt (W : WalksS prog w A.in1 I fp wr G n P St) (S : Addr) (hSf : S ∉ fp) (xs : List Str) (hsz : xs.length = n) (hb : n + 1 < scanBound)
    (hval : ∀ i v, P i v → ∃ t, v = .str (xs.getD i Str.empty) t) :
    ∀ (k i : Nat) (s : Shared), n - i = k → i ≤ n → St i s → Is prog w s.heap S ((xs.take i).foldl add []) →
      (∀ s', Moved (S :: wr) G s s' → Is prog w s'.heap S (xs.foldl add []) → R (.ok (.ret .none)) s') →
      codeAny (model prog w) A (.builtin "set.update.loop" ⟨[.ref S, .ref I], []⟩) R s := by
  have hSw : S ∉ wr := fun h => hSf (W.sub _ h)
  have hsub : ∀ b ∈ wr, b ∈ S :: wr := fun b hb => List.mem_cons_of_mem _ hb
  intro k
  induction k with
  | zero =>
    intro i s hk hi hst hS hR
    have hin : i = n := by omega
    have et : xs.take i = xs := List.take_of_length_le (by omega)
    rw [et] at hS
    subst hin
    refine codeAny_builtin PyProof.Rows.F.entry_set_update_loop ?_
    rw [Around.under_plainId PyProof.Rows.F.plain_set_update_loop _]
    show wpAny _ A.in1 (pyNext (.ref I) >>= _) _ _ s
    refine wpAny_bind (W.done s _ _ hst fun s' hm => ?_)
    show wpAny _ A.in1 (ret Value.none) _ _ s'
    exact wpAny_pure (hR s' (hm.mono hsub) (hS.at fun o e => hm.heap S o hSw e))
  | succ k ih =>
    intro i s hk hi hst hS hR
    have hlt : i < n := by omega
    refine codeAny_builtin PyProof.Rows.F.entry_set_update_loop ?_
    rw [Around.under_plainId PyProof.Rows.F.plain_set_update_loop _]
    show wpAny _ A.in1 (pyNext (.ref I) >>= _) _ _ s
    refine wpAny_bind (W.item i s _ _ hlt hst fun v s' hP hst' hm => ?_)
    obtain ⟨t, rfl⟩ := hval i v hP
    have hS' : Is prog w s'.heap S ((xs.take i).foldl add []) := hS.at fun o e => hm.heap S o hSw e
    have hg : xs[i]? = some (xs.getD i Str.empty) := by
      rw [List.getD_eq_getElem?_getD, List.getElem?_eq_getElem (show i < xs.length by omega)]
      rfl
    generalize xs.getD i Str.empty = y at hg ⊢
    have et : (xs.take (i + 1)).foldl add [] = add ((xs.take i).foldl add []) y := by
      rw [List.take_add_one, hg, List.foldl_append]
      rfl
    have al := adds_len (xs.take i) []
    rw [List.length_take] at al
    show wpAny _ A.in1 (holding [Value.str y t] (setAdd S (.str y t)) >>= _) _ _ s'
    refine wpAny_bind (wpAny_holding ?_)
    unfold setAdd
    refine wpAny_holding ?_
    refine wpAny_bind ((PySem.strKind prog w).pyHash (k := y) (strKind_is _ _ _ _) ?_)
    refine add_hashed (s := { s' with toks := s'.toks + 1 }) hS' (by simp at al; omega) fun b h' hsb hS2 => ?_
    rw [← et] at hS2
    refine wpAny_pure ⟨plainId_quiet PyProof.Rows.F.plain_set_update_loop _, ih (i + 1) _ (by omega) hlt (W.frame _ s' _ _ hst' (Nat.le_succ _) fun b hb o e => ?_) hS2 fun s'' hm'' hS'' => ?_⟩
    · rw [hsb.2 b (fun h : b = S => hSf (by rw [← h]; exact hb))]; exact e
    · refine hR s'' (Moved.trans W.gtrans ((hm.mono hsub).then_heap (Nat.le_succ _) fun b o hb e => ?_) hm'') hS''
      rw [hsb.2 b (fun h : b = S => hb (by rw [h]; exact List.mem_cons_self))]; exact e
end
section
variable {prog : Program} {w : World} {A : Around} {E : Value → Shared → Prop} {s : Shared}
set_option maxHeartbeats 3200000 in
theorem call_set_txt {l : Addr} {items : Array Value} {xs : List Str} {Q : Value → Shared → Prop}
    (hh : A.handled = none) (hl : s.heap.IsTuple l items) (hi : PyProof.Rows.StrsAre items.toList xs) (hb : xs.length + 1 < scanBound)
    (h : ∀ (h' : Heap) (tk : Nat), Is prog w h' s.heap.objs.size (xs.foldl add []) →
      (∀ b o, s.heap.get? b = some o → h'.get? b = some o) → Q (.ref s.heap.objs.size) { s with heap := h', toks := tk }) :
    wpAny (model prog w) A (call (.type "set") [.ref l]) Q E s := by
  obtain ⟨c, tl, hmro⟩ := PySem.F.called_set.mro
  have hmade := PySem.F.called_set.made
  have hsub := PySem.F.called_set.sub
  refine wpAny_call (codeAny_of_tree ?_)
  show wpAny _ _ (callAny (.type "set") _) _ _ _
  refine wpAny_pure ⟨Code.quiet_builtin _ (by decide +kernel), codeAny_builtin PySem.F.entry_type_call ?_⟩
  rw [Around.under_plain (weight_type_call_type "set" [.ref l] []) rfl]
  have h1 := PySem.F.called_set.notType
  have h2 := PySem.F.called_set.canCreate
  have hct := PySem.F.typeCall_set_1 (.ref l)
  repeat (any_goals (first | assumption | wp_step))
  refine codeAny_mono (code_set_led1 (.ref l) (E := E) (Q₁ := fun obj s₁ => obj = .ref s.heap.objs.size ∧ s₁ = { s with heap := s.heap.push { cls := .type "set", dict := none, data := .set #[] 0 (.fresh 0 0 (!w.params.followText "set-order")) } }) ⟨rfl, rfl⟩) fun r s₁ hr => ?_
  cases r with
  | error e => exact hr
  | ok fl =>
    cases fl with
    | ret obj =>
      obtain ⟨rfl, rfl⟩ := hr
      have hS : (s.heap.push { cls := .type "set", dict := none, data := .set #[] 0 (.fresh 0 0 (!w.params.followText "set-order")) }).get? s.heap.objs.size = some { cls := .type "set", dict := none, data := .set #[] 0 (.fresh 0 0 (!w.params.followText "set-order")) } := Heap.get?_push_size _ rfl
      have hT : Shared.TypeIs { s with heap := s.heap.push { cls := .type "set", dict := none, data := .set #[] 0 (.fresh 0 0 (!w.params.followText "set-order")) } } (.ref s.heap.objs.size) "set" := ⟨_, hS, rfl⟩
      have hli := PySem.F.called_set.init.lookup
      have hbi := PySem.F.called_set.init.bind (.ref s.heap.objs.size)
      repeat (any_goals (first | assumption | wp_step))
      refine codeAny_mono (codeAny_call_builtin (R := wants (fun r s₂ => r = .none ∧ ∃ h' tk, s₂ = { s with heap := h', toks := tk } ∧
          Is prog w h' s.heap.objs.size (xs.foldl add []) ∧
          (∀ b o, s.heap.get? b = some o → h'.get? b = some o)) E) PySem.F.called_set.init.plain PySem.F.entry_set_init (check_set_init_1 hT ?_)) fun r₂ s₂ hr₂ => ?_
      · obtain ⟨ol, hol, hcl, nl, hdl⟩ := hl
        obtain ⟨ocls, odict, odata, oslots⟩ := ol
        simp only at hcl hdl
        subst hcl; subst hdl
        have hol' : (s.heap.push { cls := .type "set", dict := none, data := .set #[] 0 (.fresh 0 0 (!w.params.followText "set-order")) }).get? l = some { cls := .type "tuple", dict := odict, data := .seq items nl, slots := oslots } := Heap.get?_push_of_some _ hol
        have hsls := PySem.F.sub_tuple_set
        have hslf := PySem.F.sub_tuple_frozenset
        have hne : (Value.type "tuple" == Value.type "dict") = false := by decide
        have hl1 : (s.heap.push { cls := .type "set", dict := none, data := .set #[] 0 (.fresh 0 0 (!w.params.followText "set-order")) }).IsTuple l items := ⟨_, hol', rfl, nl, rfl⟩
        unfold Builtin.«set.__init__» noKeywords Builtin.Frozenset.updateFrom
        generalize hPI : pyIter = PI
        wp_walk
        subst hPI
        refine wpAny_pyIter_tuple hl1 ?_
        refine wpAny_bind (wpAny_runValue ?_)
        have hlS : l < s.heap.objs.size := Heap.lt_size hol
        have hh3 : A.in1.in1.in1.handled = none := by simp [hh]
        have hneI : l ≠ (s.heap.push { cls := .type "set", dict := none, data := .set #[] 0 (.fresh 0 0 (!w.params.followText "set-order")) }).objs.size := by
          rw [Heap.size_push]; exact Nat.ne_of_lt (Nat.lt_succ_of_lt hlS)
        have hSf : s.heap.objs.size ∉ [(s.heap.push { cls := .type "set", dict := none, data := .set #[] 0 (.fresh 0 0 (!w.params.followText "set-order")) }).objs.size, l] := by
          rw [Heap.size_push]; simp only [List.mem_cons, List.mem_singleton, List.not_mem_nil, or_false, not_or]
          exact ⟨Nat.ne_of_lt (Nat.lt_succ_self _), Nat.ne_of_gt hlS⟩
        have hsz : xs.length = items.size := by rw [← StrsAre.len_eq hi, Array.length_toList]
        have hval : ∀ (i : Nat) (v : Value), items[i]? = some v → ∃ t, v = .str (xs.getD i Str.empty) t := fun i v hv => SS.strs_at hi i v (by rw [Array.getElem?_toList]; exact hv)
        refine loop_txt ((Walks.tuple hh3 _ l hneI items).toS) s.heap.objs.size
          hSf xs hsz (by rw [← hsz]; exact hb) hval (items.size - 0) 0 _ (by omega) (Nat.zero_le _)
          ⟨⟨_, Heap.get?_push_size _ rfl, rfl, rfl⟩, (hl1.push _)⟩ ?hS0 ?hR
        case hS0 =>
          have hget : ((s.heap.push { cls := .type "set", dict := none, data := .set #[] 0 (.fresh 0 0 (!w.params.followText "set-order")) }).push { cls := .type "tuple_iterator", data := .fields #[.ref l, .int 0 0] }).get? s.heap.objs.size
              = some { cls := .type "set", dict := none, data := .set #[] 0 (.fresh 0 0 (!w.params.followText "set-order")) } := Heap.get?_push_of_some _ hS
          exact fresh_at hget
        case hR =>
          intro s' hm hS'
          obtain ⟨h', g', d', tk', os'⟩ := s'
          have eg : g' = s.gens := hm.gens
          have ed : d' = s.drawn := hm.drawn
          have eo : os' = s.os := hm.os
          subst eg; subst ed; subst eo
          show wpAny _ _ _ _ _ _
          refine wpAny_pure ?_
          show wpAny _ _ (ret Value.none) _ _ _
          refine wpAny_pure ⟨rfl, h', tk', rfl, hS', fun b o e => ?_⟩
          have hb0 : b < s.heap.objs.size := Heap.lt_size e
          have hb1 : b ≠ s.heap.objs.size := Nat.ne_of_lt hb0
          have hb2 : b ≠ (s.heap.push { cls := .type "set", dict := none, data := .set #[] 0 (.fresh 0 0 (!w.params.followText "set-order")) }).objs.size := by
            rw [Heap.size_push]; exact Nat.ne_of_lt (Nat.lt_succ_of_lt hb0)
          exact hm.heap b o (by simp only [List.mem_cons, List.mem_singleton, List.not_mem_nil, or_false, not_or]; exact ⟨hb1, hb2⟩) (Heap.get?_push_of_some _ (Heap.get?_push_of_some _ e))
      · cases r₂ with
        | error e => exact hr₂
        | ok fl₂ =>
          cases fl₂ with
          | ret r =>
            obtain ⟨rfl, h', tk, rfl, hS', hk'⟩ := hr₂
            repeat (any_goals (first | assumption | wp_step))
            exact h _ _ hS' hk'
          | _ => exact hr₂.elim
    | _ => exact hr.elim
end
section
variable {X : Cx}
/-- set(t), t a tuple of texts -/
def rSetT (K : PySem.W.Frag) (P : Program) (w : World) : List V → Hp → VK → Prop := fun vs H Q => ∃ (a : Addr) (xs : List Str), vs = [V.ref a] ∧ SqT K H a (xs.map V.str) ∧ xs.length ≤ 4000 ∧ ∀ D, H D = none → Q (.ref D) (upd H D (SO P w D (xs.foldl add [])))
theorem cr_setT (hc : X.calm = true) : CallR X (.type "set") (rSetT X.K X.prog X.w) := by
  rintro pins s σ H vs us Q I r ⟨l, xs, rfl, hq, h1, q⟩
  obtain ⟨u, rfl, rx⟩ := vals1 r
  cases rx
  obtain ⟨its, rv, pl, hz⟩ := I.tuple hq
  refine call_set_txt (I.ok.hd hc) pl (by simpa using strsAre_of rv) (by show xs.length + 1 < 4096; omega) fun h' tk hS hk => ?_
  have hn : H s.heap.objs.size = none := I.hok.fresh (Nat.le_refl _)
  exact ⟨.ref s.heap.objs.size, _, I.laid (t' := tk) (fun b o e => hk b o e) (Nat.le_refl _) (so_new hS), rfl, q _ hn⟩
end
end SetS
namespace Q
open PySem PySem.Spec PyProof.Rows L2 Gd
variable [Tbl]
/-! ### sorted(set(t)), t a tuple of texts -/
def sortSetD : D → Option (List D)
  | .tuple ds => (strsD ds).bind fun ns => if ns.length ≤ 4000 ∧ (ns.foldl SetS.add []).length < 64 then some ((srt (ns.foldl SetS.add [])).map PyData.str) else none
  | _ => none
def fSortSet (f : Mo R) : Mo Ob := fun ρ => (f ρ).bind fun r ρ1 => match (look ρ1 r).bind sortSetD with
  | some ds => .ok (.lst ds) ρ1
  | none => .no
theorem sortSetD_some {a : D} {ds : List D} (h : sortSetD a = some ds) : ∃ ns : List Str, a = .tuple (ns.map PyData.str) ∧ ns.length ≤ 4000 ∧ (ns.foldl SetS.add []).length < 64 ∧ ds = (srt (ns.foldl SetS.add [])).map PyData.str := by
  unfold sortSetD at h
  split at h
  · next es =>
    cases e : strsD es with
    | none =>
      rw [e] at h
      cases h
    | some ns =>
      rw [e] at h
      have h : (if ns.length ≤ 4000 ∧ (ns.foldl SetS.add []).length < 64 then some ((srt (ns.foldl SetS.add [])).map PyData.str) else none) = some ds := h
      split at h
      · next q =>
        cases h
        exact ⟨ns, by rw [strsD_eq e], q.1, q.2, rfl⟩
      · cases h
  · cases h
section
variable {X : Cx} {n : Nat} {W : XW}
theorem sortSet_run {f : Mo R} (σ : St) (H : Hp) (Q : VK) (h : tF X.K n W (fSortSet f) σ H Q) : tX X.K n W f σ H fun x H1 => SetS.rSetT X.K X.prog X.w [x] H1 fun y H2 => SetS.rSortS X.prog X.w [y] H2 Q := by
  obtain ⟨ρ, G, h⟩ := h
  refine ⟨ρ, G, (Aft.bind h).mono fun r ρ1 H1 s1 h1 v rv => ?_⟩
  cases ea : look ρ1 r with
  | none =>
    rw [ea] at h1
    exact h1.elim
  | some a =>
    rw [ea] at h1
    have h1 : Aft X.K n W H1 σ ρ1 (match sortSetD a with
      | some ds => Rt.ok (Ob.lst ds) ρ1
      | none => .no) fun o ρ' H' => ∀ p h, H p = none → H' p = some h → ObR X.K H' h o → ¬ Own σ ρ' p → Q (.ref p) H' := h1
    cases es : sortSetD a with
    | none =>
      rw [es] at h1
      exact h1.elim
    | some ds =>
      rw [es] at h1
      obtain ⟨ns, rfl, l1, l2, rfl⟩ := sortSetD_some es
      have hv := rv.see s1.good ea
      obtain ⟨p, xs, rfl, sq, im⟩ := hv.tuple
      rw [im.strs] at sq
      refine ⟨p, ns, rfl, sq, l1, fun D hD => ⟨D, _, rfl, upd_same, l2, fun ys q pm so hq => ?_⟩⟩
      rw [srt_one pm so]
      have st1 : Stp X.K n H1 σ ρ1 (upd H1 D (SetS.SO X.prog X.w D (ns.foldl SetS.add []))) σ ρ1 := Stp.same s1.good (same_upd hD)
      have st2 := st1.trans (Stp.same st1.good (same_upd (o := .lst ((srt (ns.foldl SetS.add [])).map V.str)) hq))
      exact h1 _ st2 q _ (s1.live _ (st1.live q hq)) upd_same (.lst (ImL.of_strs _)) (new_own st1.good hq)
theorem xf_sortSet {e : Expr} {p p2 q pos : Pos} {f : Mo R} (hc : X.calm = true) (hg : Gl X "sorted") (hm : X.mg "sorted" = none) (hg2 : Gl X "set") (hm2 : X.mg "set" = none) (he : XD X n W e f)
    (h1 : starEach [.Call (.Name "set" p2) [e] [] q] X.env = (false, eval (.Call (.Name "set" p2) [e] [] q) X.env) :: starEach [] X.env := by rfl) (h2 : starEach [e] X.env = (false, eval e X.env) :: starEach [] X.env := by rfl) :
    XF X n W (.Call (.Name "sorted" p) [.Call (.Name "set" p2) [e] [] q] [] pos) (fSortSet f) := by
  refine weakE (pe_callB (SetS.cr_sortS hc) hg hm (by decide +kernel) (pa_cons (pe_callTy (SetS.cr_setT hc) hg2 hm2 (by decide +kernel) (pa_cons he pa_nil h2) (by decide) (by decide) h2 (by rfl)) pa_nil h1) (by decide) (by decide) h1 (by rfl)) fun σ H Q h => ?_
  exact sortSet_run σ H Q h
end
end Q
namespace Q
open PySem PySem.Spec PyProof.Rows L2 Gd
variable [Tbl]
/-! ### a, b, c = xs, xs a list -/
@[simp] def gL (c : Nat) (g : Tgs) : Tg := fun d ρ => match d with
  | .list ds => if ds.length = c then g ds ρ else none
  | _ => none
section
variable {X : Cx} {n : Nat}
theorem xg_lst {es : List Expr} {k c : Nat} {is : List Nat} {pos : Pos} {g : Tgs} (hc : X.calm = true) (h : XGs X n is es g) (hn : (assignEach es X.env).length = c := by rfl) (hst : (assignEach es X.env).findIdx? (·.1) = none := by rfl) : XG X n is (.Tuple es k pos) (gL c g) :=
  weakG (pg_lst hc h hn hst) fun v σ H Q ⟨ρ, d, G, im, ρ', e, h⟩ => by
    cases im with
    | @lst a xs ds hs r =>
      have e : (if ds.length = c then g ds ρ else none) = some ρ' := e
      split at e
      · next le => exact ⟨_, _, rfl, hs.sq, by rw [r.len]; exact le, ρ, ds, G, r, ρ', e, h⟩
      · cases e
    | _ => cases e
end
end Q
namespace SetS
open PySem PySem.Spec PyProof.Rows L2 Gd PySem.Froz
/-! ### one - other, as sets -/
section
variable {P : Program} {w : World} {A : Around} {E : Value → Shared → Prop} {s : Shared} {a : Addr} {es : Array (Int × Value)} {ep : Nat} {t : SetTable} {o : Obj}
theorem walk_plain {Q : Array (Int × Value) → Shared → Prop} (ho : s.heap.get? a = some o) (hd : o.data = .set es ep t) (hf : t.fits es.size = true) (hl : w.params.followText "set-order" = true ∨ t.led = true)
    (h : ∀ ws d, ws.toList.Perm es.toList → Q ws { s with drawn := d }) : wpAny (model P w) A (setWalk a) Q E s := by
  unfold setWalk
  refine wpAny_bind (wpAny_setState_of ho hd hf ?_)
  dsimp only
  refine wpAny_bind (wpAny_byText ?_)
  cases hb : w.params.followText "set-order" with
  | true =>
    refine wp_if_pos rfl ?_
    exact wpAny_bind (wpAny_askSetting (wpAny_pure (h _ s.drawn (pick_perm _ es))))
  | false =>
    have hled : t.led = true := hl.resolve_left (by rw [hb]; exact Bool.false_ne_true)
    refine wp_if_neg Bool.false_ne_true ?_
    try refine wpAny_bind (wpAny_pure ?_)
    by_cases c : (!t.plain && decide (es.size > 1)) = true
    · refine wp_if_pos c ?_
      refine wpAny_bind (drawOrder_at es.size es.toList s _ (by rw [Array.length_toList]; exact Nat.le_refl _) fun ys d hp => wpAny_pure (h ys.toArray d (by rw [List.toList_toArray]; exact hp)))
    · refine wp_if_neg c ?_
      try refine wpAny_bind (wpAny_pure ?_)
      refine wpAny_bind (wpAny_of_eq (a := ()) ?_ ?_)
      · show (if (!t.led && decide (es.size > 1)) = true then unsupported "set:maker-not-led" else pure ()) = pure ()
        rw [hled] <;> rfl
      · exact wpAny_pure (h es s.drawn (List.Perm.refl _))
theorem quiet_at {Q : Bool → Shared → Prop} : ∀ (sets : List Addr), (∀ a ∈ sets, ∃ o es ep t, s.heap.get? a = some o ∧ o.data = .set es ep t ∧ t.fits es.size = true ∧ ∀ e ∈ es.toList, ∃ k u, e.2 = Value.str k u) → (∀ b, Q b s) → wpAny (model P w) A (setsQuiet sets) Q E s := by
  intro sets h hQ
  unfold setsQuiet
  refine wpAny_bind (thn (wpAny_forIn_list _ (fun rest b s' => s' = s ∧ b.1 = none ∧ ∀ a ∈ rest, a ∈ sets) (fun b s' => s' = s) ?turn (fun b s' hI => hI.1) sets _ ⟨rfl, rfl, fun a h => h⟩) ?k)
  case turn =>
    rintro x rest b s' ⟨rfl, hb, hm⟩
    obtain ⟨o, es, ep, t, ho, hd, hf, he⟩ := h x (hm x List.mem_cons_self)
    refine wpAny_bind (wpAny_setEntries_of ho hd hf ?_)
    refine wpAny_bind (thn (forIn_array_ _ (fun rest b s'' => s'' = s' ∧ b.1 = none ∧ ∀ e ∈ rest, e ∈ es.toList) (fun b s'' => s'' = s' ∧ b.1 = none) ?turn2 (fun b s'' hI => ⟨hI.1, hI.2.1⟩) es _ ⟨rfl, rfl, fun e h => h⟩) ?k2)
    case turn2 =>
      rintro x rest b s'' ⟨rfl, hb, hm'⟩
      obtain ⟨k, u, ek⟩ := he x (hm' x List.mem_cons_self)
      obtain ⟨hx, vx⟩ := x
      have ek : vx = Value.str k u := ek
      subst ek
      exact wpAny_pure ⟨rfl, rfl, fun e h => hm' e (List.mem_cons_of_mem _ h)⟩
    case k2 =>
      rintro b s'' ⟨rfl, hb2⟩
      obtain ⟨b1, b2⟩ := b
      have hb2 : b1 = none := hb2
      subst hb2
      exact wpAny_pure ⟨rfl, rfl, fun a h => hm a (List.mem_cons_of_mem _ h)⟩
  case k =>
    intro b s' e
    subst e
    obtain ⟨b1, b2⟩ := b
    cases b1 <;> exact wpAny_pure (hQ _)
theorem walk_unseen {b r : Addr} {ob : Obj} {eb : Array (Int × Value)} {pb : Nat} {tb tr : SetTable} {Q : Array (Int × Value) → Shared → Prop} (ho : s.heap.get? a = some o) (hd : o.data = .set es ep t) (hf : t.fits es.size = true) (hl : w.params.followText "set-order" = true ∨ t.led = true) (hs : ∀ e ∈ es.toList, ∃ k u, e.2 = Value.str k u)
    (hob : s.heap.get? b = some ob) (hdb : ob.data = .set eb pb tb) (hfb : tb.fits eb.size = true) (hsb : ∀ e ∈ eb.toList, ∃ k u, e.2 = Value.str k u)
    (hor : s.heap.get? r = some (sObj "set" (#[], 0, tr))) (hfr : ∀ l p, ({ tr with led := l, plain := p } : SetTable).fits 0 = true)
    (h : ∀ ws h' d, ws.toList.Perm es.toList → Heap.SameBut r s.heap h' → (∃ ep t, h'.get? r = some (sObj "set" (#[], ep, t)) ∧ t.fits 0 = true) → Q ws { s with heap := h', drawn := d }) :
    wpAny (model P w) A (setWalkUnseen a [b, r] (some r)) Q E s := by
  have hfr0 : tr.fits 0 = true := hfr tr.led tr.plain
  have plainW : wpAny (model P w) A (setWalk a) Q E s := walk_plain ho hd hf hl fun ws d pm => h ws s.heap d pm (Heap.SameBut.refl r s.heap) ⟨0, tr, hor, hfr0⟩
  unfold setWalkUnseen
  refine wpAny_bind (wpAny_setState_of ho hd hf ?_)
  dsimp only
  refine wpAny_bind (wpAny_byText ?_)
  split
  · first
      | exact plainW
      | exact wpAny_bind (thn plainW fun _ _ q => wpAny_pure q)
  · try refine wpAny_bind (wpAny_pure ?_)
    refine wpAny_bind (quiet_at (a :: [b, r]) (fun x hx => ?_) fun q => ?_)
    · simp only [List.mem_cons, List.not_mem_nil, or_false] at hx
      rcases hx with rfl | rfl | rfl
      · exact ⟨o, es, ep, t, ho, hd, hf, hs⟩
      · exact ⟨ob, eb, pb, tb, hob, hdb, hfb, hsb⟩
      · exact ⟨_, #[], 0, tr, hor, rfl, hfr0, fun e he => nomatch he⟩
    · cases q with
      | false =>
        first
          | exact plainW
          | exact wpAny_bind (thn plainW fun _ _ q => wpAny_pure q)
          | (simp only [Bool.not_false, ↓reduceIte]; exact plainW)
          | (simp only [Bool.not_false, ↓reduceIte]; exact wpAny_bind (thn plainW fun _ _ q => wpAny_pure q))
      | true =>
        simp only [Bool.not_true, Bool.false_eq_true, ↓reduceIte]
        try refine wpAny_bind (wpAny_pure ?_)
        refine wpAny_bind (wpAny_rule ?_)
        refine wpAny_bind (wpAny_setState_of hor rfl hfr0 ?_)
        dsimp only
        have keep : Q es s := h es s.heap s.drawn (List.Perm.refl _) (Heap.SameBut.refl r s.heap) ⟨0, tr, hor, hfr0⟩
        split
        · refine wpAny_bind (wpAny_storeSet_of (es' := #[]) hor rfl ?_ (by decide))
          have q : (s.heap.update r (Obj.putSet #[] { tr with led := tr.led && t.led, plain := tr.plain && t.plain })).get? r = some (sObj "set" (#[], 1, { tr with led := tr.led && t.led, plain := tr.plain && t.plain })) := Heap.get?_update_self (Obj.putSet #[] { tr with led := tr.led && t.led, plain := tr.plain && t.plain }) hor rfl
          exact wpAny_pure (h es _ s.drawn (List.Perm.refl _) (Heap.SameBut.update _ r _) ⟨1, _, q, hfr (tr.led && t.led) (tr.plain && t.plain)⟩)
        · exact wpAny_pure keep
end
end SetS
namespace SetS
open PySem PySem.Spec PyProof.Rows L2 Gd PySem.Froz PpSet
section
variable {P : Program} {w : World} {A : Around} {E : Value → Shared → Prop} {s : Shared} {a b : Addr} {la lb : List Str}
theorem keyS_is {e : Int × Value} {u : Tok} (h : e.2 = Value.str (keyS e) u) (k : Str) : (strKind P w).is k e.2 = true ↔ k = keyS e := by
  rw [h]
  constructor
  · intro q
    exact (strKind P w).inj _ k (keyS e) q (is_str (keyS e) u)
  · intro q
    rw [q]
    exact is_str (keyS e) u
theorem isAny_at {Q : Bool → Shared → Prop} (hT : s.TypeIs (.ref a) "set") (h : Q true s) : wpAny (model P w) A (Builtin.Frozenset.isAnySet (.ref a)) Q E s := by
  unfold Builtin.Frozenset.isAnySet
  refine wpAny_bind (wpAny_isInstance (b := true) hT sub_set_self ?_)
  exact wpAny_pure h
theorem base_at {Q : Value → Shared → Prop} (hT : s.TypeIs (.ref a) "set") (h : Q (.type "set") s) : wpAny (model P w) A (Builtin.Frozenset.baseOf a) Q E s := by
  unfold Builtin.Frozenset.baseOf
  refine wpAny_bind (wpAny_isInstance (b := true) hT sub_set_self ?_)
  exact wpAny_pure h
/-- what a subtraction's loop keeps: the new set holds what was met and is not in the other -/
theorem sub_at {id : String} {Q : Value → Shared → Prop} (Ra : Is P w s.heap a la) (Rb : Is P w s.heap b lb) (hz : la.length / 4 ≤ lb.length) (hla : la.length + 1 < scanBound) (hlb : lb.length < scanBound) (nda : la.Nodup)
    (hQ : ∀ h' d (S : Str → Bool), h'.SetOf (strKind P w) s.heap.objs.size S (la.filter fun k => !lb.contains k).length → (∀ c o, s.heap.get? c = some o → h'.get? c = some o) → Q (.ref s.heap.objs.size) { s with heap := h', drawn := d }) :
    wpAny (model P w) A (Builtin.Frozenset.difference id a (.ref b)) Q E s := by
  obtain ⟨Da, hoa, Fa, pa, ga, ra, lda⟩ := Ra
  obtain ⟨Db, hob, Fb, pb, gb, rb, ldb⟩ := Rb
  have hTa : s.TypeIs (.ref a) "set" := ⟨_, hoa, rfl⟩
  have hTb : s.TypeIs (.ref b) "set" := ⟨_, hob, rfl⟩
  have sza : Da.1.size = la.length := Fa.sz
  have szb : Db.1.size = lb.length := Fb.sz
  unfold Builtin.Frozenset.difference
  dsimp only
  refine wpAny_bind (isAny_at hTb ?_)
  simp only [Bool.not_true, Bool.false_eq_true, ↓reduceIte, Bool.false_and]
  refine wpAny_bind (m := Builtin.Frozenset.addrOf (.ref b)) (wpAny_pure ?_)
  unfold Builtin.Frozenset.sizeOf
  refine wpAny_bind (wpAny_bind (wpAny_setEntries_of hob rfl Fb.fit (wpAny_pure ?_)))
  try refine wpAny_bind (wpAny_pure ?_)
  refine wpAny_bind (wpAny_bind (wpAny_setEntries_of hoa rfl Fa.fit (wpAny_pure ?_)))
  rw [if_neg (by rw [sza, szb]; omega)]
  refine wpAny_bind (base_at hTa ?_)
  refine wpAny_bind (newSet_ok ?_)
  refine wpAny_bind (m := Builtin.Frozenset.addrOf (.ref s.heap.objs.size)) (wpAny_pure ?_)
  have old : ∀ c o, s.heap.get? c = some o → (s.heap.push { cls := .type "set", dict := none, data := .set #[] 0 (.fresh 0 0 (!w.params.followText "set-order")) }).get? c = some o := fun c o e => Heap.get?_push_of_some _ e
  have new : (s.heap.push { cls := .type "set", dict := none, data := .set #[] 0 (.fresh 0 0 (!w.params.followText "set-order")) }).get? s.heap.objs.size = some (sObj "set" (#[], 0, .fresh 0 0 (!w.params.followText "set-order"))) := Heap.get?_push_size _ rfl
  have nea : ∀ c o, s.heap.get? c = some o → c ≠ s.heap.objs.size := fun c o e => Nat.ne_of_lt (Heap.lt_size e)
  generalize s.heap.push { cls := .type "set", dict := none, data := .set #[] 0 (.fresh 0 0 (!w.params.followText "set-order")) } = H1 at old new
  refine wpAny_bind (wpAny_setEpoch_of (old _ _ hoa) rfl Fa.fit ?_)
  refine wpAny_bind (wpAny_holding ?_)
  refine wpAny_bind (walk_unseen (old _ _ hoa) rfl Fa.fit lda (fun e he => (ga e he).elim fun u q => ⟨_, u, q⟩) (old _ _ hob) rfl Fb.fit (fun e he => (gb e he).elim fun u q => ⟨_, u, q⟩) new (fun l p => by rfl) fun ws h' d pm sb hr => ?_)
  obtain ⟨ep1, t1, hr1, ft1⟩ := hr
  have S0 : h'.SetOf (strKind P w) s.heap.objs.size (fun _ => false) 0 := ⟨_, #[], ep1, t1, hr1, ⟨rfl, rfl, rfl⟩, rfl, (fun e he => nomatch he), (fun k => by simp), (by decide), ft1, rfl⟩
  have keep0 : ∀ c o, s.heap.get? c = some o → h'.get? c = some o := fun c o e => (sb.2 c (nea c o e)).trans (old c o e)
  have lws : ws.toList.length = la.length := by rw [pm.length_eq, Array.length_toList, sza]
  refine wpAny_bind (thn (forIn_array_ _ (fun rest _ s' => ∃ h' d S n done, s' = { s with heap := h', drawn := d } ∧ (∀ c o, s.heap.get? c = some o → h'.get? c = some o) ∧ h'.SetOf (strKind P w) s.heap.objs.size S n ∧ done ++ rest = ws.toList ∧ n = (done.filter fun e => !lb.contains (keyS e)).length ∧ ∀ k, S k = true ↔ k ∉ lb ∧ ∃ e ∈ done, keyS e = k)
    (fun _ s' => ∃ h' d S n, s' = { s with heap := h', drawn := d } ∧ (∀ c o, s.heap.get? c = some o → h'.get? c = some o) ∧ h'.SetOf (strKind P w) s.heap.objs.size S n ∧ n = (ws.toList.filter fun e => !lb.contains (keyS e)).length) ?turn ?fin ws _ ⟨h', d, _, 0, [], rfl, keep0, S0, rfl, rfl, fun k => by simp⟩) ?k)
  case fin =>
    rintro _ s' ⟨h', d, S, n, done, e, kp, hS, ed, en, hk⟩
    rw [List.append_nil] at ed
    subst ed
    exact ⟨h', d, S, n, e, kp, hS, en⟩
  case k =>
    rintro _ s' ⟨h', d, S, n, rfl, kp, hS, hk⟩
    refine wpAny_pure (wpAny_pure (hQ h' d S ?_ kp))
    rw [hk] at hS
    have pl : (ws.toList.map keyS).Perm la := (pm.map keyS).trans pa
    have e : (ws.toList.filter fun e => !lb.contains (keyS e)).length = (la.filter fun k => !lb.contains k).length := by
      rw [← (pl.filter _).length_eq, List.filter_map, List.length_map]
      rfl
    rw [← e]
    exact hS
  case turn =>
    rintro x rest _ s' ⟨h', d, S, n, done, rfl, kp, hS, ed, ln, hk⟩
    have nk : ∀ e ∈ done, keyS e ≠ keyS x := fun e he q => by
      have nd : (ws.toList.map keyS).Nodup := ((pm.map keyS).trans pa).nodup_iff.mpr nda
      rw [← ed, List.map_append, List.map_cons] at nd
      exact (List.nodup_append.mp nd).2.2 _ (List.mem_map.mpr ⟨e, he, rfl⟩) _ List.mem_cons_self q
    have ld : n ≤ done.length := by
      rw [ln]
      exact List.length_filter_le _ _
    have mx : x ∈ Da.1.toList := pm.mem_iff.mp (by rw [← ed]; exact List.mem_append_right _ List.mem_cons_self)
    obtain ⟨u, eu⟩ := ga x mx
    obtain ⟨⟨k0, ik, hk0⟩, _⟩ := Fa.el x mx
    have ek : k0 = keyS x := (keyS_is eu k0).mp ik
    subst ek
    have lr : done.length + (rest.length + 1) = la.length := by
      rw [← lws, ← ed, List.length_append, List.length_cons]
    generalize hkk : keyS x = kx at *
    obtain ⟨x1, x2⟩ := x
    have eu : x2 = .str kx u := eu
    have hk0 : x1 = (strKind P w).hash kx := hk0
    subst eu
    subst hk0
    have hkey : (strKind P w).is kx (.str kx u) = true := is_str kx u
    have last : ∀ (h2 : Heap) (Qf : ForInStep PUnit → Shared → Prop), (∀ c o, s.heap.get? c = some o → h2.get? c = some o) → Qf (.yield PUnit.unit) { s with heap := h2, drawn := d } → wpAny (model P w) A (Builtin.Frozenset.unchanged id a Da.2.1 >>= fun _ => pure (ForInStep.yield PUnit.unit)) Qf E { s with heap := h2, drawn := d } := fun h2 Qf kp2 q => by
      unfold Builtin.Frozenset.unchanged
      refine wpAny_bind (wpAny_bind (wpAny_setEpoch_of (kp2 _ _ hoa) rfl Fa.fit ?_))
      rw [if_neg (by simp)]
      exact wpAny_pure (wpAny_pure q)
    refine wpAny_bind (wpAny_holding (wpAny_bind (PySem.W.setFind_any (knd := strKind P w) (S := fun k => decide (k ∈ lb)) hkey rfl (kp _ _ hob) rfl Fb.el (fun k => by rw [decide_eq_true_eq]; exact Fb.mem k) (by rw [szb]; exact hlb) Fb.fit fun r hr => ?_)))
    refine wpAny_bind (wpAny_pure ?_)
    rw [hr]
    by_cases c : kx ∈ lb
    · rw [decide_eq_true c]
      refine wpAny_pure (last h' _ kp ⟨h', d, S, n, done ++ [((strKind P w).hash kx, Value.str kx u)], rfl, kp, hS, by rw [List.append_assoc]; exact ed, by rw [List.filter_append, List.length_append, ← ln, List.filter_cons_of_neg (by show ¬ (!lb.contains kx) = true; rw [List.contains_iff_mem.mpr c]; exact Bool.false_ne_true)]; rfl, fun k => ?_⟩)
      rw [hk k]
      refine and_congr_right fun nk => ⟨fun ⟨e, he, q⟩ => ⟨e, List.mem_append_left _ he, q⟩, fun ⟨e, he, q⟩ => ?_⟩
      rcases List.mem_append.mp he with he | he
      · exact ⟨e, he, q⟩
      · rw [List.mem_singleton.mp he] at q
        have q : kx = k := q
        exact absurd (q ▸ c) nk
    · rw [decide_eq_false c]
      refine wpAny_bind (wpAny_setAddHashed_of (knd := strKind P w) hkey rfl hS (by omega) fun h2 sb2 hS2 => ?_)
      have kp2 : ∀ c o, s.heap.get? c = some o → h2.get? c = some o := fun c o e => (sb2.2 c (nea c o e)).trans (kp c o e)
      refine wpAny_pure (last h2 _ kp2 ⟨h2, d, _, _, done ++ [((strKind P w).hash kx, Value.str kx u)], rfl, kp2, hS2, by rw [List.append_assoc]; exact ed, by
        have sf : S kx = false := by
          rw [Bool.eq_false_iff]
          intro q
          obtain ⟨_, e, he, z⟩ := (hk kx).mp q
          exact nk e he z
        rw [sf, List.filter_append, List.length_append, ← ln, List.filter_cons_of_pos (by show (!lb.contains kx) = true; rw [Bool.not_eq_true', Bool.eq_false_iff]; exact fun z => c (List.contains_iff_mem.mp z))]
        rfl, fun k => ?_⟩)
      rw [Bool.or_eq_true, decide_eq_true_eq, hk k]
      constructor
      · rintro (⟨nk, e, he, q⟩ | q)
        · exact ⟨nk, e, List.mem_append_left _ he, q⟩
        · exact ⟨by rw [q]; exact c, _, List.mem_append_right _ (List.mem_singleton.mpr rfl), q.symm⟩
      · rintro ⟨nk, e, he, q⟩
        rcases List.mem_append.mp he with he | he
        · exact .inl ⟨nk, e, he, q⟩
        · rw [List.mem_singleton.mp he] at q
          exact .inr (show kx = k from q).symm
end
end SetS
namespace SetS
open PySem PySem.Spec PyProof.Rows L2 Gd PySem.Froz PpSet
theorem entry_sub : entryFor table "set.__sub__" = some Builtin.«frozenset.__sub__» := 
  entryFor_alias (id' := "frozenset.__sub__") (by kernel_rfl) rfl (by decide +kernel) (by kernel_rfl)
section
variable {P : Program} {w : World} {A : Around} {E : Value → Shared → Prop} {s : Shared} {a b : Addr} {la lb : List Str}
theorem op_sub {Q : Value → Shared → Prop} (Ra : Is P w s.heap a la) (Rb : Is P w s.heap b lb) (hz : la.length / 4 ≤ lb.length) (hla : la.length + 1 < scanBound) (hlb : lb.length < scanBound) (nda : la.Nodup)
    (hQ : ∀ h' d (S : Str → Bool), h'.SetOf (strKind P w) s.heap.objs.size S (la.filter fun k => !lb.contains k).length → (∀ c o, s.heap.get? c = some o → h'.get? c = some o) → Q (.ref s.heap.objs.size) { s with heap := h', drawn := d }) :
    wpAny (model P w) A (binaryOp .Sub (.ref a) (.ref b)) Q E s := by
  have hTa : s.TypeIs (.ref a) "set" := by
    obtain ⟨D, ho, _⟩ := id Ra
    exact ⟨_, ho, rfl⟩
  have hTb : s.TypeIs (.ref b) "set" := by
    obtain ⟨D, ho, _⟩ := id Rb
    exact ⟨_, ho, rfl⟩
  refine wpAny_binaryOp_same hTa hTb F.fills_set_sub F.slot_set_sub ?_
  refine wpAny_call_entry F.slot_set_sub hTa entry_sub ?_ (F.args_set_sub_2 _ _)
  unfold Builtin.«frozenset.__sub__»
  refine wpAny_bind (m := Builtin.Frozenset.slot1 "__sub__" _) (wpAny_of_eq (a := (.ref a, .ref b)) (by rfl) ?_)
  simp only [Bool.false_eq_true, ↓reduceIte]
  refine wpAny_bind (wpAny_bind (isAny_at (a := a) hTa ?_))
  refine isAny_at (a := b) hTb ?_
  simp only [Bool.not_true, Bool.false_eq_true, ↓reduceIte]
  refine wpAny_bind (m := Builtin.Frozenset.addrOf (.ref a)) (wpAny_pure ?_)
  refine wpAny_bind (sub_at Ra Rb hz hla hlb nda fun h' d S hS kp => ?_)
  exact wpAny_pure ⟨_, rfl, (by simp), hQ h' d S hS kp⟩
end
section
variable {X : Cx}
/-- a set of texts of which the size alone is told -/
def SN (P : Program) (w : World) (a : Addr) (n : Nat) : HO := .ext fun h => ∃ S, h.SetOf (strKind P w) a S n
theorem sn_new {w : World} {P : Program} {H : Hp} {h : Heap} {a : Addr} {n : Nat} {S : Str → Bool} (R : h.SetOf (strKind P w) a S n) : ObjOk P w H h a (SN P w a n) := by
  have ⟨o, _, _, _, ho, _⟩ := R
  refine ⟨⟨S, R⟩, ⟨_, ho⟩, fun h1 h2 p k => ?_⟩
  obtain ⟨S, o, es, ep, t, ho, rest⟩ := p
  exact ⟨S, o, es, ep, t, k _ ho, rest⟩
def rSubS (P : Program) (w : World) : V → V → Hp → VK → Prop := fun x y H Q => ∃ a la b lb, x = .ref a ∧ y = .ref b ∧ H a = some (SO P w a la) ∧ H b = some (SO P w b lb) ∧ la.Nodup ∧ la.length / 4 ≤ lb.length ∧ la.length ≤ 4000 ∧ lb.length ≤ 4000 ∧
  ∀ D, H D = none → Q (.ref D) (upd H D (SN P w D (la.filter fun k => !lb.contains k).length))
theorem or_subS : OpR X (binaryOp .Sub) (rSubS X.prog X.w) := by
  rintro pins s σ H x y v u Q I rx ry ⟨a, la, b, lb, rfl, rfl, ha, hb, nd, hz, h1, h2, q⟩
  cases rx
  cases ry
  refine op_sub (so_get I ha) (so_get I hb) hz (by show la.length + 1 < 4096; omega) (by show lb.length < 4096; omega) nd fun h' d S hS kk => ?_
  have hn : H s.heap.objs.size = none := I.hok.fresh (Nat.le_refl _)
  exact ⟨.ref s.heap.objs.size, _, I.call' (ch := []) rfl (Un.laid kk (Nat.le_refl _) hn) (I.hok.laid kk (Nat.le_refl _) (sn_new hS)) I.bare (fun _ z => nomatch z), rfl, q _ hn⟩
def rLenS (P : Program) (w : World) : List V → Hp → VK → Prop := fun vs H Q => ∃ (a : Addr) (n : Nat), vs = [V.ref a] ∧ H a = some (SN P w a n) ∧ n ≤ 4000 ∧ Q (.int (n : Nat)) H
theorem cr_lenS : CallR X (.builtin "len") (rLenS X.prog X.w) := by
  rintro pins s σ H vs us Q I r ⟨a, n, rfl, ha, hn4, q⟩
  obtain ⟨u, rfl, rx⟩ := vals1 r
  cases rx
  obtain ⟨S, o, es, ep, t, ho, hex, hd, _, _, _, hf, hn⟩ := (I.hok a _ ha).1
  exact call_len_set ho hex hd hf (by rw [hn]; have : scanBound = 4096 := rfl; omega) ⟨.int (n : Nat), H, I.tok _, ⟨_, by rw [hn]⟩, q⟩
end
end SetS
namespace Q
open PySem PySem.Spec PyProof.Rows L2 Gd
variable [Tbl]
/-! ### len(set(xs) - set(ys)), tuples of texts -/
def tupS : D → Option (List Str)
  | .tuple ds => (strsD ds).bind fun ns => if ns.length ≤ 4000 then some ns else none
  | _ => none
theorem tupS_some {d : D} {ns : List Str} (h : tupS d = some ns) : d = .tuple (ns.map PyData.str) ∧ ns.length ≤ 4000 := by
  unfold tupS at h
  split at h
  · next es =>
    cases e : strsD es with
    | none =>
      rw [e] at h
      cases h
    | some ms =>
      rw [e] at h
      have h : (if ms.length ≤ 4000 then some ms else none) = some ns := h
      split at h
      · next q =>
        cases h
        exact ⟨by rw [strsD_eq e], q⟩
      · cases h
  · cases h
def dd (xs : List Str) : List Str := xs.foldl SetS.add []
def eSubLen (f g : Mo R) : Mo R := fun ρ => (f ρ).bind fun a ρ1 => match (look ρ1 a).bind tupS with
  | some xs => (g ρ1).bind fun b ρ2 => match (look ρ2 b).bind tupS with
    | some ys => if (dd xs).length / 4 ≤ (dd ys).length then .ok (.d (.int (((dd xs).filter fun k => !(dd ys).contains k).length : Nat))) ρ2 else .no
    | none => .no
  | none => .no
theorem add_nd {l : List Str} (h : l.Nodup) (x : Str) : (SetS.add l x).Nodup := by
  unfold SetS.add
  split
  · exact h
  · next c => exact List.nodup_cons.mpr ⟨fun z => c (List.contains_iff_mem.mpr z), h⟩
theorem dd_nd (xs : List Str) : (dd xs).Nodup := by
  have go : ∀ (xs l : List Str), l.Nodup → (xs.foldl SetS.add l).Nodup := by
    intro xs
    induction xs with
    | nil => exact fun _ h => h
    | cons x xs ih => exact fun l h => ih _ (add_nd h x)
  exact go xs [] List.nodup_nil
theorem dd_len (xs : List Str) : (dd xs).length ≤ xs.length := by
  have := SetS.adds_len xs []
  rw [List.length_nil, Nat.zero_add] at this
  exact this
section
variable {K : PySem.W.Frag} {n : Nat} {W : XW}
theorem Aft.from {α : Type} {H H2 : Hp} {σ : St} {ρ ρ2 : Ev} {r : Rt α} {Q : α → Ev → Hp → Prop} (st : Stp K n H σ ρ H2 σ ρ2) (h : Aft K n W H σ ρ r Q) : Aft K n W H2 σ ρ2 r Q := by
  cases r with
  | no => exact h
  | ok a ρ' => exact fun H' s => h H' (st.trans s)
  | ex c d ρ' => exact fun H' s => h H' (st.trans s)
end
section
variable {X : Cx} {n : Nat} {W : XW}
theorem subLen_run {f g : Mo R} (σ : St) (H : Hp) (Q : VK) (h : tX X.K n W (eSubLen f g) σ H Q) : tX X.K n W f σ H fun x H1 => SetS.rSetT X.K X.prog X.w [x] H1 fun y H2 => tX X.K n W g σ H2 fun x2 H3 => SetS.rSetT X.K X.prog X.w [x2] H3 fun y2 H4 => SetS.rSubS X.prog X.w y y2 H4 fun z H5 => SetS.rLenS X.prog X.w [z] H5 Q := by
  obtain ⟨ρ, G, h⟩ := h
  refine ⟨ρ, G, (Aft.bind h).mono fun a ρ1 H1 s1 h1 v rv => ?_⟩
  cases e1 : (look ρ1 a).bind tupS with
  | none =>
    rw [e1] at h1
    exact h1.elim
  | some xs =>
    rw [e1] at h1
    cases ea : look ρ1 a with
    | none =>
      rw [ea] at e1
      cases e1
    | some da =>
    rw [ea] at e1
    obtain ⟨rfl, l1⟩ := tupS_some (show tupS da = some xs from e1)
    obtain ⟨p, vs, rfl, sq, im⟩ := (rv.see s1.good ea).tuple
    rw [im.strs] at sq
    refine ⟨p, xs, rfl, sq, l1, fun D hD => ?_⟩
    have st1 : Stp X.K n H1 σ ρ1 (upd H1 D (SetS.SO X.prog X.w D (dd xs))) σ ρ1 := Stp.same s1.good (same_upd hD)
    refine ⟨ρ1, st1.good, (Aft.from st1 (Aft.bind h1)).mono fun b ρ2 H3 s3 h3 u ru => ?_⟩
    cases e2' : (look ρ2 b).bind tupS with
    | none =>
      rw [e2'] at h3
      exact h3.elim
    | some ys =>
      rw [e2'] at h3
      cases eb : look ρ2 b with
      | none =>
        rw [eb] at e2'
        cases e2'
      | some db =>
      rw [eb] at e2'
      obtain ⟨rfl, l2⟩ := tupS_some (show tupS db = some ys from e2')
      obtain ⟨p2, vs2, rfl, sq2, im2⟩ := (ru.see s3.good eb).tuple
      rw [im2.strs] at sq2
      dsimp only at h3
      split at h3
      · next c =>
        refine ⟨p2, ys, rfl, sq2, l2, fun D2 hD2 => ?_⟩
        obtain ⟨k1, _⟩ := ow_keep so_nt (upd_same (H := H1)) (new_own s1.good hD |> fun z q => z (by
          obtain ⟨i, o, q1, q2⟩ := q
          exact ⟨i, o, q1, q2⟩)) s3
        have ne : D ≠ D2 := fun z => by
          rw [z, hD2] at k1
          cases k1
        have st3 : Stp X.K n H3 σ ρ2 (upd H3 D2 (SetS.SO X.prog X.w D2 (dd ys))) σ ρ2 := Stp.same s3.good (same_upd hD2)
        refine ⟨D, dd xs, D2, dd ys, rfl, rfl, by rw [upd_ne ne]; exact k1, upd_same, dd_nd xs, c, Nat.le_trans (dd_len xs) l1, Nat.le_trans (dd_len ys) l2, fun D3 hD3 => ?_⟩
        have st4 := st3.trans (Stp.same st3.good (same_upd (o := SetS.SN X.prog X.w D3 ((dd xs).filter fun k => !(dd ys).contains k).length) hD3))
        exact ⟨D3, _, rfl, upd_same, Nat.le_trans (List.length_filter_le _ _) (Nat.le_trans (dd_len xs) l1), h3 _ st4 _ (.d (.int _))⟩
      · exact h3.elim
theorem xd_subLen {a b : Expr} {pl pa pb qa qb ps pos : Pos} {f g : Mo R} (hc : X.calm = true) (hgl : Gl X "len") (hml : X.mg "len" = none) (hgs : Gl X "set") (hms : X.mg "set" = none) (ha : XD X n W a f) (hb : XD X n W b g)
    (h1 : starEach [.BinOp (.Call (.Name "set" pa) [a] [] qa) .Sub (.Call (.Name "set" pb) [b] [] qb) ps] X.env = (false, eval (.BinOp (.Call (.Name "set" pa) [a] [] qa) .Sub (.Call (.Name "set" pb) [b] [] qb) ps) X.env) :: starEach [] X.env := by rfl)
    (h2 : starEach [a] X.env = (false, eval a X.env) :: starEach [] X.env := by rfl) (h3 : starEach [b] X.env = (false, eval b X.env) :: starEach [] X.env := by rfl) :
    XD X n W (.Call (.Name "len" pl) [.BinOp (.Call (.Name "set" pa) [a] [] qa) .Sub (.Call (.Name "set" pb) [b] [] qb) ps] [] pos) (eSubLen f g) := by
  refine weakE (pe_callB SetS.cr_lenS hgl hml (by decide +kernel) (pa_cons (pe_op SetS.or_subS (pe_callTy (SetS.cr_setT hc) hgs hms (by decide +kernel) (pa_cons ha pa_nil h2) (by decide) (by decide) h2 (by rfl)) (pe_callTy (SetS.cr_setT hc) hgs hms (by decide +kernel) (pa_cons hb pa_nil h3) (by decide) (by decide) h3 (by rfl))) pa_nil h1) (by decide) (by decide) h1 (by rfl)) fun σ H Q h => ?_
  exact subLen_run σ H Q h
end
end Q
namespace Q
open PySem PySem.Spec PyProof.Rows L2 Gd
/-! ### a lambda that is handed to a def -/
/-- what its call gives -/
def toTh : Rt R → Rt D
  | .ok (.d x) _ => .ok x []
  | .ex c d _ => .ex c d []
  | _ => .no
/-- what a lambda may keep of the slots -/
@[simp] def datS (ρ : Ev) : Ev := ρ.map fun s => match s with
  | .own _ => .no
  | s => s
@[simp] def thR (r : Rt D) (ρ : Ev) : Rt R := match r with
  | .ok x _ => .ok (.d x) ρ
  | .ex c d _ => .ex c d ρ
  | .no => .no
@[simp] def eThk (f : Addr) (i : Nat) (r : Rt D) : Mo R := fun ρ => match ρ[i]? with
  | some (.exc c _ (.dict [(.tuple [], .int a)])) => if c = "" ∧ a = ((f : Nat) : Int) then thR r ρ else .no
  | _ => .no
def thS (f : Addr) : Sl := .exc "" "" (.dict [(.tuple [], .int ((f : Nat) : Int))])
/-- the def that got it -/
def thOf (N : Nat) (b : Addr → Rt D → Mo Out) : Addr → Rt D → Option D := fun f r => match b f r (thS f :: List.replicate (N - 1) .no) with
  | .ok (.rt (.d x)) _ => some x
  | .ok .nx _ => some .none
  | _ => none
noncomputable def eLam (G : Addr → Rt D → Option D) (m : Mo R) : Mo R := fun ρ => @dite _ (∃ x, ∀ f, G f (toTh (m (datS ρ))) = some x) (Classical.propDecidable _) (fun h => .ok (.d h.choose) ρ) fun _ => .no
theorem eLam_eq {G : Addr → Rt D → Option D} {m : Mo R} {ρ : Ev} {x : D} (h : ∀ f, G f (toTh (m (datS ρ))) = some x) : eLam G m ρ = .ok (.d x) ρ := by
  unfold eLam
  have hx : ∃ x, ∀ f, G f (toTh (m (datS ρ))) = some x := ⟨x, h⟩
  rw [dif_pos hx]
  have e := hx.choose_spec 0
  rw [h 0] at e
  rw [← Option.some.inj e]
section
variable {X : Cx} {pins : List (Addr × Obj)} {σ : L2.St} {H : Hp} {s : Shared}
/-- the lambda's function is made: what was known stays known -/
theorem lam_new {TT : List (Addr × Str)} {cc PT : Addr} {prm : Arguments} {bd : Expr} {scp : Scope} {lp : Pos} {EE : Value → Shared → Prop} {QQ : Value → Shared → Prop} (II : Inv X pins σ H s) (tb : LamX.TabB X.base X.mg cc PT) (hcc : X.env.code = .ref cc)
    (mT : (PT, X.env.qual ++ "<lambda>") ∈ TT) (uT : ∀ p ∈ TT, p.1 = PT → p.2 = X.env.qual ++ "<lambda>") (tT : LamX.Tabs TT H) (dT : defaultsOf prm X.env = ([], [])) (fT : ∀ y ∈ scp.names, y.2 = .free → ∃ c, X.env.cells.lookup y.1 = some c)
    (go : ∀ (f k : Addr) (pm ctv : Value) (G : Hp) (s2 : Shared), Inv X pins σ G s2 → LamX.ExtN H G → LamX.Tabs TT G → (∀ b, G b = none → H b = none) →
      s2.heap.get? f = some (PySem.W.kla_obj "<lambda>" (X.env.qual ++ "<lambda>") prm bd scp (cloFrom X.env.cells scp.names []) pm k ctv) → G f = none → f ∉ frs X.stack → G k = some (LamX.CodeO k (X.env.qual ++ "<lambda>")) → QQ (.ref f) s2) :
    wpAny (model X.prog X.w) X.A (eval (.Lambda prm bd scp lp) X.env) QQ EE s := by
  obtain ⟨tps, eP, et, ea⟩ := tT _ mT
  have bT : s.heap.BuiltinsAt X.mg PT := tb.bm.keeps II.bk
  have gP : s.heap.get? PT = some { cls := .none, data := .fields tps } := II.hok PT _ eP
  have far : ∀ f, s.heap.objs.size ≤ f → f ∉ frs X.stack := fun f le z => (List.mem_cons.mp (II.stkSub _ z)).elim (fun e => absurd (e ▸ II.lt) (Nat.not_lt.mpr le)) (II.nofs le)
  refine PySem.W.kla_eval dT ?_
  cases hc : codeAmong lp tps.toList with
  | some cv =>
    obtain ⟨k, rfl, hk⟩ := ea lp cv hc
    refine PySem.W.kla_makeFunctionHit (clos := cloFrom X.env.cells scp.names []) (mg := X.mg) (c := cc) (P := PT) (ps := tps) (closure_ok fT) II.ok.glob (II.mod.glob.keeps II.bk) hcc (tb.code.keeps II.bk) gP et hc bT fun ctv g t kp le => ?_
    exact go g.objs.size k ((X.mg "__name__").getD .none) ctv H _ (II.kept fun b o e => Heap.get?_push_of_some _ (kp b o e)) (LamX.ExtN.refl H) tT (fun b e => e) (Heap.get?_push_size _ rfl) (II.hok.fresh le) (far _ le) hk
  | none =>
    refine PySem.W.kla_makeFunction (clos := cloFrom X.env.cells scp.names []) (mg := X.mg) (c := cc) (P := PT) (ps := tps) (closure_ok fT) II.ok.glob (II.mod.glob.keeps II.bk) hcc (tb.code.keeps II.bk) gP et hc tb.gP bT fun k ctv g t ex ge lt rec_ gt => ?_
    obtain ⟨k2, oc, vs, tq, e2, hoc, hd, hv⟩ := rec_
    cases e2
    have le : s.heap.objs.size ≤ g.objs.size := Nat.le_trans ge (Nat.le_of_lt lt)
    have nk : H k = none := II.hok.fresh ge
    have nPk : PT ≠ k := ne_of_none eP nk
    have inv2 := LamX.inv_table (t' := t) (more := #[rawInt lp.line, rawInt lp.col, .ref k]) (q := X.env.qual ++ "<lambda>") (h' := g.push (PySem.W.kla_obj "<lambda>" (X.env.qual ++ "<lambda>") prm bd scp (cloFrom X.env.cells scp.names []) ((X.mg "__name__").getD .none) k ctv)) II eP
      (fun b o nb e => Heap.get?_push_of_some _ (ex b o nb e)) (Heap.get?_push_of_some _ gt) ge ⟨oc, vs, tq, Heap.get?_push_of_some _ hoc, hd, hv⟩
    have at1 : ∀ b, b ≠ PT → b ≠ k → upd (upd H PT (.tbl (tps ++ #[rawInt lp.line, rawInt lp.col, .ref k]))) k (LamX.CodeO k (X.env.qual ++ "<lambda>")) b = H b := fun b n1 n2 => by rw [upd_ne n2, upd_ne n1]
    have eN : LamX.ExtN H (upd (upd H PT (.tbl (tps ++ #[rawInt lp.line, rawInt lp.col, .ref k]))) k (LamX.CodeO k (X.env.qual ++ "<lambda>"))) := fun b o e n => by
      rw [at1 b (fun z => n tps (Option.some.inj (e.symm.trans (z ▸ eP)))) (ne_of_none e nk)]
      exact e
    refine go g.objs.size k ((X.mg "__name__").getD .none) ctv _ _ inv2 eN (fun p hp => ?_) (fun b e => ?_) (Heap.get?_push_size _ rfl) ?_ (far _ le) upd_same
    · by_cases hb : p.1 = PT
      · refine ⟨tps ++ #[rawInt lp.line, rawInt lp.col, .ref k], by rw [hb, upd_ne nPk, upd_same], ?_, fun ps cv hcv => ?_⟩
        · have eL : (tps ++ #[rawInt lp.line, rawInt lp.col, Value.ref k]).toList = tps.toList ++ [rawInt lp.line, rawInt lp.col, .ref k] := by simp
          rw [eL]
          exact PySem.TriplesOk_snoc _ _ _ _ et
        · have eL : (tps ++ #[rawInt lp.line, rawInt lp.col, Value.ref k]).toList = tps.toList ++ [rawInt lp.line, rawInt lp.col, .ref k] := by simp
          rw [eL] at hcv
          rw [uT p hp hb]
          rcases LamX.among_app _ et hcv with z | z
          · obtain ⟨c0, q1, q2⟩ := ea ps cv z
            exact ⟨c0, q1, eN _ _ q2 LamX.codeO_ne⟩
          · exact ⟨k, z, upd_same⟩
      · obtain ⟨us, a1, a2, a3⟩ := tT p hp
        refine ⟨us, by rw [upd_ne (ne_of_none a1 nk), upd_ne hb]; exact a1, a2, fun ps cv hcv => ?_⟩
        obtain ⟨c0, q1, q2⟩ := a3 ps cv hcv
        exact ⟨c0, q1, eN _ _ q2 LamX.codeO_ne⟩
    · by_cases h1 : b = k
      · rw [h1, upd_same] at e
        cases e
      · by_cases h2 : b = PT
        · rw [h2, upd_ne nPk, upd_same] at e
          cases e
        · rw [at1 b h2 h1] at e
          exact e
    · rw [at1 _ (Nat.ne_of_gt (Nat.lt_of_lt_of_le (Heap.lt_size gP) le)) (Nat.ne_of_gt lt)]
      exact II.hok.fresh le
end
end Q
namespace Q
open PySem PySem.Spec PyProof.Rows L2 Gd
section
variable {X : Cx} {pins : List (Addr × Obj)} {σ : L2.St} {H : Hp} {s : Shared}
/-- a(), in the def that got the lambda -/
theorem lam_act {Ng : List Str} {qg : Str} {sg : Scope} {g f k : Addr} {cdg pm ctv : Value} {prm : Arguments} {bd : Expr} {scp : Scope} {j i : Nat} {a : Str} {pn : List (Addr × Obj)} {xe : Value → Shared → Prop} {Wx : WX} {tb : XK → TE} {p1 p2 : Pos}
    (II : Inv X pins σ H s) (LS : LamX.LamS X.env.scope scp) (gf : s.heap.get? f = some (PySem.W.kla_obj "<lambda>" (X.env.qual ++ "<lambda>") prm bd scp (cloFrom X.env.cells scp.names []) pm k ctv)) (nf : H f = none) (nfr : f ∉ frs X.stack)
    (eb : bindArgs (PySem.W.kla_fn "<lambda>" (X.env.qual ++ "<lambda>") prm bd scp (cloFrom X.env.cells scp.names []) pm (.ref k) ctv) ⟨[], []⟩ = pure [])
    (tk : Takes ((cxOf CX0 X.prog X.w X.K X.mg X.base Ng qg sg g cdg X.A X.stack s H E0).nox.tr pn xe) Wx) (room : Room (j + 1) (X.A.deeper (envOfC qg sg s.heap.objs.size g cdg)))
    (B : ∀ (A : Around) (outer : List Env) (s0 : Shared) (H0 : Hp) (E : XK), A.guards = X.A.guards → Room j (A.deeper (LamX.lamEnv X scp s0.heap.objs.size f k)) → PE (LamX.lamCx X A outer s0 H0 E scp f k) bd (tb E))
    (hN : Ng[i]? = some a) (hv : Vis sg a) (hd : (a == ("__debug__" : Str)) = false) (hcd : (a == ("__classdict__" : Str)) = false) :
    PE ((cxOf CX0 X.prog X.w X.K X.mg X.base Ng qg sg g cdg X.A X.stack s H E0).nox.tr pn xe) (.Call (.Name a p1) [] [] p2)
      (fun σZ HZ Q => σZ[i]? = some (some (.ref f)) ∧ HZ k = some (LamX.CodeO k (X.env.qual ++ "<lambda>")) ∧ tb (fun cls d H' => Wx cls d σZ H') σ HZ Q) := by
  refine ⟨fun pinsZ sZ σZ HZ Q IZ ⟨w1, w2, w3⟩ => ?_⟩
  refine wpAny_Call_Name_kw (thn ((pe_var (pos := p1) (i := i) hN hv hd hcd).run pinsZ sZ σZ HZ (fun v G => v = .ref f ∧ G = HZ) IZ ⟨.ref f, w1, rfl, rfl⟩) fun u sB ⟨v, G, IB, rB, e1, e2⟩ => ?_)
  subst e1
  subst e2
  obtain rfl : u = Value.ref f := rB
  have gB : sB.heap.get? f = some (PySem.W.kla_obj "<lambda>" (X.env.qual ++ "<lambda>") prm bd scp (cloFrom X.env.cells scp.names []) pm k ctv) := IB.base.keep f _ gf nf nfr (fun z => nomatch (show f ∈ ([] : List Addr) from z))
  refine PySem.W.callWith_F0 ⟨_, _, _, _, gB⟩ ?_
  have un : Un (frs X.stack) [] H G s.heap sB.heap := IB.base
  obtain ⟨⟨oc, vs, t, hoc, hdc, hvc⟩, _, _⟩ := IB.hok k _ w2
  have main : codeAny (model X.prog X.w) (X.A.deeper (envOfC qg sg s.heap.objs.size g cdg)) (.call (.ref f) ⟨[], []⟩) (CR (L2.CX X.prog X.w) (envOfC qg sg s.heap.objs.size g cdg :: X.stack) X.prog X.w G sB Q fun cls d H' => Wx cls d σZ H') sB := by
    refine PySem.W.kla_callFunE room.depth gB rfl LS.co LS.gen rfl ⟨k, oc, vs, t, rfl, hoc, hdc, hvc⟩ ?_
    rw [eb]
    refine wpAny_pure (wpAny_newFunctionEnv (fun y hy => (LS.own y hy).2) (fun y hy => nomatch hy) (fun hx ns sb => ⟨IB.nolimit.fresh _ sb, ?_⟩) LS.kind)
    have kp : ∀ b o, sB.heap.get? b = some o → hx.get? b = some o := fun b o e => sb.extBut b o (Nat.ne_of_lt (Heap.lt_size e)) (Heap.get?_push_of_some _ e)
    have J := LamX.lam_start2 (A := X.A.deeper (envOfC qg sg s.heap.objs.size g cdg)) (outer := envOfC qg sg s.heap.objs.size g cdg :: X.stack) (E := fun cls d H' => Wx cls d σZ H') (f := f) (c' := k) (tk := sB.toks + 0) II LS IB.env0 room.hd un ns kp
    refine PySem.W.kla_codeExpr (wpAny_mono ((B (X.A.deeper (envOfC qg sg s.heap.objs.size g cdg)) (envOfC qg sg s.heap.objs.size g cdg :: X.stack) sB G (fun cls d H' => Wx cls d σZ H') rfl (room.deeper _)).run [] _ _ G Q J w3) (fun v s' hq => ?_) fun e s' hq => hq)
    obtain ⟨w', H', J', rv, q⟩ := hq
    exact ⟨w', H', J'.os, J'.bare, J'.base, J'.hok, rv, q⟩
  refine wpAny_call (codeAny_mono main fun r s' hq => ?_)
  cases r with
  | error e => exact tk _ _ (XE.of_call IB (fun cls d H' w => w) hq)
  | ok fl =>
    cases fl with
    | ret u => exact IB.after hq
    | next => exact False.elim hq
    | brk => exact False.elim hq
    | cont => exact False.elim hq
end
end Q
namespace Q
open PySem PySem.Spec PyProof.Rows L2 Gd
variable [Tbl]
theorem dat_some {ρ : Ev} {i : Nat} {s : Sl} (h : (datS ρ)[i]? = some s) (ne : s ≠ .no) : ρ[i]? = some s ∧ ∀ o, s ≠ .own o := by
  unfold datS at h
  rw [List.getElem?_map] at h
  cases e : ρ[i]? with
  | none =>
    rw [e] at h
    cases h
  | some t =>
    rw [e] at h
    cases t with
    | own o =>
      cases h
      exact absurd rfl ne
    | no =>
      cases h
      exact absurd rfl ne
    | dat d =>
      cases h
      exact ⟨rfl, fun o z => nomatch z⟩
    | exc c f d =>
      cases h
      exact ⟨rfl, fun o z => nomatch z⟩
theorem dat_own {σ : St} {ρ : Ev} {p : Addr} : ¬ Own σ (datS ρ) p := fun ⟨i, o, e, _⟩ => (dat_some e (fun z => nomatch z)).2 o rfl
theorem Good.dats {K : PySem.W.Frag} {H : Hp} {σ : St} {ρ : Ev} (G : Good K H σ ρ) : Good K H σ (datS ρ) := by
  refine ⟨by unfold datS; rw [List.length_map]; exact G.len, fun i d h => ?_, fun i o h => ?_, fun i j o o' p h => ?_, G.tab, fun i c f d h => ?_⟩
  · exact G.dat i d (dat_some h (fun z => nomatch z)).1
  · exact absurd rfl ((dat_some h (fun z => nomatch z)).2 o)
  · exact absurd rfl ((dat_some h (fun z => nomatch z)).2 o)
  · exact G.exc i c f d (dat_some h (fun z => nomatch z)).1
theorem Grow.ext {H H' : Hp} (e : LamX.ExtN H H') : Grow H H' := ⟨fun b xs h => e _ _ h (fun ps z => nomatch z), fun b o u h => e _ _ h (fun ps z => nomatch z), fun b fs h => e _ _ h (fun ps z => nomatch z), fun b q h => e _ _ h fun ps z => LamX.codeO_ne ps z⟩
theorem key_thk {K : PySem.W.Frag} {H : Hp} {kvs : List (Key × V)} {ds : List (D × D)} (r : ImKV K H kvs ds) {x : D} (e : ds = [(.tuple [], x)]) : False := by
  cases r with
  | nil => cases e
  | @cons k v r d ds h r =>
    injection e with e1 e2
    injection e1 with e3 e4
    cases k <;> cases e3
theorem im_thk {K : PySem.W.Frag} {H : Hp} {v : V} {d x : D} (h : Im K H v d) (e : d = .dict [(.tuple [], x)]) : False := by
  cases h with
  | dic h r =>
    injection e with e
    exact key_thk r e
  | scr h => cases e
  | prm h _ _ => cases e
  | _ => cases e
theorem not_thk {K : PySem.W.Frag} {H : Hp} {v : V} {x : D} : ¬ Im K H v (.dict [(.tuple [], x)]) := fun h => im_thk h rfl
theorem obr_no_tbl {hs : List Key → Int} {K : PySem.W.Frag} {H : Hp} {h : HO} {o : Ob} (x : ObRh hs K H h o) {ps : Array Value} (e : h = .tbl ps) : False := by
  subst e
  cases x
/-- the tables, and that things stay as they were at H1 -/
abbrev ghoT [Tbl] (H1 : Hp) : Tbl := ⟨Tbl.T, fun G => Grow H1 G, fun _ _ u v => v.trans u, Tbl.hs⟩
theorem exc_thk {K : PySem.W.Frag} {H : Hp} {a : Addr} {c f : Str} {i : Int} (x : ExcAt K H a c f (.dict [(.tuple [], .int i)])) : i = ((a : Nat) : Int) := by
  rcases x with ⟨_, _, _, _, v, _, _, _, _, _, _, im⟩ | ⟨_, e⟩
  · exact absurd im not_thk
  · cases e
    rfl
/-- the def that gets a lambda: whatever the lambda's call gives, its body is told -/
structure Gets (P : Program) (w : World) (K : PySem.W.Frag) (mg : Str → Option Value) (base : Heap) (k : Nat) (x : Str) (st : Stmt) (g : Addr) (N : List Str) (a : Str) (b : Addr → Rt D → Mo Out) : Prop where
  run : ∀ [tt : Tbl] (cdv : Value) (A : Around) (outer : List Env) (s : Shared) (H : Hp) (f : Addr) (r : Rt D), A.guards = some [] → Room k (A.deeper (envOfC x (defScope st) s.heap.objs.size g cdv)) →
    (∀ (Wx : WX) (pn : List (Addr × Obj)) (xe : Value → Shared → Prop) (p1 p2 : Pos), Takes ((cxOf CX0 P w K mg base N x (defScope st) g cdv A outer s H E0).nox.tr pn xe) Wx →
      XD ((cxOf CX0 P w K mg base N x (defScope st) g cdv A outer s H E0).nox.tr pn xe) 1 (wE K Wx) (.Call (.Name a p1) [] [] p2) (eThk f 0 r)) →
    XSs (cxOf CX0 P w K mg base N x (defScope st) g cdv A outer s H E0).nox 1 W0 (defBody st) (b f r)
section
variable {X : Cx} {n : Nat} {W : XW} {x a : Str} {st : Stmt} {g c PT : Addr} {fd : FuncData} {N : List Str} {b : Addr → Rt D → Mo Out} {m : Mo R} {prm : Arguments} {bd : Expr} {scp : Scope} {lp p pos : Pos} {k : Nat}
theorem xd_lam (F : Fun X.K x x st g fd) (S : FnScope N [a] (defScope st)) (hN : N[0]? = some a) (hv : Vis (defScope st) a) (gets : Gets X.prog X.w X.K X.mg X.base k x st g N a b)
    (gd : X.A.guards = some []) (room : Room (k + 2) X.A) (hg : Gl X x) (hm : X.mg x = some (.ref g)) (hk : PySem.W.keepIn X.K (.ref g) = true) (hb : Binds X.K fd [a] [])
    (tb : LamX.TabB X.base X.mg c PT) (hcc : X.env.code = .ref c) (mT : (PT, X.env.qual ++ "<lambda>") ∈ Tbl.T) (uT : ∀ p ∈ Tbl.T, p.1 = PT → p.2 = X.env.qual ++ "<lambda>") (LS : LamX.LamS X.env.scope scp) (dT : defaultsOf prm X.env = ([], []))
    (eb : ∀ (q : Str) (cl : List (Str × Addr)) (pm cv ctv : Value), bindArgs (PySem.W.kla_fn "<lambda>" q prm bd scp cl pm cv ctv) ⟨[], []⟩ = pure [])
    (B : ∀ (A : Around) (outer : List Env) (s0 : Shared) (H0 : Hp) (E : XK) (f c' : Addr), A.guards = some [] → Room k (A.deeper (LamX.lamEnv X scp s0.heap.objs.size f c')) → XD (LamX.lamCx X A outer s0 H0 E scp f c') 0 (wE X.K fun cls dd _ H => E cls dd H) bd m)
    (hdb : (x == ("__debug__" : Str)) = false := by decide) (hd : (a == ("__debug__" : Str)) = false := by decide) (hcd : (a == ("__classdict__" : Str)) = false := by decide) :
    XD X n W (.Call (.Name x p) [.Lambda prm bd scp lp] [] pos) (eLam (thOf N.length b) m) := by
  refine ⟨fun pins s σ H Q I ⟨ρ, G, h⟩ => ?_⟩
  unfold eLam at h
  by_cases hx : ∃ x, ∀ f, thOf N.length b f (toTh (m (datS ρ))) = some x
  case neg =>
    rw [dif_neg hx] at h
    exact h.elim
  rw [dif_pos hx] at h
  have hr := hx.choose_spec
  generalize hx.choose = res at h hr
  have h : ∀ H', Stp X.K n H σ ρ H' σ ρ → ∀ v, RR X.K H' σ v (.d res) → Q v H' := h
  refine wpAny_Call_Name_kw (ld_glob I hg hm ?_ hdb)
  refine PySem.W.callWith_K (h₀ := X.base) I.ok.mod.kin hk ?_ (by rfl) (by rfl)
  show wpAny _ _ (spliced ((false, eval (.Lambda prm bd scp lp) X.env) :: backTo pos (starEach [] X.env))) _ _ s
  refine Calls.spliced_cons (lam_new I tb hcc mT uT G.tab.1 dT (LS.has I.ok) fun f c' pm ctv H1 s1 I1 eN T1 lv gf nf nfr hco => ?_)
  refine Calls.spliced_nil ⟨I1.kIn, ?_⟩
  -- what is known from the call on
  have gN : Grow H H1 := Grow.ext eN
  have ownK : ∀ {q u}, Own σ ρ q → H q = some u → H1 q = some u := fun {q u} ho eu => by
    obtain ⟨u', o, e1, r⟩ := G.at ho
    rw [eu] at e1
    cases e1
    exact eN _ _ eu fun ps z => r.no_tbl z
  have rc : codeAny (model X.prog X.w) X.A (.call (.ref g) ⟨[.ref f], []⟩) (CR CX0 X.stack X.prog X.w H1 s1 Q E0) s1 := by
    obtain ⟨oc, od, kV, doc, pm2, an, cdv, ct, osl, rfl, lk, hcd2⟩ := F.ex
    have env0 := I1.env0
    have kin : X.K.In s1.heap := I1.kIn
    have nol : s1.heap.NoLimit := I1.nolimit
    refine codeAny_call_function room.depth (kin _ _ lk) rfl S.co S.gen rfl (PySem.W.codeRec_of kin hcd2) (hb s1 [.ref f] kin rfl _ _ _ _ ?_)
    refine wpAny_newFunctionEnv_cells S.kind ?_ fun env ee s2 inn => ?_
    · rintro ⟨y, v⟩ hy
      refine (S.par y (List.of_mem_zip hy).1).elim Or.inl fun q => Or.inr ⟨q, ?_⟩
      exact PySem.W.cellsFrom_some _ _ _ (Or.inl q)
    subst ee
    refine ⟨nol.keeps inn.toInCall.keep, codeAny_func ?_⟩
    have room1 : Room (k + 1) (X.A.deeper (envOfC x (defScope st) s1.heap.objs.size g cdv)) := Room.deeper (k := k + 1) room _
    have body := gets.run (tt := ghoT H1) cdv X.A X.stack s1 H1 f (toTh (m (datS ρ))) gd (room1.mono (Nat.le_succ k)) (fun Wx pn xe p1 p2 tk => by
      refine weakE (lam_act (i := 0) (p1 := p1) (p2 := p2) (tb := fun E => tX X.K 0 (wE X.K fun cls dd _ H => E cls dd H) m) I1 LS gf nf nfr (eb _ _ _ _ _) tk room1 (fun A outer s0 H0 E g0 r0 => B A outer s0 H0 E f c' (g0.trans gd) r0) hN hv hd hcd) fun σZ HZ QZ hz => ?_
      obtain ⟨ρZ, GZ, hz⟩ := hz
      have gZ : Grow H1 HZ := (@Good.tab (ghoT H1) _ _ _ _ GZ).2
      unfold eThk at hz
      split at hz
      · next c0 q0 i0 e0 =>
        split at hz
        · next hi =>
          obtain ⟨a0, s0, xa⟩ := @Good.exc (ghoT H1) _ _ _ _ GZ _ _ _ _ e0
          have ea := exc_thk xa
          rw [hi.2] at ea
          have ea : f = a0 := Int.ofNat.inj ea
          subst ea
          refine ⟨s0, gZ.2.2.2 _ _ hco, datS ρ, ?_, ?_⟩
          · exact G.dats.grow (gN.trans gZ) (fun p o ho _ => absurd ho dat_own) fun t => ⟨(@Good.tab (ghoT H1) _ _ _ _ GZ).1, Tbl.up _ _ (gN.trans gZ) t.2⟩
          · have back : ∀ {H' : Hp} {ρ1 : Ev}, Stp X.K 0 HZ σ (datS ρ) H' σ ρ1 → @Stp (ghoT H1) X.K 1 HZ σZ ρZ H' σZ ρZ := fun {H' ρ1} st => by
              have kept : ∀ b o, HZ b = some o → (∀ ps, o ≠ .tbl ps) → H' b = some o := fun b o e nt => st.kept b o e dat_own nt
              have gg : Grow HZ H' := Grow.ext kept
              refine @Stp.mk (ghoT H1) _ _ _ _ _ _ _ _ (@Good.grow (ghoT H1) _ _ _ _ _ GZ gg (fun p o ho ep => ?_) fun t => ⟨st.good.tab.1, t.2.trans gg⟩) (fun i _ => ⟨rfl, fun o e => ⟨o, e⟩⟩) (fun b o e _ nt => kept b o e nt) (fun p hp => .inl hp) st.live
              obtain ⟨u, ob, e1, r⟩ := @Good.at (ghoT H1) _ _ _ _ GZ _ ho
              rw [ep] at e1
              cases e1
              exact kept _ _ ep fun ps z => obr_no_tbl r z
            cases em : m (datS ρ) with
            | no =>
              rw [em] at hz
              exact hz.elim
            | ok r ρ1 =>
              cases r with
              | v i =>
                rw [em] at hz
                exact hz.elim
              | d y =>
                rw [em] at hz
                exact fun H' st v rv => by
                  refine hz H' (back st) v ?_
                  cases rv with
                  | d im => exact .d im
            | ex c1 d1 ρ1 =>
              rw [em] at hz
              exact fun H' st C dd fl v d' e1 e2 e3 e4 => hz H' (back st) C dd fl v d' e1 e2 e3 e4
        · exact hz.elim
      · exact hz.elim)
    have I0 := inv_start (CX := CX0) (E := E0) S room.hd env0 (show [V.ref f].length = [a].length from rfl) (.cons rfl .nil) inn
    have st0 : L2.start N [V.ref f] = some (V.ref f) :: List.replicate (N.length - 1) none := rfl
    have good0 : @Good (ghoT H1) X.K H1 (L2.start N [V.ref f]) (thS f :: List.replicate (N.length - 1) .no) := by
      have no : ∀ {i : Nat} {s : Sl}, (thS f :: List.replicate (N.length - 1) Sl.no)[i]? = some s → s = .no ∨ i = 0 ∧ s = thS f := fun {i s} e => by
        cases i with
        | zero => exact .inr ⟨rfl, (Option.some.inj e).symm⟩
        | succ i => exact .inl (List.mem_replicate.mp (List.mem_of_getElem? e)).2
      refine @Good.mk (ghoT H1) _ _ _ _ (by rw [st0]; simp) (fun i d e => ?_) (fun i o e => ?_) (fun i j o o' p e => ?_) ⟨T1, Grow.refl _⟩ fun i c0 f0 d e => ?_
      · rcases no e with z | ⟨_, z⟩ <;> cases z
      · rcases no e with z | ⟨_, z⟩ <;> cases z
      · rcases no e with z | ⟨_, z⟩ <;> cases z
      · rcases no e with z | ⟨rfl, z⟩
        · cases z
        · cases z
          exact ⟨f, rfl, .inr ⟨rfl, rfl⟩⟩
    have noown : ∀ p, ¬ Own (L2.start N [V.ref f]) (thS f :: List.replicate (N.length - 1) .no) p := fun p ⟨i, o, e, _⟩ => by
      cases i with
      | zero => cases e
      | succ i => cases (List.mem_replicate.mp (List.mem_of_getElem? e)).2
    have fin : ∀ {v : V} {σ' : L2.St} {H' : Hp} {ρ' : Ev}, @Stp (ghoT H1) X.K 1 H1 (L2.start N [V.ref f]) (thS f :: List.replicate (N.length - 1) .no) H' σ' ρ' → Im X.K H' v res → Q v H' := fun {v σ' H' ρ'} stc im => by
      have kept : ∀ b o, H1 b = some o → (∀ ps, o ≠ .tbl ps) → H' b = some o := fun b o e nt => @Stp.kept (ghoT H1) _ _ _ _ _ _ _ _ stc b o e (noown b) nt
      have gg : Grow H H' := gN.trans (Grow.ext kept)
      have gd' := @Stp.good (ghoT H1) _ _ _ _ _ _ _ _ stc
      refine h H' ⟨G.grow gg (fun q u ho eu => ?_) (fun t => ⟨(@Good.tab (ghoT H1) _ _ _ _ gd').1, Tbl.up _ _ gg t.2⟩), fun i _ => ⟨rfl, fun o e => ⟨o, e⟩⟩, fun q u eu no nt => kept q u (eN q u eu nt) nt, fun q hq => .inl hq, fun q hq => lv q (@Stp.live (ghoT H1) _ _ _ _ _ _ _ _ stc q hq)⟩ v (.d im)
      obtain ⟨u', o, e1, r⟩ := G.at ho
      rw [eu] at e1
      cases e1
      exact kept _ _ (ownK ho eu) fun ps z => r.no_tbl z
    refine wpAny_mono (body.nox.run [] s2 (L2.start N [V.ref f]) H1 { nx := fun _ H' => Q .non H', rt := Q } I0 ⟨_, good0, ?_⟩) (fun fl s' z => ?_) fun _ _ z => z
    · have e := hr f
      unfold thOf at e
      generalize b f (toTh (m (datS ρ))) (thS f :: List.replicate (N.length - 1) .no) = z at e
      cases z with
      | no => cases e
      | ex c0 d0 ρ0 => cases e
      | ok o ρ0 =>
        cases o with
        | nx =>
          cases e
          exact fun σ' H' stc => fin stc .non
        | bk => cases e
        | ct => cases e
        | rf o => cases e
        | rt r =>
          cases r with
          | v i => cases e
          | d y =>
            cases e
            intro v σ' H' stc rv
            cases rv with
            | d im => exact fin stc im
    · cases fl with
      | ret u =>
        obtain ⟨v, σ', H', J', rv, q⟩ := z
        exact ⟨v, H', J'.os, J'.bare, J'.base, J'.hok, rv, q⟩
      | next =>
        obtain ⟨σ', H', J', q⟩ := z
        exact ⟨V.non, H', J'.os, J'.bare, J'.base, J'.hok, rfl, q⟩
      | brk => exact z.elim fun _ z => z.elim fun _ z => z.2.elim
      | cont => exact z.elim fun _ z => z.elim fun _ z => z.2.elim
  refine wpAny_call (codeAny_mono rc fun r s2 hq => ?_)
  cases r with
  | error e => exact (show False from hq).elim
  | ok fl =>
    cases fl with
    | ret u => exact I1.after hq
    | next => exact False.elim hq
    | brk => exact False.elim hq
    | cont => exact False.elim hq
end
end Q
namespace Q
open PySem PySem.Spec PyProof.Rows L2 Gd
theorem Gets.up {P : Program} {w : World} {K : PySem.W.Frag} {mg : Str → Option Value} {base : Heap} {k j : Nat} {x : Str} {st : Stmt} {g : Addr} {N : List Str} {a : Str} {b : Addr → Rt D → Mo Out} (G : Gets P w K mg base j x st g N a b) (h : j ≤ k) : Gets P w K mg base k x st g N a b :=
  ⟨fun cdv A outer s H f r hg hr act => G.run cdv A outer s H f r hg (hr.mono h) act⟩
end Q
namespace Q
open PySem PySem.Spec PyProof.Rows L2 Gd
variable [Tbl]
/-! ### xs.count(b), xs.index(b), a list of truth values; one thing or another as an own thing -/
def blsD : List D → Option (List Bool)
  | [] => some []
  | .bool b :: ds => (blsD ds).map (b :: ·)
  | _ => none
theorem blsD_eq : ∀ {ds : List D} {bs : List Bool}, blsD ds = some bs → ds = bs.map PyData.bool
  | [], bs, h => by
    cases h
    rfl
  | d :: ds, bs, h => by
    cases d with
    | bool b =>
      have h : (blsD ds).map (b :: ·) = some bs := h
      cases e : blsD ds with
      | none =>
        rw [e] at h
        cases h
      | some cs =>
        rw [e] at h
        cases h
        rw [blsD_eq e]
        rfl
    | _ => cases h
theorem blsD_of (bs : List Bool) : blsD (bs.map PyData.bool) = some bs := by
  induction bs with
  | nil => rfl
  | cons b bs ih =>
    show (blsD (bs.map PyData.bool)).map (b :: ·) = _
    rw [ih]
    rfl
def lcntD (ds : List D) : D → Option D
  | .bool b => (blsD ds).map fun bs => .int (bs.count b : Nat)
  | _ => none
def lidxD (ds : List D) : D → Option D
  | .bool b => (blsD ds).bind fun bs => if b ∈ bs then some (.int (bs.idxOf b : Nat)) else none
  | _ => none
theorem ImL.bls {K : PySem.W.Frag} {H : Hp} : ∀ {xs : List V} {bs : List Bool}, ImL K H xs (bs.map PyData.bool) → xs = bs.map V.bl
  | _, [], .nil => rfl
  | _, b :: bs, .cons h r => by
    cases h
    rw [List.map_cons, ImL.bls r]
theorem cnt_bl {b : Bool} : ∀ {us : List Value} {bs : List Bool}, Vals (bs.map V.bl) us → us.countP (eqU (.bl b)) = bs.count b
  | _, [], .nil => rfl
  | _, c :: bs, .cons r t => by
    have ih := cnt_bl (b := b) t
    cases r
    rw [List.countP_cons, List.count_cons, ih]
    rfl
theorem idx_bl {b : Bool} : ∀ {bs : List Bool}, b ∈ bs → bs[bs.idxOf b]? = some b ∧ ∀ m, m < bs.idxOf b → bs[m]? ≠ some b
  | [], h => nomatch h
  | c :: bs, h => by
    rw [List.idxOf_cons]
    by_cases e : c = b
    · subst e
      rw [beq_self_eq_true]
      exact ⟨rfl, fun m hm => absurd hm (Nat.not_lt_zero m)⟩
    · rw [beq_eq_false_iff_ne.mpr e]
      obtain ⟨h1, h2⟩ := idx_bl ((List.mem_cons.mp h).resolve_left fun z => e z.symm)
      refine ⟨h1, fun m hm => ?_⟩
      cases m with
      | zero => exact fun q => e (Option.some.inj q)
      | succ m => exact h2 m (Nat.lt_of_succ_lt_succ hm)
section
variable {X : Cx}
def rLm (K : PySem.W.Frag) (F : List D → D → Option D) : V → List V → Hp → VK → Prop := fun x xs H Q => ∃ (p : Addr) (ys : List V) (ds : List D) (y : V) (a d : D), x = .ref p ∧ xs = [y] ∧ SqL K H p ys ∧ ImL K H ys ds ∧ Vw K H y a ∧ F ds a = some d ∧ ∀ v, Im K H v d → Q v H
theorem mt_cntL : MtR X "list.count" (rLm X.K lcntD) := by
  intro pins s σ H x xs v us Q I rx rxs h
  obtain ⟨p, ys, ds, y, a, d, rfl, rfl, hs, im, hy, e, q⟩ := h
  cases rx
  obtain ⟨u, rfl, ru⟩ := rxs.one
  cases a with
  | bool b =>
    have e : (blsD ds).map (fun bs => PyData.int (bs.count b : Nat)) = some d := e
    cases eb : blsD ds with
    | none =>
      rw [eb] at e
      cases e
    | some bs =>
      rw [eb] at e
      cases e
      rw [blsD_eq eb] at im
      rw [hy.bl] at ru
      rw [im.bls] at hs
      obtain ⟨its, rv, ⟨⟨cls, dd, data, sl⟩, n, ho, hc, hdn, hd⟩, hlen⟩ := I.list hs
      simp only at hc hd
      subst hc hd
      have fl : (bs.map V.bl).all flatV = true := List.all_eq_true.mpr fun z hz => by
        obtain ⟨c, _, rfl⟩ := List.mem_map.mp hz
        rfl
      refine call_meets PySem.F.slot_list_count ⟨_, ho, rfl⟩ PySem.F.entry_list_count (PySem.F.args_list_count_2 _ _)
        (SeqAt.list_countAt p its.toArray n dd sl u (eqU (.bl b))) ⟨ho, fun z hz => mem_eqAt ru rfl rv fl z (by simpa using hz), ?_⟩
      have ec : its.toArray.toList.countP (eqU (.bl b)) = bs.count b := cnt_bl rv
      refine ⟨.int (bs.count b : Nat), H, I.tok _, ⟨s.toks, ?_⟩, q _ (.int _)⟩
      show Value.int ((its.toArray.toList.countP (eqU (.bl b)) : Nat) : Int) s.toks = Value.int ((bs.count b : Nat) : Int) s.toks
      rw [ec]
  | _ => cases e
theorem mt_idxL : MtR X "list.index" (rLm X.K lidxD) := by
  intro pins s σ H x xs v us Q I rx rxs h
  obtain ⟨p, ys, ds, y, a, d, rfl, rfl, hs, im, hy, e, q⟩ := h
  cases a with
  | bool b =>
    have e : ((blsD ds).bind fun bs => if b ∈ bs then some (PyData.int (bs.idxOf b : Nat)) else none) = some d := e
    cases eb : blsD ds with
    | none =>
      rw [eb] at e
      cases e
    | some bs =>
      rw [eb] at e
      have e : (if b ∈ bs then some (PyData.int (bs.idxOf b : Nat)) else none) = some d := e
      split at e
      · next hb =>
        cases e
        rw [blsD_eq eb] at im
        have fl : (bs.map V.bl).all flatV = true := List.all_eq_true.mpr fun z hz => by
          obtain ⟨c, _, rfl⟩ := List.mem_map.mp hz
          rfl
        obtain ⟨i1, i2⟩ := idx_bl hb
        rw [hy.bl] at rxs
        rw [im.bls] at hs
        refine mt_index pins s σ H _ _ v us Q I rx rxs ⟨p, bs.map V.bl, .bl b, bs.idxOf b, .bl b, rfl, rfl, hs, rfl, fl, by rw [List.getElem?_map, i1]; rfl, beq_self_eq_true b, fun m z' hm hz => ?_, q _ (.int _)⟩
        rw [List.getElem?_map] at hz
        cases e2 : bs[m]? with
        | none =>
          rw [e2] at hz
          cases hz
        | some c =>
          rw [e2] at hz
          cases hz
          exact beq_eq_false_iff_ne.mpr fun z => i2 m hm (by rw [e2, z])
      · cases e
  | _ => cases e
end
@[simp] def eLm (F : List D → D → Option D) (f g : Mo R) : Mo R := fun ρ => (f ρ).bind fun a ρ1 => match a with
  | .d (.list ds) => (g ρ1).bind fun b ρ2 => lift ((look ρ2 b).bind (F ds)) ρ2
  | _ => .no
section
variable {X : Cx} {n : Nat} {W : XW}
theorem xd_lm {F : List D → D → Option D} {name : Str} {id : String} {o e : Expr} {apos cpos : Pos} {f g : Mo R} (hm : MtR X id (rLm X.K F)) (slot : Slot "list" name id) (hty : typeOf (.builtin id) = pure (.type "method_descriptor")) (ho : XD X n W o f) (he : XD X n W e g)
    (hs : starEach [e] X.env = (false, eval e X.env) :: starEach [] X.env := by rfl) (hbase : attributeBase o name X.env (eval o X.env) = eval o X.env := by rfl)
    (hfew : ((backTo cpos (starEach [e] X.env)).all (fun x => !x.1) && (backToKw cpos (keywordEach [] X.env)).all (fun x => x.1.isSome) && decide ([e].length + ([] : List Keyword).length + (if ([] : List Keyword).isEmpty then 0 else 1) < 30)) = true := by rfl)
    (hline : (apos.endLine == cpos.line) = true := by rfl) (hplain : (backTo cpos (starEach [] X.env)).any (·.1) = false := by rfl) :
    XD X n W (.Call (.Attribute o name apos) [e] [] cpos) (eLm F f g) := weakE (pe_bm PySem.F.plainAttrs_list slot hty hm ho (pa_cons he pa_nil hs) hbase hfew hline hs hplain) fun σ H Q ⟨ρ, G, h⟩ => by
  refine ⟨ρ, G, (Aft.bind h).mono fun a ρ1 H1 s1 h1 v rv => ?_⟩
  cases rv with
  | v _ => exact h1.elim
  | @d x im =>
    cases x with
    | list ds =>
      cases im with
      | @lst p xs _ hl ir =>
      refine ⟨.inl ⟨rfl, _, hl.sq⟩, ρ1, s1.good, (Aft.bind h1).mono fun b ρ2 H2 s2 h2 u ru => ?_⟩
      obtain ⟨d, e3, q⟩ := Aft.out s2.good h2
      cases eb : look ρ2 b with
      | none =>
        rw [eb] at e3
        cases e3
      | some y =>
        rw [eb] at e3
        have gr := s2.grow s1.good
        exact ⟨p, xs, ds, u, y, d, rfl, rfl, (gr.l hl).sq, ir.grow gr, ru.see s2.good eb, e3, fun v iv => q v H2 (Same.refl H2) iv⟩
    | _ => exact h1.elim
@[simp] def fIf (c : Mo Bool) (f g : Mo Ob) : Mo Ob := fun ρ => (c ρ).bind fun b ρ1 => if b = true then f ρ1 else g ρ1
theorem xf_if {c a b : Expr} {pos : Pos} {fc : Mo Bool} {f g : Mo Ob} (hc : XB X n W c fc) (ha : XF X n W a f) (hb : XF X n W b g) : XF X n W (.IfExp c a b pos) (fIf fc f g) := weakE (pe_ifExp hc ha hb) fun σ H Q ⟨ρ, G, h⟩ => by
  refine ⟨ρ, G, (Aft.bind h).mono fun k ρ1 H1 s1 h1 => ?_⟩
  cases k with
  | true => exact iteT ⟨ρ1, s1.good, Aft.mono h1 fun o ρ' H' s2 h2 p u np => h2 p u (s1.live p np)⟩
  | false => exact iteF ⟨ρ1, s1.good, Aft.mono h1 fun o ρ' H' s2 h2 p u np => h2 p u (s1.live p np)⟩
end
end Q
namespace Q
open PySem PySem.Spec PyProof.Rows L2 Gd
variable [Tbl]
/-! ### isinstance(x, (T, ..)), x a kept error -/
theorem ka_nil {K : PySem.W.Frag} {t : Value} : PySem.W.kitAny K t [] = some false := rfl
theorem ka_f {K : PySem.W.Frag} {t c : Value} {r : List Value} {b : Bool} (h : PySem.W.kitOne K t c = some false) (hr : PySem.W.kitAny K t r = some b) : PySem.W.kitAny K t (c :: r) = some b := by
  unfold PySem.W.kitAny
  rw [h]
  exact hr
theorem ka_t {K : PySem.W.Frag} {t c : Value} {r : List Value} (h : PySem.W.kitOne K t c = some true) : PySem.W.kitAny K t (c :: r) = some true := by
  unfold PySem.W.kitAny
  rw [h]
theorem tab_any {K : PySem.W.Frag} {mg : Str → Option Value} {c f : Str} {C fI : Addr} {tvs : List Value} {b : Bool} (T : ExcT K mg c f C fI) (h : PySem.W.kitAny K (.ref C) tvs = some b) : ∀ C', PySem.W.nsIn K mainGlobals c = some (some (.ref C')) →
    XfC K C' ∧ (PySem.W.clsIn K C').isSome = true ∧ PySem.W.findIn K (.ref C') "__class__" = some (some (.builtin "object.__class__")) ∧ PySem.W.mroIn K C' (.type "object") = some true ∧ PySem.W.kitAny K (.ref C') tvs = some b := fun C' e => by
  rw [nsC T e]
  exact ⟨T.xf, T.cl, T.ca, T.mo, h⟩
theorem vals_refs : ∀ (as : List Addr) (us : List Value), Vals (as.map V.ref) us → us = as.map Value.ref
  | [], _, .nil => rfl
  | a :: as, _, .cons h r => by
    cases h
    rw [vals_refs as _ r]
    rfl
def tK (ts : List V) : TA := fun _ H Q => Q ts H
section
variable {X : Cx} {n : Nat} {W : XW} {tab : List (Str × Bool)}
theorem pk_nil : PA X [] (tK []) := pa_nil
theorem pk_cons {e : Expr} {es : List Expr} {v : V} {ts : List V} (he : PE X e (tC v)) (hr : PA X es (tK ts)) (hs : starEach (e :: es) X.env = (false, eval e X.env) :: starEach es X.env := by rfl) : PA X (e :: es) (tK (v :: ts)) := pa_cons he hr hs
def rIsXs (K : PySem.W.Frag) (tab : List (Str × Bool)) (ts : List V) : List V → Hp → VK → Prop := fun xs H Q => ∃ (a p : Addr) (c f : Str) (d : D) (b : Bool), xs = [.ref a, .ref p] ∧ H p = some (.tup ts) ∧ ExcA K H a c f d ∧ tab.lookup c = some b ∧ Q (.bl b) H
theorem call_isXs {ts : List V} {tvs : List Value} (B : ExcB X.K) (ht : ∀ us, Vals ts us → us = tvs) (hT : ∀ c b, tab.lookup c = some b → ∀ C, PySem.W.nsIn X.K mainGlobals c = some (some (.ref C)) → XfC X.K C ∧ (PySem.W.clsIn X.K C).isSome = true ∧ PySem.W.findIn X.K (.ref C) "__class__" = some (some (.builtin "object.__class__")) ∧ PySem.W.mroIn X.K C (.type "object") = some true ∧ PySem.W.kitAny X.K (.ref C) tvs = some b) :
    CallR X (.builtin "isinstance") (rIsXs X.K tab ts) := by
  rintro pins s σ H xs us Q I r ⟨a, p, c, f, d, b, rfl, hp, x, et, q⟩
  obtain ⟨u1, u2, rfl, r1, r2⟩ := vals2 r
  cases r1
  cases r2
  obtain ⟨_, its, rv, ⟨⟨cls, dd, data, sl⟩, ho, hc, n, hd⟩⟩ := I.hok p _ hp
  simp only at hc hd
  subst hc hd
  obtain rfl := ht its rv
  obtain ⟨C, oe, od, v, u, nC, J, _, _, _⟩ := inst_of I x
  obtain ⟨xf, cl, ca, mo, k1⟩ := hT c b et C nC
  exact PySem.W.kia_tup (PySem.W.kitx_exc cl xf.ga xf.gg xf.exC ca B.hn B.ht mo) I.kIn J ho k1 (fun z => nomatch z) fun tk => ⟨.bl b, H, I.kept (t' := tk) fun _ _ z => z, rfl, q⟩
theorem xd_isXs {i j : Nat} {x : Str} {es : List Expr} {ts : List V} {tvs : List Value} {p p1 p2 pos : Pos} (B : ExcB X.K) (ht : ∀ us, Vals ts us → us = tvs) (hT : ∀ c b, tab.lookup c = some b → ∀ C, PySem.W.nsIn X.K mainGlobals c = some (some (.ref C)) → XfC X.K C ∧ (PySem.W.clsIn X.K C).isSome = true ∧ PySem.W.findIn X.K (.ref C) "__class__" = some (some (.builtin "object.__class__")) ∧ PySem.W.mroIn X.K C (.type "object") = some true ∧ PySem.W.kitAny X.K (.ref C) tvs = some b)
    (hg : Gl X "isinstance") (hm : X.mg "isinstance" = none) (hv : PE X (.Name x p1) (tVar i)) (hTs : PA X es (tK ts)) (hl : ts.length ≤ 100 := by simp) (hne : tab.lookup ("" : Str) = none := by decide)
    (h1 : starEach [.Name x p1, .Tuple es j p2] X.env = (false, eval (.Name x p1) X.env) :: starEach [.Tuple es j p2] X.env := by rfl) (h2 : (backTo pos (starEach [.Tuple es j p2] X.env)).any (·.1) = false := by rfl) (h3 : starEach [.Tuple es j p2] X.env = (false, eval (.Tuple es j p2) X.env) :: starEach [] X.env := by rfl) :
    XD X n W (.Call (.Name "isinstance" p) [.Name x p1, .Tuple es j p2] [] pos) (eIsX tab i) :=
  weakE (pe_callB (call_isXs B ht hT) hg hm (by decide +kernel) (pa_cons hv (pa_cons (pe_tup hTs) pa_nil h3) h1) (by decide) (by decide) h1 h2) fun σ H Q ⟨ρ, G, h⟩ => by
    unfold eIsX at h
    split at h
    · next c f d e =>
      obtain ⟨a, e1, xa⟩ := G.exc i c f d e
      cases et : tab.lookup c with
      | none =>
        rw [et] at h
        exact h.elim
      | some b =>
        rw [et] at h
        have xa := xa.err (fun z => by rw [z, hne] at et; cases et)
        refine ⟨.ref a, e1, Nat.le_trans hl (by decide), fun q hq => ?_⟩
        have sm : Same H (upd H q (.tup ts)) := same_upd hq
        exact ⟨a, q, c, f, d, b, rfl, upd_same, xa.grow (Grow.same sm), et, h _ (Stp.same G sm) _ (.d (.bl b))⟩
    · exact h.elim
end
end Q
namespace Q
open PySem PySem.Spec PyProof.Rows L2 Gd
variable [Tbl]
/-! ### a list times a number -/
def rep2 : D → D → Option (List D)
  | .list (d :: ds), .int k => if 0 ≤ k ∧ k ≤ 1000 ∧ ds.length < 1000 then some (List.replicate k.toNat (d :: ds)).flatten else none
  | _, _ => none
section
variable {X : Cx} {n : Nat} {W : XW}
theorem rep_arr (its : List Value) (hi : its.toArray.isEmpty = false) (k : Nat) : List.foldl (fun x1 x2 => x1 ++ x2) #[] (List.replicate (if its.toArray.isEmpty = true then 0 else k) its.toArray) = ((List.replicate k its).flatten).toArray := by
  rw [hi, if_neg Bool.false_ne_true]
  have go : ∀ (k : Nat) (acc : Array Value), List.foldl (fun x1 x2 => x1 ++ x2) acc (List.replicate k its.toArray) = acc ++ ((List.replicate k its).flatten).toArray := by
    intro k
    induction k with
    | zero => intro acc; simp
    | succ k ih =>
      intro acc
      rw [List.replicate_succ, List.foldl_cons, ih, List.replicate_succ, List.flatten_cons]
      simp
  rw [go]
  simp
theorem o_repL : OpR X (binaryOp .Mult) (rF2 X.K rep2) := by
  rintro pins s σ H x y v u Q I rx ry ⟨a, b, d, ha, hb, e, q⟩
  unfold rep2 at e
  split at e
  · next d0 ds k =>
    split at e
    · next hk =>
      obtain ⟨k0, k1, l1⟩ := hk
      cases e
      have ey := hb.int
      subst ey
      obtain ⟨p, xs, rfl, hp, ip⟩ := list_rd ha
      have lx : xs.length = ds.length + 1 := ip.len
      cases rx
      obtain ⟨t, rfl⟩ := ry
      obtain ⟨its, m, r, e1⟩ := rd_obj I hp
      have le : its.length = xs.length := r.length.symm
      have hi : its.toArray.isEmpty = false := by
        cases its with
        | nil => rw [lx] at le; cases le
        | cons a b => rfl
      have e2 : sizeLine = 16777216 := by decide
      have a2 : xs.length * k.toNat ≤ 1000 * 1000 := Nat.mul_le_mul (by omega) (by omega)
      have sz : its.toArray.size = xs.length := by rw [List.size_toArray, le]
      have a4 : its.length * k.toNat ≤ 1000000 := by rw [le]; omega
      have a3 : its.toArray.size * k.toNat ≤ 1000000 := by rw [sz]; omega
      refine wpAny_binaryOp_repeat_ref (T := "list") (U := "int") (by decide) ⟨_, e1, rfl⟩ (fun s' => typeIs_int s' k t) noFill_list_mul F.fills_int_mul F.slot_int_rmul repeat_list F.slot_int_index.lookup
        (call_meets F.slot_int_rmul (typeIs_int s k t) F.entry_int_rmul (F.args_int_rmul_2 _ _) (int___rmul___int_list k t p its.toArray m) ⟨e1, rfl, ⟨_, e1, rfl⟩, call_meets F.slot_list_mul ⟨_, e1, rfl⟩ F.entry_list_mul (F.args_list_mul_2 _ _)
          (AutoListH.list___mul___list_int_3 p its.toArray m k t (by simp [Builtin.List.listFitsIndex]; omega) (by simp; omega) (by simp [Builtin.List.listTooLong, sizeLine]; omega)) ⟨e1, ?_⟩⟩)
      rw [rep_arr its hi]
      refine ⟨.ref _, _, I.lnew (t' := s.toks) (Vals.rep r k.toNat) ?_, rfl, q _ _ I.fresh (ImL.rep ip k.toNat)⟩
      rw [List.length_flatten, List.map_replicate, List.sum_replicate_nat, Nat.mul_comm]
      omega
    · cases e
  · cases e
theorem xf_rep {a b : Expr} {pos : Pos} {f g : Mo R} (ha : XD X n W a f) (hb : XD X n W b g) : XF X n W (.BinOp a .Mult b pos) (f2 rep2 f g) := weakE (pe_op o_repL ha hb) f2_run
end
end Q
namespace SetS
open PySem PySem.Spec PyProof.Rows L2 Gd PySem.Froz
/-! ### set(xs), xs a list of texts -/
section
variable {prog : Program} {w : World} {A : Around} {E : Value → Shared → Prop} {s : Shared}
set_option maxHeartbeats 3200000 in
theorem call_set_lst {l : Addr} {items : Array Value} {xs : List Str} {Q : Value → Shared → Prop}
    (hh : A.handled = none) (hl : s.heap.IsList l items) (hi : PyProof.Rows.StrsAre items.toList xs) (hb : xs.length + 1 < scanBound)
    (h : ∀ (h' : Heap) (tk : Nat), Is prog w h' s.heap.objs.size (xs.foldl add []) →
      (∀ b o, s.heap.get? b = some o → h'.get? b = some o) → Q (.ref s.heap.objs.size) { s with heap := h', toks := tk }) :
    wpAny (model prog w) A (call (.type "set") [.ref l]) Q E s := by
  obtain ⟨c, tl, hmro⟩ := PySem.F.called_set.mro
  have hmade := PySem.F.called_set.made
  have hsub := PySem.F.called_set.sub
  refine wpAny_call (codeAny_of_tree ?_)
  show wpAny _ _ (callAny (.type "set") _) _ _ _
  refine wpAny_pure ⟨Code.quiet_builtin _ (by decide +kernel), codeAny_builtin PySem.F.entry_type_call ?_⟩
  rw [Around.under_plain (weight_type_call_type "set" [.ref l] []) rfl]
  have h1 := PySem.F.called_set.notType
  have h2 := PySem.F.called_set.canCreate
  have hct := PySem.F.typeCall_set_1 (.ref l)
  repeat (any_goals (first | assumption | wp_step))
  refine codeAny_mono (code_set_led1 (.ref l) (E := E) (Q₁ := fun obj s₁ => obj = .ref s.heap.objs.size ∧ s₁ = { s with heap := s.heap.push { cls := .type "set", dict := none, data := .set #[] 0 (.fresh 0 0 (!w.params.followText "set-order")) } }) ⟨rfl, rfl⟩) fun r s₁ hr => ?_
  cases r with
  | error e => exact hr
  | ok fl =>
    cases fl with
    | ret obj =>
      obtain ⟨rfl, rfl⟩ := hr
      have hS : (s.heap.push { cls := .type "set", dict := none, data := .set #[] 0 (.fresh 0 0 (!w.params.followText "set-order")) }).get? s.heap.objs.size = some { cls := .type "set", dict := none, data := .set #[] 0 (.fresh 0 0 (!w.params.followText "set-order")) } := Heap.get?_push_size _ rfl
      have hT : Shared.TypeIs { s with heap := s.heap.push { cls := .type "set", dict := none, data := .set #[] 0 (.fresh 0 0 (!w.params.followText "set-order")) } } (.ref s.heap.objs.size) "set" := ⟨_, hS, rfl⟩
      have hli := PySem.F.called_set.init.lookup
      have hbi := PySem.F.called_set.init.bind (.ref s.heap.objs.size)
      repeat (any_goals (first | assumption | wp_step))
      refine codeAny_mono (codeAny_call_builtin (R := wants (fun r s₂ => r = .none ∧ ∃ h' tk, s₂ = { s with heap := h', toks := tk } ∧
          Is prog w h' s.heap.objs.size (xs.foldl add []) ∧
          (∀ b o, s.heap.get? b = some o → h'.get? b = some o)) E) PySem.F.called_set.init.plain PySem.F.entry_set_init (check_set_init_1 hT ?_)) fun r₂ s₂ hr₂ => ?_
      · obtain ⟨ol, hol, hcl, nl, hdl⟩ := hl
        obtain ⟨ocls, odict, odata, oslots⟩ := ol
        simp only at hcl hdl
        subst hcl; subst hdl
        have hol' : (s.heap.push { cls := .type "set", dict := none, data := .set #[] 0 (.fresh 0 0 (!w.params.followText "set-order")) }).get? l = some { cls := .type "list", dict := odict, data := .seq items nl, slots := oslots } := Heap.get?_push_of_some _ hol
        have hsls := PySem.F.sub_list_set
        have hslf := PySem.F.sub_list_frozenset
        have hne : (Value.type "list" == Value.type "dict") = false := by decide
        have hl1 : (s.heap.push { cls := .type "set", dict := none, data := .set #[] 0 (.fresh 0 0 (!w.params.followText "set-order")) }).IsList l items := ⟨_, hol', rfl, nl, rfl⟩
        unfold Builtin.«set.__init__» noKeywords Builtin.Frozenset.updateFrom
        generalize hPI : pyIter = PI
        wp_walk
        subst hPI
        refine wpAny_pyIter_list hl1 ?_
        refine wpAny_bind (wpAny_runValue ?_)
        have hlS : l < s.heap.objs.size := Heap.lt_size hol
        have hh3 : A.in1.in1.in1.handled = none := by simp [hh]
        have hneI : l ≠ (s.heap.push { cls := .type "set", dict := none, data := .set #[] 0 (.fresh 0 0 (!w.params.followText "set-order")) }).objs.size := by
          rw [Heap.size_push]; exact Nat.ne_of_lt (Nat.lt_succ_of_lt hlS)
        have hSf : s.heap.objs.size ∉ [(s.heap.push { cls := .type "set", dict := none, data := .set #[] 0 (.fresh 0 0 (!w.params.followText "set-order")) }).objs.size, l] := by
          rw [Heap.size_push]; simp only [List.mem_cons, List.mem_singleton, List.not_mem_nil, or_false, not_or]
          exact ⟨Nat.ne_of_lt (Nat.lt_succ_self _), Nat.ne_of_gt hlS⟩
        have hsz : xs.length = items.size := by rw [← StrsAre.len_eq hi, Array.length_toList]
        have hval : ∀ (i : Nat) (v : Value), items[i]? = some v → ∃ t, v = .str (xs.getD i Str.empty) t := fun i v hv => SS.strs_at hi i v (by rw [Array.getElem?_toList]; exact hv)
        refine loop_txt ((Walks.list hh3 _ l hneI items).toS) s.heap.objs.size
          hSf xs hsz (by rw [← hsz]; exact hb) hval (items.size - 0) 0 _ (by omega) (Nat.zero_le _)
          ⟨⟨_, Heap.get?_push_size _ rfl, rfl, rfl⟩, (hl1.push _)⟩ ?hS0 ?hR
        case hS0 =>
          have hget : ((s.heap.push { cls := .type "set", dict := none, data := .set #[] 0 (.fresh 0 0 (!w.params.followText "set-order")) }).push { cls := .type "list_iterator", data := .fields #[.ref l, .int 0 0] }).get? s.heap.objs.size
              = some { cls := .type "set", dict := none, data := .set #[] 0 (.fresh 0 0 (!w.params.followText "set-order")) } := Heap.get?_push_of_some _ hS
          exact fresh_at hget
        case hR =>
          intro s' hm hS'
          obtain ⟨h', g', d', tk', os'⟩ := s'
          have eg : g' = s.gens := hm.gens
          have ed : d' = s.drawn := hm.drawn
          have eo : os' = s.os := hm.os
          subst eg; subst ed; subst eo
          show wpAny _ _ _ _ _ _
          refine wpAny_pure ?_
          show wpAny _ _ (ret Value.none) _ _ _
          refine wpAny_pure ⟨rfl, h', tk', rfl, hS', fun b o e => ?_⟩
          have hb0 : b < s.heap.objs.size := Heap.lt_size e
          have hb1 : b ≠ s.heap.objs.size := Nat.ne_of_lt hb0
          have hb2 : b ≠ (s.heap.push { cls := .type "set", dict := none, data := .set #[] 0 (.fresh 0 0 (!w.params.followText "set-order")) }).objs.size := by
            rw [Heap.size_push]; exact Nat.ne_of_lt (Nat.lt_succ_of_lt hb0)
          exact hm.heap b o (by simp only [List.mem_cons, List.mem_singleton, List.not_mem_nil, or_false, not_or]; exact ⟨hb1, hb2⟩) (Heap.get?_push_of_some _ (Heap.get?_push_of_some _ e))
      · cases r₂ with
        | error e => exact hr₂
        | ok fl₂ =>
          cases fl₂ with
          | ret r =>
            obtain ⟨rfl, h', tk, rfl, hS', hk'⟩ := hr₂
            repeat (any_goals (first | assumption | wp_step))
            exact h _ _ hS' hk'
          | _ => exact hr₂.elim
    | _ => exact hr.elim
end
section
variable {X : Cx}
def rSetL (K : PySem.W.Frag) (P : Program) (w : World) : List V → Hp → VK → Prop := fun vs H Q => ∃ (a : Addr) (xs : List Str), vs = [V.ref a] ∧ SqL K H a (xs.map V.str) ∧ xs.length ≤ 4000 ∧ ∀ D, H D = none → Q (.ref D) (upd H D (SO P w D (xs.foldl add [])))
theorem cr_setL (hc : X.calm = true) : CallR X (.type "set") (rSetL X.K X.prog X.w) := by
  rintro pins s σ H vs us Q I r ⟨l, xs, rfl, hq, h1, q⟩
  obtain ⟨u, rfl, rx⟩ := vals1 r
  cases rx
  obtain ⟨its, rv, ⟨o, n, ho, hc1, hdn, hd⟩, hz⟩ := I.list hq
  refine call_set_lst (items := its.toArray) (I.ok.hd hc) ⟨o, ho, hc1, n, hd⟩ (by simpa using strsAre_of rv) (by show xs.length + 1 < 4096; omega) fun h' tk hS hk => ?_
  have hn : H s.heap.objs.size = none := I.hok.fresh (Nat.le_refl _)
  exact ⟨.ref s.heap.objs.size, _, I.laid (t' := tk) (fun b o e => hk b o e) (Nat.le_refl _) (so_new hS), rfl, q _ hn⟩
end
end SetS
namespace Q
open PySem PySem.Spec PyProof.Rows L2 Gd
variable [Tbl]
/-! ### sorted(set(xs)), xs a list of texts -/
def sortSetL : D → Option (List D)
  | .list ds => (strsD ds).bind fun ns => if ns.length ≤ 4000 ∧ (ns.foldl SetS.add []).length < 64 then some ((srt (ns.foldl SetS.add [])).map PyData.str) else none
  | _ => none
def fSortSetL (f : Mo R) : Mo Ob := fun ρ => (f ρ).bind fun r ρ1 => match (look ρ1 r).bind sortSetL with
  | some ds => .ok (.lst ds) ρ1
  | none => .no
theorem sortSetL_some {a : D} {ds : List D} (h : sortSetL a = some ds) : ∃ ns : List Str, a = .list (ns.map PyData.str) ∧ ns.length ≤ 4000 ∧ (ns.foldl SetS.add []).length < 64 ∧ ds = (srt (ns.foldl SetS.add [])).map PyData.str := by
  unfold sortSetL at h
  split at h
  · next es =>
    cases e : strsD es with
    | none =>
      rw [e] at h
      cases h
    | some ns =>
      rw [e] at h
      have h : (if ns.length ≤ 4000 ∧ (ns.foldl SetS.add []).length < 64 then some ((srt (ns.foldl SetS.add [])).map PyData.str) else none) = some ds := h
      split at h
      · next q =>
        cases h
        exact ⟨ns, by rw [strsD_eq e], q.1, q.2, rfl⟩
      · cases h
  · cases h
section
variable {X : Cx} {n : Nat} {W : XW}
theorem sortSetL_run {f : Mo R} (σ : St) (H : Hp) (Q : VK) (h : tF X.K n W (fSortSetL f) σ H Q) : tX X.K n W f σ H fun x H1 => SetS.rSetL X.K X.prog X.w [x] H1 fun y H2 => SetS.rSortS X.prog X.w [y] H2 Q := by
  obtain ⟨ρ, G, h⟩ := h
  refine ⟨ρ, G, (Aft.bind h).mono fun r ρ1 H1 s1 h1 v rv => ?_⟩
  cases ea : look ρ1 r with
  | none =>
    rw [ea] at h1
    exact h1.elim
  | some a =>
    rw [ea] at h1
    have h1 : Aft X.K n W H1 σ ρ1 (match sortSetL a with
      | some ds => Rt.ok (Ob.lst ds) ρ1
      | none => .no) fun o ρ' H' => ∀ p h, H p = none → H' p = some h → ObR X.K H' h o → ¬ Own σ ρ' p → Q (.ref p) H' := h1
    cases es : sortSetL a with
    | none =>
      rw [es] at h1
      exact h1.elim
    | some ds =>
      rw [es] at h1
      obtain ⟨ns, rfl, l1, l2, rfl⟩ := sortSetL_some es
      have hv := rv.see s1.good ea
      obtain ⟨p, xs, rfl, sq, im⟩ := hv.list
      rw [im.strs] at sq
      refine ⟨p, ns, rfl, sq, l1, fun D hD => ⟨D, _, rfl, upd_same, l2, fun ys q pm so hq => ?_⟩⟩
      rw [srt_one pm so]
      have st1 : Stp X.K n H1 σ ρ1 (upd H1 D (SetS.SO X.prog X.w D (ns.foldl SetS.add []))) σ ρ1 := Stp.same s1.good (same_upd hD)
      have st2 := st1.trans (Stp.same st1.good (same_upd (o := .lst ((srt (ns.foldl SetS.add [])).map V.str)) hq))
      exact h1 _ st2 q _ (s1.live _ (st1.live q hq)) upd_same (.lst (ImL.of_strs _)) (new_own st1.good hq)
theorem xf_sortSetL {e : Expr} {p p2 q pos : Pos} {f : Mo R} (hc : X.calm = true) (hg : Gl X "sorted") (hm : X.mg "sorted" = none) (hg2 : Gl X "set") (hm2 : X.mg "set" = none) (he : XD X n W e f)
    (h1 : starEach [.Call (.Name "set" p2) [e] [] q] X.env = (false, eval (.Call (.Name "set" p2) [e] [] q) X.env) :: starEach [] X.env := by rfl) (h2 : starEach [e] X.env = (false, eval e X.env) :: starEach [] X.env := by rfl) :
    XF X n W (.Call (.Name "sorted" p) [.Call (.Name "set" p2) [e] [] q] [] pos) (fSortSetL f) := by
  refine weakE (pe_callB (SetS.cr_sortS hc) hg hm (by decide +kernel) (pa_cons (pe_callTy (SetS.cr_setL hc) hg2 hm2 (by decide +kernel) (pa_cons he pa_nil h2) (by decide) (by decide) h2 (by rfl)) pa_nil h1) (by decide) (by decide) h1 (by rfl)) fun σ H Q h => ?_
  exact sortSetL_run σ H Q h
end
end Q
namespace Q
open PySem PySem.Spec PyProof.Rows L2 Gd
variable [Tbl]
/-! ### table.get(text), where the table is a dict of texts and ints that the program wrote once -/
def EntsC (w : World) : List DictEntry → List (Str × Int) → Prop
  | [], [] => True
  | e :: es, q :: qs => (e.hash = hashStr w q.1 ∧ (∃ t, e.key = .str q.1 t) ∧ ∃ t, e.val = .int q.2 t) ∧ EntsC w es qs
  | _, _ => False
structure ConstD (w : World) (K : PySem.W.Frag) (mg : Str → Option Value) (x : Str) (qs : List (Str × Int)) : Prop where
  at' : ∃ (p : Addr) (es : Array DictEntry) (m : Nat), mg x = some (.ref p) ∧ (p == sysModules) = false ∧ K.lookup p = some { cls := .type "dict", data := .dict es m } ∧ EntsC w es.toList qs
  one : (qs.map (·.1)).Nodup
theorem EntsC.pairs {P : Program} {w : World} : ∀ {es : List DictEntry} {qs : List (Str × Int)}, EntsC w es qs → ∃ ts : List Tok, ts.length = qs.length ∧ Pairs (strKind P w) es ((qs.zip ts).map fun r => (r.1.1, Value.int r.1.2 r.2))
  | [], [], _ => ⟨[], rfl, .nil⟩
  | e :: es, q :: qs, ⟨⟨_, ⟨t, ek⟩, u, ev⟩, r⟩ => by
    obtain ⟨ts, l, p⟩ := EntsC.pairs (P := P) r
    refine ⟨u :: ts, by rw [List.length_cons, List.length_cons, l], .cons ?_ ev p⟩
    rw [ek]
    exact strKind_is P w q.1 t
theorem EntsC.keys {P : Program} {w : World} : ∀ {es : List DictEntry} {qs : List (Str × Int)}, EntsC w es qs → ∀ e ∈ es, ∃ k, (strKind P w).is k e.key = true ∧ e.hash = (strKind P w).hash k
  | e :: es, q :: qs, ⟨⟨eh, ⟨t, ek⟩, _⟩, r⟩, d, hd => by
    rcases List.mem_cons.mp hd with rfl | hd
    · refine ⟨q.1, ?_, eh⟩
      rw [ek]
      exact strKind_is P w q.1 t
    · exact EntsC.keys r d hd
theorem zip_keys : ∀ {qs : List (Str × Int)} {ts : List Tok}, ts.length = qs.length → ((qs.zip ts).map fun r => (r.1.1, Value.int r.1.2 r.2)).map (·.1) = qs.map (·.1)
  | [], [], _ => rfl
  | q :: qs, t :: ts, h => by
    have ih := zip_keys (qs := qs) (ts := ts) (Nat.succ.inj h)
    rw [List.zip_cons_cons, List.map_cons, List.map_cons, ih]
    rfl
def getV (qs : List (Str × Int)) (z : Str) : V := ((qs.find? fun q => decide (q.1 = z)).map fun q => V.int q.2).getD .non
def getC (qs : List (Str × Int)) : D → Option D
  | .str z => some (((qs.find? fun q => decide (q.1 = z)).map fun q => PyData.int q.2).getD .none)
  | _ => none
theorem zip_find {z : Str} : ∀ {qs : List (Str × Int)} {ts : List Tok}, ts.length = qs.length → RelV (getV qs z) ((valueAt ((qs.zip ts).map fun r => (r.1.1, Value.int r.1.2 r.2)) z).getD .none)
  | [], [], _ => rfl
  | q :: qs, t :: ts, h => by
    have ih := zip_find (z := z) (qs := qs) (ts := ts) (Nat.succ.inj h)
    unfold getV valueAt at ih ⊢
    rw [List.zip_cons_cons, List.map_cons, List.find?_cons, List.find?_cons]
    by_cases e : q.1 = z
    · simp [e]
      exact ⟨t, rfl⟩
    · simp [e]
      simpa using ih
theorem im_getC {K : PySem.W.Frag} {H : Hp} {qs : List (Str × Int)} {z : Str} {d : D} (e : getC qs (.str z) = some d) : Im K H (getV qs z) d := by
  cases e
  unfold getV
  cases (qs.find? fun q => decide (q.1 = z)) with
  | none => exact .non
  | some q => exact .int q.2
section
variable {X : Cx} {n : Nat} {W : XW}
def tGetC (f : Str → V) (ty : TE) : TE := fun σ H Q => ty σ H fun y H2 => ∃ z, y = .str z ∧ Q (f z) H2
theorem pe_getC {x : Str} {qs : List (Str × Int)} {e : Expr} {p apos cpos : Pos} {ty : TE} (hg : Gl X x) (c : ConstD X.w X.K X.mg x qs) (he : PE X e ty) (m : L2.M1 X (.Name x p) "get" apos e cpos) (hd : (x == ("__debug__" : Str)) = false) :
    PE X (.Call (.Attribute (.Name x p) "get" apos) [e] [] cpos) (tGetC (getV qs) ty) := by
  obtain ⟨⟨a, es, k, ea, lo, lk, en⟩, nd⟩ := c
  obtain ⟨ts, lt, pr⟩ := en.pairs (P := X.prog)
  have dict : ∀ {s : Shared}, X.K.In s.heap → s.heap.DictOf (strKind X.prog X.w) a ((qs.zip ts).map fun r => (r.1.1, Value.int r.1.2 r.2)) := fun kin => by
    refine ⟨_, es, k, kin a _ lk, ⟨rfl, rfl, rfl⟩, rfl, fun e he => en.keys e (by simpa using he), pr, ?_⟩
    rw [zip_keys lt]
    exact nd
  refine ⟨fun pins s σ H Q I h => ?_⟩
  refine wpAny_Call_method m.base m.few m.line PySem.F.plainAttrs_dict PySem.F.slot_dict_get PySem.F.type_dict_get (thn ((pe_glob (v := .ref a) hg ea rfl hd).run pins s σ H (fun x H1 => x = .ref a ∧ ty σ H1 fun y H2 => ∃ z, y = .str z ∧ Q (getV qs z) H2) I ⟨rfl, h⟩) fun u s1 ⟨x, H1, I1, rx, ex, q1⟩ => ?_)
  subst ex
  obtain rfl : u = Value.ref a := rx
  have d1 := dict I1.kIn
  refine ⟨d1.typeIs, d1.mapOf.noDict, ?_⟩
  rw [m.trees]
  refine Calls.callWith_builtin rfl (Calls.evalArgs_plain (Calls.spliced_cons (thn (he.run pins s1 σ H1 _ I1 q1) fun iv s2 ⟨y, H2, I2, ry, z, ez, q2⟩ => Calls.spliced_nil ?_)))
  subst ez
  obtain ⟨t, rfl⟩ := ry
  have d2 := dict I2.kIn
  exact call_meetsIn PySem.F.slot_dict_get d2.typeIs PySem.F.entry_dict_get (PySem.F.args_dict_get_2 _ _) (meets_dict_get (strKind X.prog X.w) a (strKind_is _ _ z t) lo) ⟨_, d2.mapOf, ⟨_, H2, I2.tok _, zip_find lt, q2⟩⟩
@[simp] def eGetC (qs : List (Str × Int)) (g : Mo R) : Mo R := fun ρ => (g ρ).bind fun b ρ1 => lift ((look ρ1 b).bind (getC qs)) ρ1
theorem xd_getC {x : Str} {qs : List (Str × Int)} {e : Expr} {p apos cpos : Pos} {g : Mo R} (hg : Gl X x) (c : ConstD X.w X.K X.mg x qs) (he : XD X n W e g)
    (hs : starEach [e] X.env = (false, eval e X.env) :: starEach [] X.env := by rfl) (hbase : attributeBase (.Name x p) "get" X.env (eval (.Name x p) X.env) = eval (.Name x p) X.env := by rfl)
    (hfew : ((backTo cpos (starEach [e] X.env)).all (fun x => !x.1) && (backToKw cpos (keywordEach [] X.env)).all (fun x => x.1.isSome) && decide ([e].length + ([] : List Keyword).length + (if ([] : List Keyword).isEmpty then 0 else 1) < 30)) = true := by rfl)
    (hline : (apos.endLine == cpos.line) = true := by rfl) (htr : backTo cpos (starEach [e] X.env) = [(false, eval e X.env)] := by rfl) (hd : (x == ("__debug__" : Str)) = false := by decide) :
    XD X n W (.Call (.Attribute (.Name x p) "get" apos) [e] [] cpos) (eGetC qs g) := weakE (pe_getC hg c he ⟨hbase, hfew, hline, htr⟩ hd) fun σ H Q ⟨ρ, G, h⟩ => by
  refine ⟨ρ, G, (Aft.bind h).mono fun b ρ1 H1 s1 h1 v rv => ?_⟩
  obtain ⟨d, e1, q⟩ := Aft.out s1.good h1
  cases eb : look ρ1 b with
  | none =>
    rw [eb] at e1
    cases e1
  | some y =>
    rw [eb] at e1
    have e1 : getC qs y = some d := e1
    cases y with
    | str z => exact ⟨z, (rv.see s1.good eb).str, q _ H1 (Same.refl H1) (im_getC e1)⟩
    | _ => cases e1
/-! ### xs.count(b), xs.index(b), also of a slot's own list -/
def lkL (F : List D → D → Option D) (ρ : Ev) (a b : R) : Option D := match look ρ a, look ρ b with
  | some (.list ds), some y => F ds y
  | _, _ => none
def isLk (ρ : Ev) (a : R) : Bool := match look ρ a with
  | some (.list _) => true
  | _ => false
def eLmV (F : List D → D → Option D) (f g : Mo R) : Mo R := fun ρ => (f ρ).bind fun a ρ1 => if isLk ρ1 a = true then (g ρ1).bind fun b ρ2 => lift (lkL F ρ2 a b) ρ2 else .no
theorem xd_lmV {F : List D → D → Option D} {name : Str} {id : String} {o e : Expr} {apos cpos : Pos} {f g : Mo R} (hm : MtR X id (rLm X.K F)) (slot : Slot "list" name id) (hty : typeOf (.builtin id) = pure (.type "method_descriptor")) (ho : XD X n W o f) (he : XD X n W e g)
    (hs : starEach [e] X.env = (false, eval e X.env) :: starEach [] X.env := by rfl) (hbase : attributeBase o name X.env (eval o X.env) = eval o X.env := by rfl)
    (hfew : ((backTo cpos (starEach [e] X.env)).all (fun x => !x.1) && (backToKw cpos (keywordEach [] X.env)).all (fun x => x.1.isSome) && decide ([e].length + ([] : List Keyword).length + (if ([] : List Keyword).isEmpty then 0 else 1) < 30)) = true := by rfl)
    (hline : (apos.endLine == cpos.line) = true := by rfl) (hplain : (backTo cpos (starEach [] X.env)).any (·.1) = false := by rfl) :
    XD X n W (.Call (.Attribute o name apos) [e] [] cpos) (eLmV F f g) := weakE (pe_bm PySem.F.plainAttrs_list slot hty hm ho (pa_cons he pa_nil hs) hbase hfew hline hs hplain) fun σ H Q ⟨ρ, G, h⟩ => by
  refine ⟨ρ, G, (Aft.bind h).mono fun a ρ1 H1 s1 h1 v rv => ?_⟩
  have li : isLk ρ1 a = true := by
    cases c : isLk ρ1 a with
    | true => rfl
    | false =>
      rw [if_neg fun z => by rw [c] at z; cases z] at h1
      exact h1.elim
  rw [if_pos li] at h1
  obtain ⟨d0, e0⟩ : ∃ d0, look ρ1 a = some (.list d0) := by
    unfold isLk at li
    split at li
    · next d0 e0 => exact ⟨d0, e0⟩
    · cases li
  obtain ⟨q0, x0, rfl, sq, _⟩ := (rv.see s1.good e0).list
  refine ⟨.inl ⟨rfl, _, sq⟩, ρ1, s1.good, (Aft.bind h1).mono fun b ρ2 H2 s2 h2 u ru => ?_⟩
  obtain ⟨d, e3, q⟩ := Aft.out s2.good h2
  unfold lkL at e3
  split at e3
  · next ds y ea eb =>
    have rv2 : RR X.K H2 σ (.ref q0) a := rv.grow (s2.grow s1.good)
    obtain ⟨p, xs, e4, sq2, im⟩ := (rv2.see s2.good ea).list
    cases e4
    exact ⟨q0, xs, ds, u, y, d, rfl, rfl, sq2, im, ru.see s2.good eb, e3, fun v iv => q v H2 (Same.refl H2) iv⟩
  · cases e3
/-! ### t == () -/
def eqAny (a b : D) : Option D := if nilD b = true then (emptyD a).map .bool else eqF a b
theorem o_eqAny (hu : X.A.units + 64 < cLine) : OpR X (compareOp .Eq) (rQ2 X.K eqAny) := by
  rintro pins s σ H x y v u Q I rx ry ⟨a, b, d, ha, hb, e, q⟩
  unfold eqAny at e
  split at e
  · next hn =>
    obtain ⟨r0, e0, rfl⟩ := map_some e
    cases a with
    | tuple ds =>
      cases e0
      cases b with
      | tuple es =>
        cases es with
        | cons _ _ => exact absurd hn Bool.false_ne_true
        | nil =>
          obtain ⟨p, xs, rfl, hp, ip⟩ := ha.tuple
          obtain ⟨p2, ys, rfl, hp2, ip2⟩ := hb.tuple
          cases ip2
          cases rx
          cases ry
          obtain ⟨its, r1, p1, _⟩ := I.tuple hp
          obtain ⟨its2, r2, p2, _⟩ := I.tuple hp2
          cases r2
          refine SeqAt.RcAt.tuples (e := fun _ => true) p1 p2 (by omega) (fun j h1 h2 => absurd h2 (Nat.not_lt_zero _)) _ _ _ _ ⟨.bl ds.isEmpty, H, I, ?_, q _ H (Same.refl H) (.bl _)⟩
          cases ip with
          | nil => cases r1; rfl
          | cons _ _ => cases r1; rfl
      | _ => exact absurd hn Bool.false_ne_true
    | _ => cases e0
  · exact o_eq hu pins s σ H x y v u Q I rx ry ⟨a, b, d, ha, hb, e, q⟩
end
end Q
namespace Q
open PySem PySem.Spec PyProof.Rows L2 Gd
/-! ### a key that is a def or a lambda: (len(x), x) -/
def keyE (a : Str) (p1 p2 p3 p4 p5 : Pos) (k : Nat) : Expr := .Tuple [.Call (.Name "len" p1) [.Name a p2] [] p3, .Name a p4] k p5
structure KeyPos (a : Str) (p1 p2 p3 p4 p5 : Pos) : Prop where
  two : ∀ env : Env, backTo p5 (starEach [.Call (.Name "len" p1) [.Name a p2] [] p3, .Name a p4] env) = [(false, eval (.Call (.Name "len" p1) [.Name a p2] [] p3) env), (false, eval (.Name a p4) env)]
  one : ∀ env : Env, backTo p3 (starEach [.Name a p2] env) = [(false, eval (.Name a p2) env)]
  kw : ∀ env : Env, backToKw p3 (keywordEach [] env) = []
  nd : (a == ("__debug__" : Str)) = false
theorem key_eval {P : Program} {w : World} {mg mb : Str → Option Value} {u : Addr} {a : Str} {p1 p2 p3 p4 p5 : Pos} {k : Nat} {A : Around} {E : Value → Shared → Prop} {env : Env} {s : Shared} {its : Array Value} {ds : List D} {m : Str → Option Value} {Q : Value → Shared → Prop} (kp : KeyPos a p1 p2 p3 p4 p5)
    (hkind : env.scope.kind = .function) (hl : env.kindOf a = some .local) (hlen : env.kindOf ("len" : Str) = some .globalImplicit) (hg : s.heap.Ns env.globals mg) (hb : s.heap.Ns env.builtins mb) (hm : mg "len" = none) (hmb : mb "len" = bootBuiltins "len")
    (hn : s.heap.Ns env.locals m) (hv : m a = some (.ref u)) (hu : s.heap.IsTuple u its) (hr : ReadsAll s.heap its.toList ds []) (hsz : its.size ≤ 1000)
    (q : ∀ h' tk v, (∀ b o, s.heap.get? b = some o → h'.get? b = some o) → Reads h' v (.tuple [.int (its.size : Nat), .tuple ds]) [] → Q v { s with heap := h', toks := tk }) :
    wpAny (model P w) A (eval (keyE a p1 p2 p3 p4 p5 k) env) Q E s := by
  refine wpAny_Tuple ?_
  rw [kp.two]
  refine Calls.spliced_cons (wpAny_Call_Name_kw (Calls.Name_function_global hkind hlen (Calls.loadGlobal_builtin hg hm hb (hmb.trans (by rfl)) ?_)))
  rw [kp.one, kp.kw]
  refine callWith_builtin1 (wpAny_Name (wpAny_loadName_local hkind hl hn hv ?_) kp.nd)
  refine len_tuple (items := its) hu (by omega) ?_
  refine Calls.spliced_cons (wpAny_Name (wpAny_loadName_local hkind hl hn hv ?_) kp.nd)
  refine Calls.spliced_nil ⟨by show 2 ≤ sizeLine; decide, ?_⟩
  have old : ∀ b o, s.heap.get? b = some o → (s.heap.push { cls := .type "tuple", data := .seq [Value.int (its.size : Nat) (s.toks + 1), .ref u].toArray }).get? b = some o := fun b o e => Heap.get?_push_of_some _ e
  refine q _ _ _ old (.tuple (Heap.get?_push_size s.heap rfl) rfl rfl (.cons (as := []) (.int _ _) (.cons (as := []) (bs := []) ?_ .nil)))
  obtain ⟨o, h1, h2, n, h3⟩ := hu
  exact PyProof.Rows.Reads.keeps old (.tuple h1 h2 h3 hr)
theorem key_call {P : Program} {w : World} {K : PySem.W.Frag} {mg : Str → Option Value} {base : Heap} {f u : Addr} {fd : FuncData} {o : Obj} {a : Str} {p1 p2 p3 p4 p5 p6 : Pos} {k : Nat} {A : Around} {s : Shared} {its : Array Value} {ds : List D} (kp : KeyPos a p1 p2 p3 p4 p5)
    (room : A.depth < recursionLimit) (M : Mod K mg base) (bs : ∀ b o, base.get? b = some o → s.heap.get? b = some o) (hm : mg "len" = none)
    (ho : s.heap.get? f = some o) (hd : o.data = .func fd) (hco : fd.scope.isCoroutine = false) (hgen : fd.scope.isGenerator = false) (hbody : fd.body = .stmts [.Return (some (keyE a p1 p2 p3 p4 p5 k)) p6]) (hcd : s.heap.CodeRec fd.code fd.qualname)
    (hb : BindsTo s fd ⟨[.ref u], []⟩ [(a, .ref u)]) (hkind : fd.scope.kind = .function) (hcl : ∀ y ∈ fd.scope.names, y.2 ≠ .cell) (hl : fd.scope.names.lookup a = some NameKind.local) (hlen : fd.scope.names.lookup ("len" : Str) = some NameKind.globalImplicit) (hglo : fd.globals = mainGlobals) (hbl : fd.builtins = builtinsNs)
    (hu : s.heap.IsTuple u its) (hr : ReadsAll s.heap its.toList ds []) (hsz : its.size ≤ 1000) :
    wpAny (model P w) A (call (.ref f) [.ref u]) (PySem.W.KeyPure (.tuple [.int (its.size : Nat), .tuple ds]) s) (fun _ _ => False) s := by
  refine wpAny_call (codeAny_call_function room ho hd hco hgen hbody hcd (hb _ _ _ _ ?_))
  refine wpAny_newFunctionEnv hcl (fun x hx => ?_) (fun h' ns sb => ?_) hkind
  · rw [List.mem_singleton.mp hx]
    exact hl
  · have old : ∀ b o, s.heap.get? b = some o → h'.get? b = some o := fun b o e => by
      rw [sb.2 b fun z => absurd (Heap.lt_size e) (by rw [z]; exact Nat.lt_irrefl _)]
      exact Heap.get?_push_of_some _ e
    refine ⟨M.nolimit.keeps fun b o e => old b o (bs b o e), codeAny_func ?_⟩
    obtain ⟨mb, hbn, hbb⟩ := M.blt
    refine wpAny_execs_cons (wpAny_Return_some (key_eval (mg := mg) (mb := mb) (u := u) (its := its) (ds := ds) (m := fun x => ([(a, Value.ref u)] : List (Str × Value)).reverse.lookup x) kp hkind hl hlen ?_ ?_ hm (hbb _ (by decide)) ns ?_ ?_ ?_ hsz ?_))
    · show h'.Ns fd.globals mg
      rw [hglo]
      exact M.glob.keeps fun b o e => old b o (bs b o e)
    · show h'.Ns fd.builtins mb
      rw [hbl]
      exact hbn.keeps fun b o e => old b o (bs b o e)
    · simp
    · obtain ⟨o2, h1, h2, n, h3⟩ := hu
      exact ⟨o2, old u o2 h1, h2, n, h3⟩
    · exact PyProof.Rows.ReadsAll.keeps old hr
    · intro h2 tk v o2 rd
      exact ⟨h2, tk, rfl, fun b o e => o2 b o (old b o e), rd⟩
end Q
namespace Q
open PySem PySem.Spec PyProof.Rows L2 Gd
variable [Tbl]
/-! ### sorted(xs, key=f), f a def that gives (len(x), x), xs a list of tuples of texts -/
structure KeyF (K : PySem.W.Frag) (x : Str) (st : Stmt) (f : Addr) (fd : FuncData) (a : Str) : Prop where
  F : Fun K x x st f fd
  b : Binds K fd [a] []
  body : ∃ p1 p2 p3 p4 p5 p6 k, defBody st = [.Return (some (keyE a p1 p2 p3 p4 p5 k)) p6] ∧ KeyPos a p1 p2 p3 p4 p5
  kind : (defScope st).kind = .function
  co : (defScope st).isCoroutine = false
  gen : (defScope st).isGenerator = false
  cl : ∀ y ∈ (defScope st).names, y.2 ≠ .cell
  lo : (defScope st).names.lookup a = some NameKind.local
  ln : (defScope st).names.lookup ("len" : Str) = some NameKind.globalImplicit
def txtsD (z : List Str) : D := .tuple (z.map PyData.str)
def keyZ (z : List Str) : D := .tuple [.int (z.length : Nat), txtsD z]
noncomputable def sortZ (zs : List (List Str)) : List (List Str) := zs.mergeSort (PySem.W.dataLe false keyZ)
theorem alike_strs : ∀ a b : List Str, PySem.W.alikeAll (a.map PyData.str) (b.map PyData.str) = true
  | [], _ => by simp [PySem.W.alikeAll]
  | _ :: _, [] => by simp [PySem.W.alikeAll]
  | x :: xs, y :: ys => by
    show (PySem.W.alike (.str x) (.str y) && PySem.W.alikeAll (xs.map PyData.str) (ys.map PyData.str)) = true
    rw [alike_strs xs ys]
    rfl
theorem reads_strs {h : Heap} : ∀ {z : List Str} {us : List Value}, Vals (z.map V.str) us → ReadsAll h us (z.map PyData.str) []
  | [], [], .nil => .nil
  | z :: zs, _ :: _, .cons ⟨t, e⟩ r => by
    subst e
    exact .cons (as := []) (bs := []) (.str z t) (reads_strs r)
theorem deep_strs0 : ∀ ns : List Str, PyData.depthAll (ns.map PyData.str) = 0
  | [] => rfl
  | n :: ns => by
    show max 0 (PyData.depthAll (ns.map PyData.str)) = 0
    rw [deep_strs0 ns]
    rfl
theorem im_strs {K : PySem.W.Frag} {H : Hp} : ∀ {xs : List V} {z : List Str}, ImL K H xs (z.map PyData.str) → xs = z.map V.str
  | _, [], .nil => rfl
  | _, z :: zs, .cons h r => by
    cases h
    rw [List.map_cons, im_strs r]
section
variable {X : Cx}
def KeyRel (X : Cx) (H : Hp) (h : Heap) (v : Value) (b : V × List Str) : Prop := RelV b.1 v ∧ Im X.K H b.1 (txtsD b.2) ∧ ∃ (u : Addr) (its : Array Value), v = .ref u ∧ h.IsTuple u its ∧ ReadsAll h its.toList (b.2.map PyData.str) [] ∧ its.size = b.2.length
theorem each_of {pins : List (Addr × Obj)} {σ : L2.St} {H : Hp} {s : Shared} (I : Inv X pins σ H s) : ∀ {xs : List V} {ts : List (List Str)} {its : List Value}, ImL X.K H xs (ts.map txtsD) → Vals xs its → PySem.W.EachIs (KeyRel X H s.heap) its (xs.zip ts)
  | _, [], _, .nil, .nil => .nil
  | x :: xs, t :: ts, v :: its, .cons h r, .cons hv rv => by
    refine .cons ⟨hv, h, ?_⟩ (each_of I r rv)
    have h : Im X.K H x (.tuple (t.map PyData.str)) := h
    cases h with
    | @tup u ys _ hn hi =>
      cases (show v = Value.ref u from hv)
      rw [im_strs hi] at hn
      obtain ⟨us, r1, tp, _⟩ := I.tuple hn.sq
      have lu := r1.length
      rw [List.length_map] at lu
      exact ⟨u, us.toArray, rfl, tp, by simpa using reads_strs r1, by rw [List.size_toArray, lu]⟩
theorem each_end {H : Hp} {h : Heap} : ∀ {out : List Value} {bs : List (V × List Str)}, PySem.W.EachIs (KeyRel X H h) out bs → Vals (bs.map (·.1)) out ∧ ImL X.K H (bs.map (·.1)) ((bs.map (·.2)).map txtsD)
  | _, _, .nil => ⟨.nil, .nil⟩
  | _, _, .cons ⟨r, im, _⟩ t => by
    obtain ⟨a, b⟩ := each_end t
    exact ⟨.cons r a, .cons im b⟩
def rSortKey (K : PySem.W.Frag) (f : Addr) : List V → List V → Hp → VK → Prop := fun vs zs H Q => ∃ (a : Addr) (xs : List V) (ts : List (List Str)), vs = [V.ref a] ∧ zs = [V.ref f] ∧ SqL K H a xs ∧ ImL K H xs (ts.map txtsD) ∧ (∀ t ∈ ts, t.length ≤ 1000) ∧
  ∀ p us, H p = none → ImL K H us ((sortZ ts).map txtsD) → Q (.ref p) (upd H p (.lst us))
theorem sort_run {f l : Addr} {pins : List (Addr × Obj)} {s : Shared} {σ : L2.St} {H : Hp} {xs : List V} {ts : List (List Str)} {Q : VK} (room : Room 1 X.A) (I : Inv X pins σ H s) (hs : SqL X.K H l xs) (im : ImL X.K H xs (ts.map txtsD)) (lt : ∀ t ∈ ts, t.length ≤ 1000)
    (turn : ∀ (h : Heap) (tk : Nat) (u : Addr) (its2 : Array Value) (ds : List D), (∀ b o, s.heap.get? b = some o → h.get? b = some o) → h.IsTuple u its2 → ReadsAll h its2.toList ds [] → its2.size ≤ 1000 →
      wpAny (model X.prog X.w) X.A.in1.in1 (call (.ref f) [.ref u]) (PySem.W.KeyPure (.tuple [.int (its2.size : Nat), .tuple ds]) { s with heap := h, toks := tk }) (fun _ _ => False) { s with heap := h, toks := tk })
    (q : ∀ p us, H p = none → ImL X.K H us ((sortZ ts).map txtsD) → Q (.ref p) (upd H p (.lst us))) :
    wpAny (model X.prog X.w) X.A (call (.builtin "sorted") [.ref l] [(Str.ofString "key", .ref f)]) (EP X pins σ Q) X.xe s := by
  obtain ⟨its, rv, hl, hz⟩ := I.list hs
  have each := each_of I im rv
  have lx : xs.length = ts.length := by rw [im.len, List.length_map]
  have lz : (xs.zip ts).length = xs.length := by rw [List.length_zip, lx, Nat.min_self]
  refine PySem.W.sorted_key_data (b := false) (fun b : V × List Str => keyZ b.2) hl.isList each (PySem.W.AllAlike.of fun b b' => ?_) (PySem.W.Sortable.tuples fun b => ⟨_, _, rfl⟩) (by rw [lz]; exact hz) (fun b hb => ?_) (ksk_s1 _ _) (fun _ => ksk_l1 _ _) (fun _ => ksk_t1 _ _) (fun v b hR hb h tk up => ?_) fun out c h' tk up fr nk lo eo => ?_
  · show (true && (PySem.W.alikeAll (b.2.map PyData.str) (b'.2.map PyData.str) && true)) = true
    rw [alike_strs]
    rfl
  · have d2 : (keyZ b.2).depth ≤ 2 := by
      show max 0 (max (PyData.depthAll (b.2.map PyData.str) + 1) 0) + 1 ≤ 2
      rw [deep_strs0]
      decide
    have := room.un
    omega
  · obtain ⟨_, _, u, its2, rfl, ht, hr, hsz⟩ := hR
    have mem : b.2 ∈ ts := (List.of_mem_zip hb).2
    obtain ⟨o2, h1, h2, n, h3⟩ := ht
    have kc := turn h tk u its2 (b.2.map PyData.str) up ⟨o2, up u o2 h1, h2, n, h3⟩ (PyProof.Rows.ReadsAll.keeps up hr) (by rw [hsz]; exact lt _ mem)
    rw [hsz] at kc
    exact kc
  · obtain ⟨v1, i1⟩ := each_end eo
    have e2 : (((xs.zip ts).mergeSort (PySem.W.dataLe false fun b : V × List Str => keyZ b.2)).map (·.2)) = sortZ ts := by
      have e := List.map_mergeSort (r := PySem.W.dataLe false fun b : V × List Str => keyZ b.2) (s := PySem.W.dataLe false keyZ) (f := fun b : V × List Str => b.2) (l := xs.zip ts) (fun a _ b _ => rfl)
      refine e.trans ?_
      have z : (xs.zip ts).map (fun b : V × List Str => b.2) = ts := List.map_snd_zip (by omega)
      rw [z]
      rfl
    rw [e2] at i1
    refine ⟨.ref _, upd H (s.heap.objs.size + 1) (.lst (((xs.zip ts).mergeSort (PySem.W.dataLe false fun b : V × List Str => keyZ b.2)).map (·.1))), I.laid (t' := tk) up (Nat.le_succ _) ⟨?_, out, c, v1, nk⟩, rfl, q _ _ (I.hok.fresh (Nat.le_succ _)) i1⟩
    rw [List.length_map, List.length_mergeSort, lz]
    exact hz
theorem cr_sortKey {x a : Str} {st : Stmt} {f : Addr} {fd : FuncData} (kf : KeyF X.K x st f fd a) (room : Room 1 X.A) (hm : X.mg "len" = none) : CallRK X (.builtin "sorted") [Str.ofString "key"] (rSortKey X.K f) := by
  intro pins s σ H vs zs us ws Q I r rz h
  obtain ⟨l, xs, ts, rfl, rfl, hs, im, lt, q⟩ := h
  obtain rfl := Vals.ref1 r
  obtain ⟨w1, rfl, e1⟩ := vals1 rz
  obtain rfl : w1 = Value.ref f := e1
  obtain ⟨⟨oc, od, kV, doc, pm, an, cdv, ct, osl, rfl, lk, hcd⟩, kp⟩ := kf.F
  obtain ⟨p1, p2, p3, p4, p5, p6, k, bd, kpos⟩ := kf.body
  refine sort_run room I hs im lt (fun h tk u its2 ds up ht hr hsz => ?_) q
  have kin : X.K.In h := I.kIn.keeps up
  exact key_call (P := X.prog) (w := X.w) (K := X.K) (mg := X.mg) (base := X.base) (f := f) (u := u) (A := X.A.in1.in1) (s := { s with heap := h, toks := tk }) (its := its2) (ds := ds) (p6 := p6) (k := k) kpos (by have := room.dp; show X.A.depth < _; omega) I.mod (fun c o e => up c o (I.bk c o e)) hm (kin f _ lk) rfl kf.co kf.gen
    (by show FuncBody.stmts (defBody st) = _; rw [bd]) (PySem.W.codeRec_of kin hcd) (kf.b _ [.ref u] kin rfl) kf.kind kf.cl kf.lo kf.ln rfl rfl ht hr hsz
def txtsOf : List D → Option (List Str)
  | [] => some []
  | .str z :: ds => (txtsOf ds).map (z :: ·)
  | _ => none
theorem txtsOf_eq : ∀ {ds : List D} {z : List Str}, txtsOf ds = some z → ds = z.map PyData.str
  | [], z, h => by
    cases h
    rfl
  | d :: ds, z, h => by
    cases d with
    | str x =>
      have h : (txtsOf ds).map (x :: ·) = some z := h
      cases e : txtsOf ds with
      | none =>
        rw [e] at h
        cases h
      | some y =>
        rw [e] at h
        cases h
        rw [txtsOf_eq e]
        rfl
    | _ => cases h
theorem txtsOf_of (z : List Str) : txtsOf (z.map PyData.str) = some z := by
  induction z with
  | nil => rfl
  | cons x z ih =>
    show (txtsOf (z.map PyData.str)).map (x :: ·) = _
    rw [ih]
    rfl
def setsOf : List D → Option (List (List Str))
  | [] => some []
  | .tuple ds :: r => (txtsOf ds).bind fun z => (setsOf r).map (z :: ·)
  | _ => none
theorem setsOf_eq : ∀ {ds : List D} {ts : List (List Str)}, setsOf ds = some ts → ds = ts.map txtsD
  | [], ts, h => by
    cases h
    rfl
  | d :: ds, ts, h => by
    cases d with
    | tuple es =>
      have h : ((txtsOf es).bind fun z => (setsOf ds).map (z :: ·)) = some ts := h
      obtain ⟨z, e1, h⟩ := Option.bind_eq_some_iff.mp h
      obtain ⟨y, e2, rfl⟩ := Option.map_eq_some_iff.mp h
      rw [setsOf_eq e2, txtsOf_eq e1]
      rfl
    | _ => cases h
theorem setsOf_of (ts : List (List Str)) : setsOf (ts.map txtsD) = some ts := by
  induction ts with
  | nil => rfl
  | cons z ts ih =>
    show ((txtsOf (z.map PyData.str)).bind fun z => (setsOf (ts.map txtsD)).map (z :: ·)) = _
    rw [ih, txtsOf_of]
    rfl
noncomputable def sortKD : List D → Option (List D)
  | [.list ds] => (setsOf ds).bind fun ts => if (ts.all fun t => decide (t.length ≤ 1000)) = true then some ((sortZ ts).map txtsD) else none
  | _ => none
theorem sortKD_eq {ts : List (List Str)} (h : ∀ t ∈ ts, t.length ≤ 1000) : sortKD [.list (ts.map txtsD)] = some ((sortZ ts).map txtsD) := by
  show ((setsOf (ts.map txtsD)).bind fun ts => if (ts.all fun t => decide (t.length ≤ 1000)) = true then some ((sortZ ts).map txtsD) else none) = _
  rw [setsOf_of]
  exact if_pos (List.all_eq_true.mpr fun t ht => decide_eq_true (h t ht))
theorem rsort_of {K : PySem.W.Frag} {f : Addr} {xs : List V} {H : Hp} {Q : VK} (h : rFN K sortKD xs H Q) : rSortKey K f xs [V.ref f] H Q := by
  obtain ⟨as, ds, hx, e, q⟩ := h
  unfold sortKD at e
  split at e
  · next d0 =>
    obtain ⟨x, rfl, hv⟩ := hx.one
    obtain ⟨p, ys, rfl, hp, ip⟩ := hv.list
    obtain ⟨ts, e1, e2⟩ := Option.bind_eq_some_iff.mp e
    split at e2
    · next c =>
      cases e2
      rw [setsOf_eq e1] at ip
      exact ⟨p, ys, ts, rfl, rfl, hp, ip, fun t ht => of_decide_eq_true (List.all_eq_true.mp c t ht), q⟩
    · cases e2
  · cases e
theorem xf_sortKey {n : Nat} {W : XW} {y a : Str} {st : Stmt} {f : Addr} {fd : FuncData} {e : Expr} {m : Mo (List R)} {p q2 kp pos : Pos} (kf : KeyF X.K y st f fd a) (room : Room 1 X.A) (hg : Gl X "sorted") (hm : X.mg "sorted" = none) (hlen : X.mg "len" = none) (hgy : Gl X y) (hmy : X.mg y = some (.ref f)) (ha : XA X n W [e] m)
    (he : backTo pos (starEach [e] X.env) = (false, eval e X.env) :: backTo pos (starEach [] X.env) := by rfl) (hpl : (backTo pos (starEach [e] X.env)).any (·.1) = false := by rfl)
    (hall : (backToKw pos (keywordEach [⟨some "key", .Name y q2, kp⟩] X.env)).all (·.1.isSome) = true := by rfl) (hnone : (backToKw pos (keywordEach [⟨some "key", .Name y q2, kp⟩] X.env)).any (·.1.isNone) = false := by rfl) (hks : (backToKw pos (keywordEach [⟨some "key", .Name y q2, kp⟩] X.env)).filterMap (·.1) = [Str.ofString "key"] := by rfl) (hd : (y == ("__debug__" : Str)) = false := by decide) :
    XF X n W (.Call (.Name "sorted" p) [e] [⟨some "key", .Name y q2, kp⟩] pos) (fN sortKD m) :=
  weakE (pe_callBK (cr_sortKey kf room hlen) hg hm (by decide +kernel) ha (L2.pk_cons (pe_glob (v := .ref f) hgy hmy rfl hd) L2.pk_nil) (by decide) (by decide) he hpl hall hnone hks) fun σ H Q h => by
    obtain ⟨ρ, G, h⟩ := fN_run σ H Q h
    exact ⟨ρ, G, h.mono fun rs ρ1 H1 s1 h1 vs rvs => rsort_of (h1 vs rvs)⟩
end
end Q
namespace Q
open PySem PySem.Spec PyProof.Rows L2 Gd
variable [Tbl]
/-! ### sorted(xs, key=lambda x: (len(x), x)) -/
theorem key_callL {P : Program} {w : World} {K : PySem.W.Frag} {mg : Str → Option Value} {base : Heap} {f u : Addr} {fd : FuncData} {o : Obj} {a : Str} {p1 p2 p3 p4 p5 : Pos} {k : Nat} {A : Around} {s : Shared} {its : Array Value} {ds : List D} (kp : KeyPos a p1 p2 p3 p4 p5)
    (room : A.depth < recursionLimit) (M : Mod K mg base) (bs : ∀ b o, base.get? b = some o → s.heap.get? b = some o) (hm : mg "len" = none)
    (ho : s.heap.get? f = some o) (hd : o.data = .func fd) (hco : fd.scope.isCoroutine = false) (hgen : fd.scope.isGenerator = false) (hbody : fd.body = .expr (keyE a p1 p2 p3 p4 p5 k)) (hcd : s.heap.CodeRec fd.code fd.qualname)
    (hb : bindArgs fd ⟨[.ref u], []⟩ = pure [(a, .ref u)]) (hkind : fd.scope.kind = .function) (hcl : ∀ y ∈ fd.scope.names, y.2 ≠ .cell) (hl : fd.scope.names.lookup a = some NameKind.local) (hlen : fd.scope.names.lookup ("len" : Str) = some NameKind.globalImplicit) (hglo : fd.globals = mainGlobals) (hbl : fd.builtins = builtinsNs)
    (hu : s.heap.IsTuple u its) (hr : ReadsAll s.heap its.toList ds []) (hsz : its.size ≤ 1000) :
    wpAny (model P w) A (call (.ref f) [.ref u]) (PySem.W.KeyPure (.tuple [.int (its.size : Nat), .tuple ds]) s) (fun _ _ => False) s := by
  refine wpAny_call (PySem.W.kla_callFunE room ho hd hco hgen hbody hcd ?_)
  rw [hb]
  refine wpAny_pure (wpAny_newFunctionEnv hcl (fun x hx => ?_) (fun h' ns sb => ?_) hkind)
  · rw [List.mem_singleton.mp hx]
    exact hl
  · have old : ∀ b o, s.heap.get? b = some o → h'.get? b = some o := fun b o e => by
      rw [sb.2 b fun z => absurd (Heap.lt_size e) (by rw [z]; exact Nat.lt_irrefl _)]
      exact Heap.get?_push_of_some _ e
    refine ⟨M.nolimit.keeps fun b o e => old b o (bs b o e), PySem.W.kla_codeExpr ?_⟩
    obtain ⟨mb, hbn, hbb⟩ := M.blt
    refine key_eval (mg := mg) (mb := mb) (u := u) (its := its) (ds := ds) (m := fun x => ([(a, Value.ref u)] : List (Str × Value)).reverse.lookup x) kp hkind hl hlen ?_ ?_ hm (hbb _ (by decide)) ns ?_ ?_ ?_ hsz ?_
    · show h'.Ns fd.globals mg
      rw [hglo]
      exact M.glob.keeps fun b o e => old b o (bs b o e)
    · show h'.Ns fd.builtins mb
      rw [hbl]
      exact hbn.keeps fun b o e => old b o (bs b o e)
    · simp
    · obtain ⟨o2, h1, h2, n, h3⟩ := hu
      exact ⟨o2, old u o2 h1, h2, n, h3⟩
    · exact PyProof.Rows.ReadsAll.keeps old hr
    · intro h2 tk v o2 rd
      exact ⟨h2, tk, rfl, fun b o e => o2 b o (old b o e), rd⟩
theorem sq_ext {K : PySem.W.Frag} {H H' : Hp} (e : LamX.ExtN H H') {a : Addr} {xs : List V} (h : SqL K H a xs) : SqL K H' a xs := by
  rcases h with (h | ⟨o, h⟩) | h
  · exact .inl (.inl (e _ _ h fun ps z => nomatch z))
  · exact .inl (.inr ⟨o, e _ _ h fun ps z => nomatch z⟩)
  · exact .inr h
section
variable {X : Cx} {n : Nat} {W : XW} {c PT : Addr} {a : Str} {e : Expr} {m : Mo (List R)} {p lp kp pos p1 p2 p3 p4 p5 : Pos} {k : Nat} {prm : Arguments} {scp : Scope}
theorem xf_sortLam (room : Room 1 X.A) (hg : Gl X "sorted") (hm : X.mg "sorted" = none) (hlen : X.mg "len" = none) (ha : XA X n W [e] m) (kpos : KeyPos a p1 p2 p3 p4 p5)
    (tb : LamX.TabB X.base X.mg c PT) (hcc : X.env.code = .ref c) (mT : (PT, X.env.qual ++ "<lambda>") ∈ Tbl.T) (uT : ∀ p ∈ Tbl.T, p.1 = PT → p.2 = X.env.qual ++ "<lambda>") (dT : defaultsOf prm X.env = ([], []))
    (eb : ∀ (u : Addr) (q : Str) (cl : List (Str × Addr)) (pm cv ctv : Value), bindArgs (PySem.W.kla_fn "<lambda>" q prm (keyE a p1 p2 p3 p4 p5 k) scp cl pm cv ctv) ⟨[.ref u], []⟩ = pure [(a, .ref u)])
    (kind : scp.kind = .function) (co : scp.isCoroutine = false) (gen : scp.isGenerator = false) (cl : ∀ y ∈ scp.names, y.2 ≠ .cell) (fr : ∀ y ∈ scp.names, y.2 ≠ .free) (lo : scp.names.lookup a = some NameKind.local) (ln : scp.names.lookup ("len" : Str) = some NameKind.globalImplicit)
    (he : backTo pos (starEach [e] X.env) = (false, eval e X.env) :: backTo pos (starEach [] X.env) := by rfl) (hpl : (backTo pos (starEach [e] X.env)).any (·.1) = false := by rfl)
    (hall : (backToKw pos (keywordEach [⟨some "key", .Lambda prm (keyE a p1 p2 p3 p4 p5 k) scp lp, kp⟩] X.env)).all (·.1.isSome) = true := by rfl) (hnone : (backToKw pos (keywordEach [⟨some "key", .Lambda prm (keyE a p1 p2 p3 p4 p5 k) scp lp, kp⟩] X.env)).any (·.1.isNone) = false := by rfl) (hks : (backToKw pos (keywordEach [⟨some "key", .Lambda prm (keyE a p1 p2 p3 p4 p5 k) scp lp, kp⟩] X.env)).filterMap (·.1) = [Str.ofString "key"] := by rfl) :
    XF X n W (.Call (.Name "sorted" p) [e] [⟨some "key", .Lambda prm (keyE a p1 p2 p3 p4 p5 k) scp lp, kp⟩] pos) (fN sortKD m) := by
  refine ⟨fun pins s σ H Q I ⟨ρ, G, h⟩ => ?_⟩
  refine wpAny_Call_Name_kw (ld_blt (u := .builtin "sorted") I hg hm (by decide +kernel) ?_ (by decide) (by decide))
  refine PyProof.Rows.callWith_kw (thn (ha.run pos pins s σ H (fun vs H1 => ∃ rs ρ1, Stp X.K n H σ ρ H1 σ ρ1 ∧ RRs X.K H1 σ vs rs ∧ Aft X.K n W H1 σ ρ1 (asL ((looks ρ1 rs).bind sortKD) ρ1) fun o _ H' => ∀ p h, H p = none → H' p = some h → ObR X.K H' h o → ¬ Own σ ρ1 p → Q (.ref p) H') I ⟨ρ, G, (Aft.bind h).mono fun rs ρ1 H1 s1 h1 vs rvs => ⟨rs, ρ1, s1, rvs, ?_⟩⟩) fun us s1 ⟨vs, H1, I1, r1, rs, ρ1, st1, rvs, h1⟩ => ?_) he hpl hall hnone
  · generalize hz : (looks ρ1 rs).bind sortKD = z at h1 ⊢
    cases z with
    | none => exact h1
    | some ds => exact h1
  rw [hks]
  show wpAny _ _ (evalAll ((do let v ← eval (.Lambda prm (keyE a p1 p2 p3 p4 p5 k) scp lp) X.env; standAt pos; pure v) :: [])) _ _ s1
  refine wpAny_evalAll_cons (wpAny_bind (lam_new I1 tb hcc mT uT st1.good.tab.1 dT (fun y hy z => absurd z (fr y hy)) fun f c' pm ctv G2 s2 I2 eN T2 lv gf nf nfr hco => wpAny_bind (wpAny_standAt (wpAny_pure (wpAny_evalAll_nil ?_)))))
  have gN : Grow H1 G2 := Grow.ext eN
  have stL : Stp X.K n H1 σ ρ1 G2 σ ρ1 := by
    refine ⟨st1.good.grow gN (fun q u ho eu => ?_) fun t => ⟨T2, Tbl.up _ _ gN t.2⟩, fun i _ => ⟨rfl, fun o e => ⟨o, e⟩⟩, fun b o e _ nt => eN b o e nt, fun p hp => .inl hp, lv⟩
    obtain ⟨u', o, e1, r⟩ := st1.good.at ho
    rw [eu] at e1
    cases e1
    exact eN _ _ eu fun ps z => r.no_tbl z
  have h3 : Aft X.K n W G2 σ ρ1 (asL ((looks ρ1 rs).bind sortKD) ρ1) fun o _ H' => ∀ p h, H p = none → H' p = some h → ObR X.K H' h o → ¬ Own σ ρ1 p → Q (.ref p) H' := by
    generalize (looks ρ1 rs).bind sortKD = z at h1 ⊢
    cases z with
    | none => exact h1
    | some ds => exact fun H' st => h1 H' (stL.trans st)
  obtain ⟨ds, e1, q⟩ := new_out stL.good (fun b z => st1.live b (lv b z)) h3
  cases ea : looks ρ1 rs with
  | none =>
    rw [ea] at e1
    cases e1
  | some as =>
    rw [ea] at e1
    have hx := rvs.see st1.good ea
    have e1 : sortKD as = some ds := e1
    unfold sortKD at e1
    split at e1
    · next d0 =>
      obtain ⟨x, rfl, hv⟩ := hx.one
      obtain ⟨l, ys, rfl, hp, ip⟩ := hv.list
      obtain ⟨ts, e2, e3⟩ := Option.bind_eq_some_iff.mp e1
      split at e3
      · next cc =>
        cases e3
        rw [setsOf_eq e2] at ip
        obtain rfl := Vals.ref1 r1
        obtain ⟨⟨oc, vs2, t, hoc, hdc, hvc⟩, _, _⟩ := I2.hok c' _ hco
        exact sort_run (f := f) room I2 (sq_ext eN hp) (ImL.grow gN _ ip) (fun t ht => of_decide_eq_true (List.all_eq_true.mp cc t ht)) (fun h tk u its2 ds up ht hr hsz =>
          key_callL (P := X.prog) (w := X.w) (K := X.K) (mg := X.mg) (base := X.base) (A := X.A.in1.in1) (s := { s2 with heap := h, toks := tk }) kpos (by have := room.dp; show X.A.depth < _; omega) I2.mod (fun c o e => up c o (I2.bk c o e)) hlen (up f _ gf) rfl co gen rfl ⟨c', oc, vs2, t, rfl, up c' oc hoc, hdc, hvc⟩ (eb u _ _ _ _ _) kind cl lo ln rfl rfl ht hr hsz) q
      · cases e3
    · cases e1
end
end Q
namespace Q
open PySem PySem.Spec PyProof.Rows L2 Gd
variable [Tbl]
/-! ### dicts whose keys are tuples -/
/-- the hashes are the world's -/
def HsOk (P : Program) (w : World) : Prop := ∀ ks : List Key, (tupleKind (mixKind P w)).hash ks = Tbl.hs ks
def keysD : List D → Option (List Key)
  | [] => some []
  | d :: ds => match keyOf d, keysD ds with
    | some k, some r => some (k :: r)
    | _, _ => none
def keysT : D → Option (List Key)
  | .tuple ds => keysD ds
  | _ => none
theorem keyD_of {d : D} {k : Key} (e : keyOf d = some k) : d = keyD k := by
  cases d <;> cases e <;> rfl
theorem keysD_D : ∀ ks : List Key, keysD (ks.map keyD) = some ks
  | [] => rfl
  | k :: ks => by
    rw [List.map_cons]
    unfold keysD
    rw [keyOf_D, keysD_D ks]
theorem keysD_eq : ∀ {ds : List D} {ks : List Key}, keysD ds = some ks → ds = ks.map keyD
  | [], ks, e => by
    cases e
    rfl
  | d :: ds, ks, e => by
    unfold keysD at e
    split at e
    · next k r e1 e2 =>
      cases e
      rw [List.map_cons, ← keyD_of e1, ← keysD_eq e2]
    · cases e
theorem keysT_D (ks : List Key) : keysT (.tuple (ks.map keyD)) = some ks := keysD_D ks
theorem im_keys {K : PySem.W.Frag} {H : Hp} : ∀ {xs : List V} {ks : List Key}, ImL K H xs (ks.map keyD) → xs = ks.map kV
  | _, [], .nil => rfl
  | _, k :: ks, .cons h r => by
    rw [List.map_cons, key_vw h (keyOf_D k), im_keys r]
theorem vw_keys {K : PySem.W.Frag} {H : Hp} {v : V} {d : D} {ks : List Key} (h : Vw K H v d) (e : keysT d = some ks) : ∃ b, v = .ref b ∧ NdT H b (ks.map kV) ∧ d = .tuple (ks.map keyD) := by
  cases d with
  | tuple ds =>
    have e : keysD ds = some ks := e
    obtain ⟨a, xs, rfl, nd, im⟩ := h.tupleN
    rw [keysD_eq e] at im
    rw [im_keys im] at nd
    exact ⟨a, rfl, nd, by rw [keysD_eq e]⟩
  | _ => cases e
def findT (ds : List (D × D)) (ks : List Key) : Option D := (ds.find? fun q => decide (keysT q.1 = some ks)).map (·.2)
def putT (ds : List (D × D)) (ks : List Key) (x : D) : List (D × D) :=
  if (findT ds ks).isSome = true then ds.map (fun q => if keysT q.1 = some ks then (q.1, x) else q) else ds ++ [(.tuple (ks.map keyD), x)]
section
variable {K : PySem.W.Frag} {H : Hp}
theorem ImT.len : ∀ {xs : List (List Key × Addr × Value)} {ds : List (D × D)}, ImT K H xs ds → xs.length = ds.length
  | _, _, .nil => rfl
  | _, _, .cons _ _ _ t => by rw [List.length_cons, List.length_cons, ImT.len t]
theorem imT_find {ks : List Key} : ∀ {xs : List (List Key × Addr × Value)} {ds : List (D × D)}, ImT K H xs ds →
    (∀ d, findT ds ks = some d → ∃ b u v, atKey xs ks = some (b, u) ∧ RelV v u ∧ Im K H v d) ∧ (findT ds ks).isSome = (atKey xs ks).isSome
  | _, _, .nil => ⟨fun d e => (by cases e), rfl⟩
  | _, _, @ImT.cons _ _ k b u v d xs ds h r i t => by
    have ih := imT_find (ks := ks) t
    have e1 : findT ((.tuple (k.map keyD), d) :: ds) ks = if k = ks then some d else findT ds ks := by
      unfold findT
      rw [List.find?_cons, keysT_D]
      by_cases e : k = ks
      · subst e
        simp
      · simp [e]
    have e2 : atKey ((k, b, u) :: xs) ks = if k = ks then some (b, u) else atKey xs ks := by
      unfold atKey
      rw [List.find?_cons]
      by_cases e : k = ks
      · simp [e]
      · simp [e]
    rw [e1, e2]
    by_cases e : k = ks
    · rw [if_pos e, if_pos e]
      exact ⟨fun d' q => by
        cases q
        exact ⟨b, u, v, rfl, r, i⟩, rfl⟩
    · rw [if_neg e, if_neg e]
      exact ih
theorem imT_repl {ks : List Key} {u : Value} {v : V} {d : D} (rv : RelV v u) (im : Im K H v d) : ∀ {xs : List (List Key × Addr × Value)} {ds : List (D × D)}, ImT K H xs ds → ImT K H (xs.map (putAt ks u)) (ds.map fun q => if keysT q.1 = some ks then (q.1, d) else q)
  | _, _, .nil => .nil
  | _, _, @ImT.cons _ _ k b u' v' d' xs ds h r i t => by
    rw [List.map_cons, List.map_cons]
    dsimp only
    rw [keysT_D]
    unfold putAt
    by_cases e : k = ks
    · rw [if_pos e, if_pos (by rw [e])]
      exact .cons h rv im (imT_repl rv im t)
    · rw [if_neg e, if_neg (fun z => e (Option.some.inj z))]
      exact .cons h r i (imT_repl rv im t)
theorem ImT.snoc {ks : List Key} {b : Addr} {u : Value} {v : V} {d : D} (nd : NdT H b (ks.map kV)) (rv : RelV v u) (im : Im K H v d) : ∀ {xs : List (List Key × Addr × Value)} {ds : List (D × D)}, ImT K H xs ds → ImT K H (xs ++ [(ks, b, u)]) (ds ++ [(.tuple (ks.map keyD), d)])
  | _, _, .nil => .cons nd rv im .nil
  | _, _, .cons h r i t => .cons h r i (ImT.snoc nd rv im t)
theorem imT_put {ks : List Key} {b : Addr} {u : Value} {v : V} {d : D} (nd : NdT H b (ks.map kV)) (rv : RelV v u) (im : Im K H v d) {xs : List (List Key × Addr × Value)} {ds : List (D × D)} (t : ImT K H xs ds) : ImT K H (storedH xs ks b u) (putT ds ks d) := by
  unfold storedH putT
  rw [(imT_find (ks := ks) t).2]
  split
  · exact imT_repl rv im t
  · exact t.snoc nd rv im
end
section
variable {P : Program} {w : World} {K : PySem.W.Frag} {H : Hp} {h : Heap} {p a : Addr} {xs : List (List Key × Addr × Value)} {ds : List (D × D)}
theorem nd_key {b : Addr} {ks : List Key} (ok : HOk P w H h) (nd : NdT H b (ks.map kV)) : (tupleKind (mixKind P w)).is h ks b := by
  obtain ⟨o', e, _⟩ := nd
  obtain ⟨_, q⟩ := (show ObjOk P w H h b (.frz o' (.tup (ks.map kV))) from ok b _ e)
  obtain ⟨_, its, r, o, h1, h2, n, h3⟩ := q
  exact ⟨o, its.toArray, n, h1, h2, h3, by simpa using items_are r⟩
theorem td_at {hs : List Key → Int} (ok : HOk P w H h) (e : H p = some (.ext (TDp hs a xs))) : p = a ∧ TDp hs a xs h := by
  obtain ⟨φ, _, st⟩ := (show ObjOk P w H h p (.ext (TDp hs a xs)) from ok p _ e)
  refine ⟨Classical.byContradiction fun ne => ?_, φ⟩
  have φ2 := st h (PySem.W.hideAll h [a]) φ fun o q => by
    exact PySem.W.hideAll_get [a] q (by simpa using ne)
  obtain ⟨_, _, o, es, ep, g, _⟩ := φ2
  rw [PySem.W.hideAll_none [a] (by simp)] at g
  cases g
theorem imT_keys (ok : HOk P w H h) : ∀ {xs : List (List Key × Addr × Value)} {ds : List (D × D)}, ImT K H xs ds → ∀ x ∈ xs, (tupleKind (mixKind P w)).is h x.1 x.2.1
  | _, _, .nil => fun x hx => by cases hx
  | _, _, .cons nd _ _ t => fun x hx => by
    rcases List.mem_cons.mp hx with rfl | hx
    · exact nd_key ok nd
    · exact imT_keys ok t x hx
theorem ent_eq (hw : HsOk P w) (xs : List (List Key × Addr × Value)) : xs.map (fun x => (⟨Tbl.hs x.1, .ref x.2.1, x.2.2⟩ : DictEntry)) = xs.map (entryOfKey (tupleKind (mixKind P w))) :=
  List.map_congr_left fun x _ => by
    unfold entryOfKey
    rw [hw]
theorem td_dict (hw : HsOk P w) (ok : HOk P w H h) (e : H p = some (.ext (TDp Tbl.hs a xs))) (im : ImT K H xs ds) : p = a ∧ xs.length ≤ sizeLine ∧ (a == sysModules) = false ∧ h.DictOfH (tupleKind (mixKind P w)) a xs := by
  obtain ⟨pa, z, hd, o, es, ep, h1, h2, h3, h4, h5⟩ := td_at ok e
  exact ⟨pa, z, hd, o, es, ep, h1, h2, h3, by rw [h4, ent_eq hw], imT_keys ok im, h5⟩
theorem td_new (hw : HsOk P w) {H' : Hp} {h' : Heap} (dd : h'.DictOfH (tupleKind (mixKind P w)) a xs) (z : xs.length ≤ sizeLine) (hd : (a == sysModules) = false) : ObjOk P w H' h' a (.ext (TDp Tbl.hs a xs)) := by
  obtain ⟨o, es, ep, h1, h2, h3, h4, _, h5⟩ := dd
  refine ⟨⟨z, hd, o, es, ep, h1, h2, h3, by rw [h4, ent_eq hw], h5⟩, ⟨o, h1⟩, fun g1 g2 q k => ?_⟩
  obtain ⟨z, hd, o, es, ep, h1, r⟩ := q
  exact ⟨z, hd, o, es, ep, k _ h1, r⟩
end
section
variable {X : Cx} {n : Nat} {W : XW}
/-! ### x in d, x not in d -/
def rInT (K : PySem.W.Frag) (neg : Bool) : R2 := fun x y H Q => ∃ p a xs ds b ks, y = .ref p ∧ H p = some (.ext (TDp Tbl.hs a xs)) ∧ ImT K H xs ds ∧ x = .ref b ∧ NdT H b (ks.map kV) ∧ Q (.bl (neg.xor (findT ds ks).isSome)) H
theorem o_inT (hw : HsOk X.prog X.w) (hu : X.A.units + 65 < cLine) : OpR X (compareOp .In) (rInT X.K false) := by
  rintro pins s σ H x y v u Q I rx ry ⟨p, a, xs, ds, b, ks, rfl, e, im, rfl, nd, q⟩
  obtain ⟨rfl, z, hd, dd⟩ := td_dict hw I.hok e im
  cases rx
  cases ry
  refine wpAny_in_heap (tupleKind_room_in1 (by omega)) (nd_key I.hok nd) hd dd ?_
  rw [← (imT_find (ks := ks) im).2]
  exact ⟨.bl _, H, I.tok _, rfl, by simpa using q⟩
theorem o_ninT (hw : HsOk X.prog X.w) (hu : X.A.units + 65 < cLine) : OpR X (compareOp .NotIn) (rInT X.K true) := by
  rintro pins s σ H x y v u Q I rx ry ⟨p, a, xs, ds, b, ks, rfl, e, im, rfl, nd, q⟩
  obtain ⟨rfl, z, hd, dd⟩ := td_dict hw I.hok e im
  cases rx
  cases ry
  refine wpAny_notIn_heap (tupleKind_room_in1 (by omega)) (nd_key I.hok nd) hd dd ?_
  rw [← (imT_find (ks := ks) im).2]
  exact ⟨.bl _, H, I.tok _, rfl, by simpa using q⟩
@[simp] def eInT (neg : Bool) (f : Mo R) (i : Nat) : Mo R := fun ρ => (f ρ).bind fun r ρ1 => match (look ρ1 r).bind keysT, ρ1[i]? with
  | some ks, some (.own (.dt ds)) => .ok (.d (.bool (neg.xor (findT ds ks).isSome))) ρ1
  | _, _ => .no
theorem own_dt {K : PySem.W.Frag} {H : Hp} {σ : St} {ρ : Ev} (G : Good K H σ ρ) {i : Nat} {ds : List (D × D)} (e : ρ[i]? = some (.own (.dt ds))) : ∃ p a xs, σ[i]? = some (some (.ref p)) ∧ H p = some (.ext (TDp Tbl.hs a xs)) ∧ ImT K H xs ds := by
  obtain ⟨p, h, e1, e2, r⟩ := G.own i _ e
  cases r with
  | dt r => exact ⟨p, _, _, e1, e2, r⟩
theorem inT_run {neg : Bool} {f : Mo R} {i : Nat} (σ : St) (H : Hp) (Q : VK) (h : tX X.K n W (eInT neg f i) σ H Q) : tX X.K n W f σ H fun x H1 => tVar i σ H1 fun y H2 => rInT X.K neg x y H2 Q := by
  obtain ⟨ρ, G, h⟩ := h
  refine ⟨ρ, G, (Aft.bind h).mono fun r ρ1 H1 s1 h1 v rv => ?_⟩
  split at h1
  · next ks ds ek eo =>
    obtain ⟨d, ed, ek⟩ := Option.bind_eq_some_iff.mp ek
    obtain ⟨p, a, xs, f1, f2, im⟩ := own_dt s1.good eo
    obtain ⟨b, rfl, nd, _⟩ := vw_keys (rv.see s1.good ed) ek
    exact ⟨_, f1, p, a, xs, ds, b, ks, rfl, f2, im, rfl, nd, Aft.ok s1.good h1 _ (.d (.bl _))⟩
  · exact h1.elim
theorem xd_inT {a b : Expr} {pos : Pos} {f : Mo R} {i : Nat} (hw : HsOk X.prog X.w) (hu : X.A.units + 65 < cLine) (ha : XD X n W a f) (hb : PE X b (tVar i)) (hm : behindInMarks .In b = false) : XD X n W (.Compare a [.In] [b] pos) (eInT false f i) := weakE (pe_cmpR (o_inT hw hu) ha hb hm) inT_run
theorem xd_ninT {a b : Expr} {pos : Pos} {f : Mo R} {i : Nat} (hw : HsOk X.prog X.w) (hu : X.A.units + 65 < cLine) (ha : XD X n W a f) (hb : PE X b (tVar i)) (hm : behindInMarks .NotIn b = false) : XD X n W (.Compare a [.NotIn] [b] pos) (eInT true f i) := weakE (pe_cmpR (o_ninT hw hu) ha hb hm) inT_run
theorem xb_inT {a b : Expr} {pos : Pos} {f : Mo R} {i : Nat} (hw : HsOk X.prog X.w) (hu : X.A.units + 65 < cLine) (ha : XD X n W a f) (hb : PE X b (tVar i)) (hm : behindInMarks .In b = false) : XB X n W (.Compare a [.In] [b] pos) (asB (eInT false f i)) := weakT (pt_cmpR (o_inT hw hu) ha hb hm) fun σ H Q h => inT_run σ H _ (asB_run h)
theorem xb_ninT {a b : Expr} {pos : Pos} {f : Mo R} {i : Nat} (hw : HsOk X.prog X.w) (hu : X.A.units + 65 < cLine) (ha : XD X n W a f) (hb : PE X b (tVar i)) (hm : behindInMarks .NotIn b = false) : XB X n W (.Compare a [.NotIn] [b] pos) (asB (eInT true f i)) := weakT (pt_cmpR (o_ninT hw hu) ha hb hm) fun σ H Q h => inT_run σ H _ (asB_run h)
end
end Q
namespace Q
open PySem PySem.Spec PyProof.Rows L2 Gd
variable [Tbl]
/-! ### d[k] = v, {k: v}: keys that are tuples -/
theorem putT_len (ds : List (D × D)) (ks : List Key) (x : D) : (putT ds ks x).length ≤ ds.length + 1 := by
  unfold putT
  split
  · rw [List.length_map]
    omega
  · rw [List.length_append]
    simp
@[simp] def setTd (i : Nat) (x : D) (j : R) (ρ : Ev) : Rt Out := match (look ρ j).bind keysT, ρ[i]? with
  | some ks, some (.own (.dt ds)) => if ds.length < sizeLine then .ok .nx (ρ.set i (.own (.dt (putT ds ks x)))) else .no
  | _, _ => .no
@[simp] def bSetT (i : Nat) (f : Mo R) (g : Mo R) : Mo Out := fun ρ => (f ρ).bind fun r ρ1 => match r, ρ1[i]? with
  | .d x, some (.own (.dt _)) => (g ρ1).bind fun j ρ2 => setTd i x j ρ2
  | _, _ => .no
def sTPut (K : PySem.W.Frag) (td ty tv : TE) : TS := fun E σ H => tv σ H fun v H1 => td σ H1 fun x H2 => ty σ H2 fun y H3 => ∃ p a xs ds b ks, x = .ref p ∧ H3 p = some (.ext (TDp Tbl.hs a xs)) ∧ ImT K H3 xs ds ∧ y = .ref b ∧ NdT H3 b (ks.map kV) ∧ xs.length < sizeLine ∧
  ∀ u, RelV v u → E.nx σ (upd H3 p (.ext (TDp Tbl.hs a (storedH xs ks b u))))
section
variable {X : Cx} {o i value : Expr} {pos pos' : Pos} {td ty tv : TE}
theorem ps_tput (hw : HsOk X.prog X.w) (hu : X.A.units + 1 < cLine) (ho : PE X o td) (hi : PE X i ty) (hv : PE X value tv) (hs : swapsWith value (some (.Subscript o i pos')) pos.line X.env = pure false) :
    PS X (.Assign [.Subscript o i pos'] value pos) (sTPut X.K td ty tv) := by
  refine ⟨fun pins s σ H D I h => ?_⟩
  refine wpAny_Assign_Subscript (thn (hv.run pins s σ H _ I h) fun r s1 ⟨v, H1, I1, rv, q1⟩ => thn (ho.run pins s1 σ H1 _ I1 q1) fun u s2 ⟨x, H2, I2, rx, q2⟩ => thn (hi.run pins s2 σ H2 _ I2 q2) fun iv s3 ⟨y, H3, I3, ry, p, a, xs, ds, b, ks, ex, e, im, ey, nd, lt, q3⟩ => ?_) hs
  subst ex ey
  obtain rfl : u = Value.ref p := rx
  obtain rfl : iv = Value.ref b := ry
  obtain ⟨rfl, z, hd, dd⟩ := td_dict hw I3.hok e im
  have hz : xs.length ≤ sizeLine := z
  have hl : (storedH xs ks b r).length ≤ sizeLine := by
    have := storedH_length xs ks b r
    omega
  refine wpAny_setItem_heap (hsz := hz) (tupleKind_room_in1 hu) (nd_key I3.hok nd) dd fun h' dd' sb => ⟨σ, _, ?_, q3 r rv⟩
  obtain ⟨ob, es, ep, hq, h2⟩ := id dd'
  exact d_write I3 (by rw [e]; exact True.intro) sb ⟨ob, hq⟩ (td_new hw dd' hl hd)
end
section
variable {X : Cx} {n : Nat} {W : XW}
theorem Aft.on {α : Type} {K : PySem.W.Frag} {H H1 : Hp} {σ : L2.St} {ρ ρ1 : Ev} {r : Rt α} {Q : α → Ev → Hp → Prop} (s : Stp K n H σ ρ H1 σ ρ1) (h : Aft K n W H σ ρ r Q) : Aft K n W H1 σ ρ1 r Q := by
  cases r with
  | no => exact h
  | ok a ρ2 => exact fun H2 s2 => h H2 (s.trans s2)
  | ex c d ρ2 => exact fun H2 s2 => h H2 (s.trans s2)
theorem xs_sett {i : Nat} {x : Str} {e j : Expr} {p p2 pos : Pos} {f g : Mo R} (hw : HsOk X.prog X.w) (hu : X.A.units + 65 < cLine) (hx : PE X (.Name x p) (tVar i)) (he : XD X n W e f) (hj : XD X n W j g)
    (hs : swapsWith e (some (.Subscript (.Name x p) j p2)) pos.line X.env = pure false := by rfl) :
    XS X n W (.Assign [.Subscript (.Name x p) j p2] e pos) (bSetT i f g) := weakS (ps_tput hw (by omega) hx hj he hs) fun E σ H ⟨ρ, G, h⟩ => by
  refine ⟨ρ, G, (AftS.bind h).mono fun r ρ1 H1 s1 h1 v rv => ?_⟩
  cases rv with
  | v _ => exact h1.elim
  | @d x im =>
    split at h1
    · next x' ds0 er e0 =>
      cases er
      obtain ⟨p0, a0, xs0, f1, f2, _⟩ := own_dt s1.good e0
      refine ⟨_, f1, ρ1, s1.good, (AftS.bind h1).mono fun jr ρ2 H2 s2 h2 w rw' => ?_⟩
      unfold setTd at h2
      split at h2
      · next ks ds ek eo =>
        split at h2
        · next lt =>
          obtain ⟨d, ed, ek⟩ := Option.bind_eq_some_iff.mp ek
          obtain ⟨q0, a, xs, g1, g2, il⟩ := own_dt s2.good eo
          rw [f1] at g1
          cases g1
          have ix := im.grow (s2.grow s1.good)
          obtain ⟨b, rfl, nd, _⟩ := vw_keys (rw'.see s2.good ed) ek
          refine ⟨p0, a, xs, ds, b, ks, rfl, g2, il, rfl, nd, by rw [il.len]; exact lt, fun u ru => ?_⟩
          exact h2 σ _ (Stp.write (n := n) s2.good eo f1 g2 (.dt il) (.dt (imT_put nd ru ix il)))
        · exact h2.elim
      · exact h2.elim
    · exact h1.elim
def tNewT (tk tv : TE) : TE := fun σ H Q => ∀ p, H p = none → tPairs [(tk, tv)] σ (upd H p (.ext (TDp Tbl.hs p []))) fun ps H2 => ∃ x y b ks, ps = [(x, y)] ∧ H2 p = some (.ext (TDp Tbl.hs p [])) ∧
  x = .ref b ∧ NdT H2 b (ks.map kV) ∧ ∀ u, RelV y u → Q (.ref p) (upd H2 p (.ext (TDp Tbl.hs p [(ks, b, u)])))
theorem pe_newT {k v : Expr} {pos : Pos} {tk tv : TE} (hw : HsOk X.prog X.w) (hu : X.A.units + 1 < cLine) (hk : PE X k tk) (hv : PE X v tv) : PE X (.Dict [some k] [v] pos) (tNewT tk tv) := by
  refine ⟨fun pins s σ H Q I q => ?_⟩
  have hn := I.hok.fresh (Nat.le_refl s.heap.objs.size)
  have hd : (s.heap.objs.size == sysModules) = false := beq_eq_false_iff_ne.mpr (Ne.symm (Nat.ne_of_lt I.big))
  have I1 := I.laid (a := s.heap.objs.size) (o := .ext (TDp Tbl.hs s.heap.objs.size [])) (h' := s.heap.push { cls := .type "dict", data := .dict #[] }) (t' := s.toks) (fun _ _ q => Heap.get?_push_of_some _ q) (Nat.le_refl _)
    (td_new hw (Heap.DictOfH.new s.heap) (Nat.zero_le _) hd)
  refine wpAny_Dict_any rfl rfl (by simp) (by simp) (thn ((pps_cons hk hv pps_nil).run pins _ σ _ _ I1 (q _ hn)) fun ws s2 ⟨ps, H2, I2, rel, q2⟩ => ?_)
  obtain ⟨x, y, b, ks, rfl, e, rfl, nd, q3⟩ := q2
  cases rel with
  | @cons _ pr _ r0 h1 t =>
    cases t
    obtain ⟨ka, va⟩ := pr
    obtain ⟨h1, h2⟩ := h1
    obtain rfl : ka = Value.ref b := h1
    obtain ⟨_, z, _, dd⟩ := td_dict (K := X.K) hw I2.hok e ImT.nil
    refine wpAny_storeAllH (knd := tupleKind (mixKind X.prog X.w)) (show X.A.units < cLine by omega) [(.ref b, va)] [(ks, b, va)] [] s2 _ ⟨rfl, rfl, nd_key I2.hok nd, trivial⟩ dd (by rw [sizeLine_eq]; simp) fun h' tk' dd' sb => ?_
    obtain ⟨ob, es, ep, hq, _⟩ := id dd'
    have l1 : (storedAllH [] [(ks, b, va)]).length ≤ sizeLine := by
      rw [sizeLine_eq]
      show [(ks, b, va)].length ≤ _
      simp
    exact ⟨.ref s.heap.objs.size, _, d_write I2 (by rw [e]; exact True.intro) sb ⟨ob, hq⟩ (td_new hw dd' l1 hd), rfl, q3 va h2⟩
@[simp] def fNewT (fk fv : Mo R) : Mo Ob := fun ρ => (fk ρ).bind fun r ρ1 => (fv ρ1).bind fun v ρ2 => match (look ρ1 r).bind keysT, v with
  | some ks, .d x => .ok (.dt [(.tuple (ks.map keyD), x)]) ρ2
  | _, _ => .no
theorem xf_newT {k v : Expr} {pos : Pos} {fk fv : Mo R} (hw : HsOk X.prog X.w) (hu : X.A.units + 65 < cLine) (hk : XD X n W k fk) (hv : XD X n W v fv) : XF X n W (.Dict [some k] [v] pos) (fNewT fk fv) := weakE (pe_newT hw (by omega) hk hv) fun σ H Q ⟨ρ, G, h⟩ => fun p hp => by
  have s0 : Stp X.K n H σ ρ (upd H p (.ext (TDp Tbl.hs p []))) σ ρ := Stp.same G (same_upd hp)
  have no0 : ¬ Own σ ρ p := new_own G hp
  refine ⟨ρ, s0.good, ?_⟩
  unfold fNewT at h
  cases ek : fk ρ with
  | no =>
    rw [ek] at h
    exact h.elim
  | ex c d ρ1 =>
    rw [ek] at h
    exact fun H' st => h H' (s0.trans st)
  | ok r ρ1 =>
    rw [ek] at h
    refine fun H1 s1 x rx => ⟨ρ1, s1.good, ?_⟩
    have h : Aft X.K n W H σ ρ ((fv ρ1).bind _) _ := h
    cases ev : fv ρ1 with
    | no =>
      rw [ev] at h
      exact h.elim
    | ex c d ρ2 =>
      rw [ev] at h
      exact fun H' st => h H' ((s0.trans s1).trans st)
    | ok v ρ2 =>
      rw [ev] at h
      refine fun H2 s2 y ry => ?_
      dsimp only [Rt.bind] at h
      split at h
      · next ks d ek =>
        obtain ⟨dk, ed, ek⟩ := Option.bind_eq_some_iff.mp ek
        have st := s1.trans s2
        have e2 : H2 p = some (.ext (TDp Tbl.hs p [])) := st.kept p _ upd_same no0 (fun ps z => nomatch z)
        have ed1 : look ρ1 r = some dk := ed
        obtain ⟨b, rfl, nd, _⟩ := vw_keys (rx.see s1.good ed1) ek
        cases ry with
        | d im =>
          have no2 : ¬ Own σ ρ2 p := fun z => (st.news p z).elim no0 fun z => by
            rw [upd_same] at z
            cases z
          have nd2 := (s2.grow s1.good).n nd
          refine ⟨_, _, b, ks, rfl, e2, rfl, nd2, fun u ru => ?_⟩
          have s3 := s0.trans st
          have nt : NoTab (.ext (TDp Tbl.hs p [])) := td_code
          have s4 := s3.beside hp e2 (u := .ext (TDp Tbl.hs p [(ks, b, u)])) trivial nt no2
          have g4 : Grow H2 (upd H2 p (.ext (TDp Tbl.hs p [(ks, b, u)]))) := grow_upd e2 trivial (noTab_code nt)
          exact h _ s4 p _ hp upd_same (.dt (.cons (g4.n nd2) ru (im.grow g4) .nil)) no2
      · exact h.elim
end
end Q
namespace Q
open PySem PySem.Spec PyProof.Rows L2 Gd
variable [Tbl]
/-! ### calls of defs with defaults that are not written -/
@[simp] def eApp (m : Mo (List R)) (ds : List D) : Mo (List R) := fun ρ => (m ρ).bind fun rs ρ1 => .ok (rs ++ ds.map R.d) ρ1
section
variable {X : Cx} {n : Nat} {W : XW} {k : Nat} {f : Addr} {fd : FuncData} {ps : List Str} {x : Str} {p pos : Pos} {e : Expr} {es : List Expr} {m : Mo (List R)} {F : Fn} {Wx : WX} {sp : Sp} {t : TA} {dvs : List V} {dus : List Value} {dds : List D}
def tApp (t : TA) (dvs : List V) : TA := fun σ H Q => t σ H fun vs H1 => Q (vs ++ dvs) H1
theorem pe_callGXD (F : FnGX X.prog X.w X.K X.mg X.base k f fd ps sp) (tk : Takes X Wx) (g : X.A.guards = some []) (room : Room k X.A) (hg : Gl X x) (hm : X.mg x = some (.ref f)) (hk : PySem.W.keepIn X.K (.ref f) = true) (hb : Binds X.K fd ps dus) (rd : Vals dvs dus)
    (ha : PA X (e :: es) t) (hdb : (x == ("__debug__" : Str)) = false := by decide) (he : starEach (e :: es) X.env = (false, eval e X.env) :: starEach es X.env := by rfl) (hpl : (backTo pos (starEach es X.env)).any (·.1) = false := by rfl) :
    PE X (.Call (.Name x p) (e :: es) [] pos) (tCallX Wx sp (tApp t dvs)) := ⟨fun pins s σ H Q I h => by
  refine wpAny_Call_Name_kw (ld_glob I hg hm ?_ hdb)
  refine PySem.W.callWith_K (h₀ := X.base) I.ok.mod.kin hk (thn (ha.run pos pins s σ H _ I h) ?_) he hpl
  rintro us s1 ⟨vs, H1, I1, r, q⟩
  refine ⟨I1.kIn, ?_⟩
  have r1 : Vals (vs ++ dvs) (us ++ dus) := r.append rd
  have z := F.len _ _ _ _ q
  have z : (us ++ dus).length = ps.length := by
    rw [← z]
    exact r1.length.symm
  refine wpAny_call (codeAny_mono (F.go g room I1.env0 (hb s1 us I1.kIn z) r1 q) fun res s' hq => ?_)
  cases res with
  | error u => exact tk _ _ (XE.of_call I1 (fun cls d H' w => w) hq)
  | ok fl =>
    cases fl with
    | ret u => exact I1.after hq
    | next => exact False.elim hq
    | brk => exact False.elim hq
    | cont => exact False.elim hq⟩
inductive ImC : List V → List D → Prop
  | nil : ImC [] []
  | int {i : Int} {vs : List V} {ds : List D} : ImC vs ds → ImC (.int i :: vs) (.int i :: ds)
theorem ImC.rrs {K : PySem.W.Frag} {H : Hp} {σ : L2.St} : ∀ {vs : List V} {ds : List D}, ImC vs ds → RRs K H σ vs (ds.map R.d)
  | _, _, .nil => .nil
  | _, _, .int r => .cons (.d (.int _)) r.rrs
theorem RRs.app {K : PySem.W.Frag} {H : Hp} {σ : L2.St} : ∀ {vs ws : List V} {rs qs : List R}, RRs K H σ vs rs → RRs K H σ ws qs → RRs K H σ (vs ++ ws) (rs ++ qs)
  | _, _, _, _, .nil, h => h
  | _, _, _, _, .cons a r, h => .cons a (RRs.app r h)
theorem app_run (ic : ImC dvs dds) (σ : L2.St) (H : Hp) (Q : List V → Hp → Prop) (h : tXs X.K n W (eApp m dds) σ H Q) : tApp (tXs X.K n W m) dvs σ H Q := by
  obtain ⟨ρ, G, h⟩ := h
  unfold eApp at h
  refine ⟨ρ, G, ?_⟩
  cases em : m ρ with
  | no =>
    rw [em] at h
    exact h.elim
  | ex c d ρ1 =>
    rw [em] at h
    exact h
  | ok rs ρ1 =>
    rw [em] at h
    exact fun H1 s1 vs rv => h H1 s1 _ (rv.app ic.rrs)
theorem xd_ofX {ex : Expr} (hW : ∀ c d σ H, W c d σ H → wE X.K Wx c d σ H) (hp : PE X ex (tCallX Wx (spX X.K F) (tXs X.K n W m))) : XD X n W ex (eCallX F m) := weakE hp fun σ H Q ⟨ρ, Gd, h⟩ => by
  refine ⟨ρ, Gd, (Aft.bind h).mono fun rs ρ1 H1 s1 h1 vs rvs => ?_⟩
  unfold applyX at h1
  cases ea : argS ρ1 rs with
  | none =>
    rw [ea] at h1
    exact h1.elim
  | some as =>
    rw [ea] at h1
    dsimp only at h1
    split at h1
    · next nd =>
      have nd := nodupB_iff nd
      refine ⟨as, args_good s1.good rvs ea nd, ?_⟩
      generalize F as = r at h1
      cases r with
      | no => exact h1.elim
      | ex c d as' =>
        intro H' st C dd ff v d' e1 e2 e3 e4
        rw [rvs.len] at st
        exact hW _ _ _ _ (h1 H' (call_stp s1.good rvs ea nd (by rw [rvs.len]; exact st)).1) C dd ff v d' e1 e2 e3 e4
      | ok s as' =>
        cases s with
        | no => exact h1.elim
        | exc _ _ _ => exact h1.elim
        | own o => exact h1.elim
        | dat d =>
          intro v H' st sr
          cases sr with
          | dat im => exact h1 H' (call_stp s1.good rvs ea nd st).1 v (.d im)
    · exact h1.elim
theorem xf_ofX {ex : Expr} (hW : ∀ c d σ H, W c d σ H → wE X.K Wx c d σ H) (hp : PE X ex (tCallX Wx (spX X.K F) (tXs X.K n W m))) : XF X n W ex (fCallX F m) := weakE hp fun σ H Q ⟨ρ, Gd, h⟩ => by
  refine ⟨ρ, Gd, (Aft.bind h).mono fun rs ρ1 H1 s1 h1 vs rvs => ?_⟩
  unfold applyX at h1
  cases ea : argS ρ1 rs with
  | none =>
    rw [ea] at h1
    exact h1.elim
  | some as =>
    rw [ea] at h1
    dsimp only at h1
    split at h1
    · next nd =>
      have nd := nodupB_iff nd
      refine ⟨as, args_good s1.good rvs ea nd, ?_⟩
      generalize F as = r at h1
      cases r with
      | no => exact h1.elim
      | ex c d as' =>
        intro H' st C dd ff v d' e1 e2 e3 e4
        rw [rvs.len] at st
        exact hW _ _ _ _ (h1 H' (call_stp s1.good rvs ea nd (by rw [rvs.len]; exact st)).1) C dd ff v d' e1 e2 e3 e4
      | ok s as' =>
        cases s with
        | no => exact h1.elim
        | exc _ _ _ => exact h1.elim
        | dat o => exact h1.elim
        | own o =>
          intro v H' st sr
          cases sr with
          | own np ep r no =>
            obtain ⟨st2, bk⟩ := call_stp (n := n) s1.good rvs ea nd st
            exact h1 H' st2 _ _ (s1.live _ np) ep r fun z => new_own s1.good np (bk _ z)
    · exact h1.elim
theorem xf_callXD (tk : Takes X Wx) (hW : ∀ c d σ H, W c d σ H → wE X.K Wx c d σ H) (G : FnGX X.prog X.w X.K X.mg X.base k f fd ps (spX X.K F)) (g : X.A.guards = some []) (room : Room k X.A) (hg : Gl X x) (hm : X.mg x = some (.ref f)) (hk : PySem.W.keepIn X.K (.ref f) = true) (hb : ∃ dus, Vals dvs dus ∧ Binds X.K fd ps dus) (ic : ImC dvs dds)
    (ha : XA X n W (e :: es) m) (hdb : (x == ("__debug__" : Str)) = false := by decide) (he : starEach (e :: es) X.env = (false, eval e X.env) :: starEach es X.env := by rfl) (hpl : (backTo pos (starEach es X.env)).any (·.1) = false := by rfl) :
    XF X n W (.Call (.Name x p) (e :: es) [] pos) (fCallX F (eApp m dds)) := by
  obtain ⟨dus, rd, hb⟩ := hb
  refine xf_ofX hW (weakE (pe_callGXD (Wx := Wx) G tk g room hg hm hk hb rd ha hdb he hpl) fun σ H Q h => ?_)
  exact app_run ic σ H _ h
theorem xd_callXD (tk : Takes X Wx) (hW : ∀ c d σ H, W c d σ H → wE X.K Wx c d σ H) (G : FnGX X.prog X.w X.K X.mg X.base k f fd ps (spX X.K F)) (g : X.A.guards = some []) (room : Room k X.A) (hg : Gl X x) (hm : X.mg x = some (.ref f)) (hk : PySem.W.keepIn X.K (.ref f) = true) (hb : ∃ dus, Vals dvs dus ∧ Binds X.K fd ps dus) (ic : ImC dvs dds)
    (ha : XA X n W (e :: es) m) (hdb : (x == ("__debug__" : Str)) = false := by decide) (he : starEach (e :: es) X.env = (false, eval e X.env) :: starEach es X.env := by rfl) (hpl : (backTo pos (starEach es X.env)).any (·.1) = false := by rfl) :
    XD X n W (.Call (.Name x p) (e :: es) [] pos) (eCallX F (eApp m dds)) := by
  obtain ⟨dus, rd, hb⟩ := hb
  refine xd_ofX hW (weakE (pe_callGXD (Wx := Wx) G tk g room hg hm hk hb rd ha hdb he hpl) fun σ H Q h => ?_)
  exact app_run ic σ H _ h
end
end Q
namespace Q
open PySem PySem.Spec PyProof.Rows L2 Gd
variable [Tbl]
/-! ### x += e, both ints -/
@[simp] def bAug (i : Nat) (f : Mo R) : Mo Out := fun ρ => match ρ[i]? with
  | some (.dat (.int a)) => (f ρ).bind fun r ρ1 => match look ρ1 r with
    | some (.int b) => nxt (put i (.dat (.int (a + b))) ρ1)
    | _ => .no
  | _ => .no
section
variable {X : Cx} {n : Nat} {W : XW}
theorem xs_aug {i : Nat} {x : Str} {e : Expr} {pos pos' : Pos} {f : Mo R} (hn : n ≤ i) (hN : X.N.Nodup) (hi : X.N[i]? = some x) (hx : Loc X.env.scope x) (he : XD X n W e f) (hf : X.fn x = true ∨ X.env.scope.names.lookup x = some .local := by first | exact .inl rfl | exact .inr rfl) :
    XS X n W (.AugAssign (.Name x pos') .Add e pos) (bAug i f) := weakS (ps_aug hN hi hx he ip_add hf) fun E σ H ⟨ρ, G, h⟩ => by
  unfold bAug at h
  split at h
  · next a e0 =>
    obtain ⟨v, e1, im⟩ := G.dat i _ e0
    cases im
    refine ⟨_, e1, ρ, G, (AftS.bind h).mono fun r ρ1 H1 s1 h1 v rv => ?_⟩
    split at h1
    · next b eb =>
      have hv := (rv.see s1.good eb).int
      subst hv
      obtain ⟨ρ2, e2, q⟩ := AftS.nxt h1
      obtain ⟨le, rfl⟩ := put_some e2
      exact ⟨_, _, rfl, rfl, q _ _ ((Stp.refl s1.good).set_dat hn le (.int _))⟩
    · exact h1.elim
  · exact h.elim
/-! ### sorted(xs), xs a list of tuples of texts: none of them empty, or one alone -/
noncomputable def sortT (ts : List (List Str)) : List (List Str) := ts.mergeSort (PySem.W.dataLe false txtsD)
def sortable (ts : List (List Str)) : Bool := decide (ts.length ≤ 1) || ts.all fun t => !t.isEmpty
noncomputable def sortTD : List D → Option (List D)
  | [.list ds] => (setsOf ds).bind fun ts => if sortable ts = true then some ((sortT ts).map txtsD) else none
  | _ => none
theorem alike_txts (a b : List Str) : PySem.W.alike (txtsD a) (txtsD b) = true := alike_strs a b
theorem depth_txts (a : List Str) : (txtsD a).depth = 1 := by
  show PyData.depthAll (a.map PyData.str) + 1 = 1
  rw [deep_strs0]
theorem keyRel_reads {H : Hp} {h : Heap} {v : Value} {b : V × List Str} (k : KeyRel X H h v b) : ∃ as, Reads h v (txtsD b.2) as := by
  obtain ⟨_, _, u, its, rfl, ⟨o, h1, h2, n, h3⟩, r, _⟩ := k
  exact ⟨_, reads_tuple_at h1 h2 h3 r⟩
/-- the kind of keys for one alone -/
theorem sorts_one {prog : Program} {w : World} {A : Around} {s : Shared} {vs : List Value} {ds : List PyData} (e : PySem.W.EachIs (fun v d => ∃ as, Reads s.heap v d as) vs ds) (hal : PySem.W.AllAlike ds) (hn : ∀ d ∈ ds, d ≠ .none) (l1 : vs.length ≤ 1) (hu : ∀ d, d ∈ ds → A.units + d.depth < cLine) :
    PySem.W.SortsAt prog w A s (PySem.W.dataKind s.heap ds) vs := by
  refine ⟨fun v hv => ?_, general', fun E x y a b Q ha hb hq => ?_, fun h2 => absurd h2 (by omega)⟩
  · obtain ⟨d, hd, as, r⟩ := e.left v hv
    exact ⟨_, PySem.W.dataKind_some hal hd r⟩
  · obtain ⟨d, as, hd, ra, rfl⟩ := PySem.W.dataKind_inv ha
    obtain ⟨d', as', hd', rb, rfl⟩ := PySem.W.dataKind_inv hb
    show wpAny _ _ (oneLt' false x y) Q E s
    exact PySem.W.oneLt_alike (fun z => nomatch z) ra rb (hal d hd d' hd') (hn d hd) (Nat.lt_of_le_of_lt (Nat.add_le_add_left (Nat.min_le_left _ _) _) (hu d hd)) hq
theorem c_sortT (hu : X.A.units + 65 < cLine) : CallR X (.builtin "sorted") (rFN X.K sortTD) := by
  rintro pins s σ H xs us Q I r ⟨as, ds, hx, e, q⟩
  unfold sortTD at e
  split at e
  · next d0 =>
    obtain ⟨ts, e1, e2⟩ := Option.bind_eq_some_iff.mp e
    split at e2
    · next so =>
      cases e2
      obtain ⟨x, rfl, hv⟩ := hx.one
      obtain ⟨l, ys, rfl, hl, im⟩ := hv.list
      rw [setsOf_eq e1] at im
      obtain rfl := Vals.ref1 r
      obtain ⟨its, rv, hl, hz⟩ := I.list hl
      have each := each_of I im rv
      have lx : ys.length = ts.length := by rw [im.len, List.length_map]
      have lz : (ys.zip ts).length = ys.length := by rw [List.length_zip, lx, Nat.min_self]
      have li : its.length = (ys.zip ts).length := by rw [each.length]
      have er : PySem.W.EachIs (fun v b => ∃ as, Reads s.heap v (txtsD b.2) as) its (ys.zip ts) := each.mono fun v b hb => keyRel_reads hb
      have er' : PySem.W.EachIs (fun v (b : V × List Str) => ∃ as, Reads (PySem.W.sortingHeap (PySem.W.copyHeap s.heap its) (s.heap.objs.size + 1) its) v (txtsD b.2) as) its (ys.zip ts) := er.mono fun _ _ ⟨as, r⟩ => ⟨as, PyProof.Rows.Reads.keeps (fun _ _ => PySem.W.sorting_copy_old) r⟩
      have hal : PySem.W.AllAlike ((ys.zip ts).map fun b => txtsD b.2) := PySem.W.AllAlike.of fun b b' => alike_txts _ _
      have fin : ∀ out : List Value, out.length = (ys.zip ts).length → PySem.W.EachIs (KeyRel X H s.heap) out ((ys.zip ts).mergeSort (PySem.W.dataLe false fun b => txtsD b.2)) → EP X pins σ Q (.ref (s.heap.objs.size + 1)) { s with heap := PyProof.Rows.sortedAll s.heap its (List.toArray out) } := fun out lo eo => by
        obtain ⟨v1, i1⟩ := each_end eo
        have e2 : (((ys.zip ts).mergeSort (PySem.W.dataLe false fun b : V × List Str => txtsD b.2)).map (·.2)) = sortT ts := by
          have e := List.map_mergeSort (r := PySem.W.dataLe false fun b : V × List Str => txtsD b.2) (s := PySem.W.dataLe false txtsD) (f := fun b : V × List Str => b.2) (l := ys.zip ts) (fun a _ b _ => rfl)
          refine e.trans ?_
          rw [List.map_snd_zip (by omega)]
          rfl
        rw [e2] at i1
        obtain ⟨c, hc⟩ := sortedAll_at s.heap its (List.toArray out)
        refine ⟨.ref _, upd H (s.heap.objs.size + 1) (.lst (((ys.zip ts).mergeSort (PySem.W.dataLe false fun b : V × List Str => txtsD b.2)).map (·.1))), I.laid (t' := s.toks) (fun _ _ => sortedAll_old) (Nat.le_succ _) ⟨?_, out, c, v1, hc⟩, rfl, q _ _ (I.hok.fresh (Nat.le_succ _)) i1⟩
        rw [List.length_map, List.length_mergeSort, lz]
        exact hz
      have main : PySem.W.SortsAt X.prog X.w X.A.in1.in1 { s with heap := PySem.W.sortingHeap (PySem.W.copyHeap s.heap its) (s.heap.objs.size + 1) its } (PySem.W.dataKind (PySem.W.sortingHeap (PySem.W.copyHeap s.heap its) (s.heap.objs.size + 1) its) ((ys.zip ts).map fun b => txtsD b.2)) its := by
        have bd : ∀ d, d ∈ ((ys.zip ts).map fun b => txtsD b.2) → X.A.in1.in1.units + d.depth < cLine := fun d hd => by
          obtain ⟨b, _, rfl⟩ := List.mem_map.mp hd
          rw [depth_txts]
          show X.A.units + 1 + 1 + 1 < cLine
          omega
        have em := PySem.W.each_map (R := fun v d => ∃ as, Reads (PySem.W.sortingHeap (PySem.W.copyHeap s.heap its) (s.heap.objs.size + 1) its) v d as) (fun b : V × List Str => txtsD b.2) er'
        rcases Bool.or_eq_true _ _ ▸ (show (decide (ts.length ≤ 1) || ts.all fun t => !t.isEmpty) = true from so) with c | c
        · have c := of_decide_eq_true c
          exact sorts_one (s := { s with heap := PySem.W.sortingHeap (PySem.W.copyHeap s.heap its) (s.heap.objs.size + 1) its }) em hal (fun d hd => by
            obtain ⟨b, _, rfl⟩ := List.mem_map.mp hd
            exact fun z => nomatch z) (by omega) bd
        · refine PySem.W.SortsAt.data (s := { s with heap := PySem.W.sortingHeap (PySem.W.copyHeap s.heap its) (s.heap.objs.size + 1) its }) em hal (.inl fun d hd => ?_) bd
          obtain ⟨b, hb, rfl⟩ := List.mem_map.mp hd
          have mem : b.2 ∈ ts := (List.of_mem_zip hb).2
          have := List.all_eq_true.mp c _ mem
          cases hz : b.2 with
          | nil =>
            rw [hz] at this
            cases this
          | cons y z => exact ⟨.str y, z.map PyData.str, rfl⟩
      refine PySem.W.sorted_vals hl.isList main (by rw [li, lz]; exact hz) (fin _ (by rw [PySem.W.sortVals_length false rfl]; exact li) (PySem.W.sortVals_data false each er' hal))
    · cases e2
  · cases e
end
end Q
namespace Q
open PySem PySem.Spec PyProof.Rows L2 Gd
variable [Tbl]
/-! ### {} -/
section
variable {X : Cx} {n : Nat} {W : XW} {pos : Pos}
def tNewT0 : TE := fun _ H Q => ∀ p, H p = none → Q (.ref p) (upd H p (.ext (TDp Tbl.hs p [])))
theorem pe_newT0 (hw : HsOk X.prog X.w) : PE X (.Dict [] [] pos) tNewT0 := by
  refine ⟨fun pins s σ H Q I q => ?_⟩
  have hd : (s.heap.objs.size == sysModules) = false := beq_eq_false_iff_ne.mpr (Ne.symm (Nat.ne_of_lt I.big))
  exact wpAny_Dict_empty ⟨.ref s.heap.objs.size, _, I.laid (a := s.heap.objs.size) (o := .ext (TDp Tbl.hs s.heap.objs.size [])) (t' := s.toks) (fun _ _ q => Heap.get?_push_of_some _ q) (Nat.le_refl _) (td_new hw (Heap.DictOfH.new s.heap) (Nat.zero_le _) hd), rfl, q _ (I.hok.fresh (Nat.le_refl _))⟩
@[simp] def fNewT0 : Mo Ob := fun ρ => .ok (.dt []) ρ
theorem xf_newT0 (hw : HsOk X.prog X.w) : XF X n W (.Dict [] [] pos) fNewT0 := weakE (pe_newT0 hw) fun σ H Q ⟨ρ, G, h⟩ => fun p hp => by
  have s0 : Stp X.K n H σ ρ (upd H p (.ext (TDp Tbl.hs p []))) σ ρ := Stp.same G (same_upd hp)
  exact h _ s0 p _ hp upd_same (.dt .nil) (new_own G hp)
end
/-! ### d.setdefault(k, []).append(x): keys that are tuples, the key new -/
/-- a thing beside is locked -/
def tFrzA (te : TE) : TE := fun σ H Q => te σ H fun x H1 => ∃ d u, H1 d = some u ∧ Mut (some u) ∧ ∀ od, Q x (upd H1 d (.frz od u))
theorem pe_frzA {X : Cx} {e : Expr} {te : TE} (he : PE X e te) : PE X e (tFrzA te) := by
  refine ⟨fun pins s σ H Q I h => thn (he.run pins s σ H _ I h) ?_⟩
  rintro v s1 ⟨x, H1, I1, r, d, u, hd, mu, q⟩
  obtain ⟨od, I2⟩ := I1.lock hd mu
  exact ⟨x, _, I2, r, q od⟩
section
variable {X : Cx} {o e : Expr} {td ty : TE} {pos : Pos}
def tSdT (K : PySem.W.Frag) (td ty : TE) : TE := fun σ H Q => td σ H fun x H1 => ∃ p a xs ds, x = .ref p ∧ H1 p = some (.ext (TDp Tbl.hs a xs)) ∧ ImT K H1 xs ds ∧ ty σ H1 fun y H2 => ∃ a' ys es b ks, H2 p = some (.ext (TDp Tbl.hs a' ys)) ∧ ImT K H2 ys es ∧
  y = .ref b ∧ NdT H2 b (ks.map kV) ∧ findT es ks = none ∧ ys.length < sizeLine ∧ ∀ q, H2 q = none → Q (.ref q) (upd (upd H2 q (.lst [])) p (.ext (TDp Tbl.hs a' (storedH ys ks b (.ref q)))))
theorem pe_sdT {apos cpos lpos : Pos} (hw : HsOk X.prog X.w) (hu : X.A.units + 65 < cLine) (ho : PE X o td) (he : PE X e ty) (m : M2 X o "setdefault" apos e (.List [] lpos) cpos) : PE X (.Call (.Attribute o "setdefault" apos) [e, .List [] lpos] [] cpos) (tSdT X.K td ty) := by
  refine ⟨fun pins s σ H Q I h => ?_⟩
  refine wpAny_Call_method m.base m.few m.line PySem.F.plainAttrs_dict PySem.F.slot_dict_setdefault PySem.F.type_dict_setdefault (thn (ho.run pins s σ H _ I h) fun u s1 ⟨x, H1, I1, rx, p, a, xs, ds, ex, e1, im, q1⟩ => ?_)
  subst ex
  obtain rfl : u = Value.ref p := rx
  obtain ⟨rfl, z, hd, dd⟩ := td_dict hw I1.hok e1 im
  obtain ⟨ob, _, _, g1, g2, _⟩ := id dd
  refine ⟨dd.typeIs, fun b eb => by
    cases eb
    exact ⟨ob, g1, g2.2.1⟩, ?_⟩
  rw [m.trees]
  refine Calls.callWith_builtin rfl (Calls.evalArgs_plain (Calls.spliced_cons (thn (he.run pins s1 σ H1 _ I1 q1) fun iv s2 ⟨y, H2, I2, ry, a', ys, es, b, ks, e2, im2, ey, nd, hn, lt, q2⟩ =>
    Calls.spliced_cons (thn ((pe_lst (pos := lpos) pa_nil).run pins s2 σ H2 (fun v H3 => ∃ q, v = .ref q ∧ H2 q = none ∧ H3 = upd H2 q (.lst [])) I2 ?_) fun fv s3 ⟨v3, H3, I3, r3, q, e3, hq, e4⟩ => Calls.spliced_nil ?_))))
  · exact ⟨Nat.zero_le _, fun q hq => ⟨q, rfl, hq, rfl⟩⟩
  subst ey e3 e4
  obtain rfl : iv = Value.ref b := ry
  obtain rfl : fv = Value.ref q := r3
  have np : p ≠ q := fun z => by
    rw [z, hq] at e2
    cases e2
  have gr : Grow H2 (upd H2 q (.lst [])) := Grow.same (same_upd hq)
  obtain ⟨rfl, z2, _, dd2⟩ := td_dict hw I3.hok (by rw [upd_ne np]; exact e2) (im2.grow gr)
  have l2 : (storedH ys ks b (.ref q)).length ≤ sizeLine := by
    have := storedH_length ys ks b (.ref q)
    omega
  refine call_setdefault_heap (hsz := z2) (tupleKind_room_in1 (by omega)) (nd_key I3.hok (gr.n nd)) hd dd2 (fun w hw' => ?_) fun _ h' dd' sb => ?_
  · have := (imT_find (ks := ks) im2).2
    rw [hn, hw'] at this
    cases this
  · obtain ⟨ob', _, _, hq', _⟩ := id dd'
    exact ⟨.ref q, _, d_write I3 (by rw [upd_ne np, e2]; exact True.intro) sb ⟨ob', hq'⟩ (td_new hw dd' l2 hd), rfl, q2 q hq⟩
end
@[simp] def eSdA (i : Nat) (f : Mo R) (j : Nat) : Mo R := fun ρ => match ρ[i]? with
  | some (.own (.dt _)) => (f ρ).bind fun r ρ1 => match (look ρ1 r).bind keysT, ρ1[i]?, ρ1[j]? with
    | some ks, some (.own (.dt ds)), some (.dat x) => if (findT ds ks).isNone = true ∧ ds.length < sizeLine then .ok (.d .none) (ρ1.set i (.own (.dt (ds ++ [(.tuple (ks.map keyD), .list [x])])))) else .no
    | _, _, _ => .no
  | _ => .no
section
variable {X : Cx} {n : Nat} {W : XW} {x y : Str} {p p2 apos cpos a2 c2 lpos : Pos} {e : Expr} {f : Mo R} {i j : Nat}
theorem xd_sdA (hw : HsOk X.prog X.w) (hu : X.A.units + 65 < cLine) (hx : PE X (.Name x p) (tVar i)) (he : XD X n W e f) (hy : PE X (.Name y p2) (tVar j))
    (m : M2 X (.Name x p) "setdefault" apos e (.List [] lpos) cpos)
    (hbase : attributeBase (.Call (.Attribute (.Name x p) "setdefault" apos) [e, .List [] lpos] [] cpos) "append" X.env (eval (.Call (.Attribute (.Name x p) "setdefault" apos) [e, .List [] lpos] [] cpos) X.env) = eval (.Call (.Attribute (.Name x p) "setdefault" apos) [e, .List [] lpos] [] cpos) X.env := by rfl)
    (hfew : ((backTo c2 (starEach [.Name y p2] X.env)).all (fun x => !x.1) && (backToKw c2 (keywordEach [] X.env)).all (fun x => x.1.isSome) && decide (([.Name y p2] : List Expr).length + ([] : List Keyword).length + (if ([] : List Keyword).isEmpty then 0 else 1) < 30)) = true := by rfl)
    (hline : (a2.endLine == c2.line) = true := by rfl) (hs : starEach [.Name y p2] X.env = (false, eval (.Name y p2) X.env) :: starEach [] X.env := by rfl) (hplain : (backTo c2 (starEach [] X.env)).any (·.1) = false := by rfl) :
    XD X n W (.Call (.Attribute (.Call (.Attribute (.Name x p) "setdefault" apos) [e, .List [] lpos] [] cpos) "append" a2) [.Name y p2] [] c2) (eSdA i f j) :=
  weakE (pe_frzA (pe_bm PySem.F.plainAttrs_list PySem.F.slot_list_append PySem.F.type_list_append mt_append (pe_sdT hw hu hx he m) (pa_cons hy pa_nil hs) hbase hfew hline hs hplain)) fun σ H Q ⟨ρ, G, h⟩ => by
    unfold eSdA at h
    split at h
    · next ds0 e0 =>
      obtain ⟨p0, a0, xs0, f1, f2, im0⟩ := own_dt G e0
      refine ⟨_, f1, p0, a0, xs0, ds0, rfl, f2, im0, ρ, G, (Aft.bind h).mono fun r ρ1 H1 s1 h1 v rv => ?_⟩
      split at h1
      · next ks ds d ek eo ej =>
        split at h1
        · next hc =>
          obtain ⟨d', ed, ek⟩ := Option.bind_eq_some_iff.mp ek
          obtain ⟨q0, a, ys, g1, g2, im⟩ := own_dt s1.good eo
          rw [f1] at g1
          cases g1
          obtain ⟨b, rfl, nd, _⟩ := vw_keys (rv.see s1.good ed) ek
          obtain ⟨z, ez, iz⟩ := s1.good.dat j d ej
          refine ⟨a, ys, ds, b, ks, g2, im, rfl, nd, by simpa using hc.1, by rw [im.len]; exact hc.2, fun q hq => ?_⟩
          have np : p0 ≠ q := fun w => by
            rw [w, hq] at g2
            cases g2
          have eq1 : ∀ u, upd (upd H1 q (.lst [])) p0 u q = some (.lst []) := fun u => by
            rw [upd_ne (Ne.symm np), upd_same]
          refine ⟨.inl ⟨rfl, _, .inl (.inl (eq1 _))⟩, z, ez, q, [], z, rfl, rfl, eq1 _, by rw [sizeLine_eq]; simp, q, _, upd_same, trivial, fun od => ?_⟩
          have e5 : upd (upd (upd (upd H1 q (.lst [])) p0 (.ext (TDp Tbl.hs a (storedH ys ks b (.ref q))))) q (.lst ([] ++ [z]))) q (.frz od (.lst ([] ++ [z]))) = upd (upd H1 q (.frz od (.lst [z]))) p0 (.ext (TDp Tbl.hs a (storedH ys ks b (.ref q)))) := by
            funext c
            by_cases c1 : c = q
            · subst c1
              rw [upd_same, upd_ne (Ne.symm np), upd_same]
              rfl
            · rw [upd_ne c1, upd_ne c1]
              by_cases c2 : c = p0
              · subst c2
                rw [upd_same, upd_same]
              · rw [upd_ne c2, upd_ne c2, upd_ne c1, upd_ne c1]
          rw [e5]
          have sa : Stp X.K n H1 σ ρ1 (upd H1 q (.frz od (.lst [z]))) σ ρ1 := Stp.same s1.good (same_upd hq)
          have gr : Grow H1 (upd H1 q (.frz od (.lst [z]))) := Grow.same (same_upd hq)
          have il : Im X.K (upd H1 q (.frz od (.lst [z]))) (.ref q) (.list [d]) := .lst ⟨od, upd_same⟩ (.cons (iz.grow gr) .nil)
          have ip := imT_put (ks := ks) (u := .ref q) (gr.n nd) (v := .ref q) rfl il (im.grow gr)
          have en : putT ds ks (.list [d]) = ds ++ [(.tuple (ks.map keyD), .list [d])] := by
            unfold putT
            rw [if_neg]
            have := hc.1
            cases hf : findT ds ks with
            | none => simp
            | some _ =>
              rw [hf] at this
              cases this
          rw [en] at ip
          have sb : Stp X.K n (upd H1 q (.frz od (.lst [z]))) σ ρ1 _ σ _ := Stp.write (h' := .ext (TDp Tbl.hs a (storedH ys ks b (.ref q)))) sa.good eo f1 (by rw [upd_ne np]; exact g2) (.dt (im.grow gr)) (.dt ip)
          exact h1 _ (sa.trans sb) _ (.d .non)
        · exact h1.elim
      · exact h1.elim
    · exact h.elim
end
/-! ### d.get(k, []): the key there -/
@[simp] def eGetT (i : Nat) (f : Mo R) : Mo R := fun ρ => match ρ[i]? with
  | some (.own (.dt _)) => (f ρ).bind fun r ρ1 => match (look ρ1 r).bind keysT, ρ1[i]? with
    | some ks, some (.own (.dt ds)) => lift (findT ds ks) ρ1
    | _, _ => .no
  | _ => .no
def tGetT (K : PySem.W.Frag) (td ty : TE) : TE := fun σ H Q => td σ H fun x H1 => ∃ p a xs ds, x = .ref p ∧ H1 p = some (.ext (TDp Tbl.hs a xs)) ∧ ImT K H1 xs ds ∧ ty σ H1 fun y H2 => ∃ a' ys es b ks d, H2 p = some (.ext (TDp Tbl.hs a' ys)) ∧ ImT K H2 ys es ∧
  y = .ref b ∧ NdT H2 b (ks.map kV) ∧ findT es ks = some d ∧ ∀ q v, H2 q = none → Im K (upd H2 q (.lst [])) v d → Q v (upd H2 q (.lst []))
section
variable {X : Cx} {o e : Expr} {td ty : TE}
theorem pe_getT {apos cpos lpos : Pos} (hw : HsOk X.prog X.w) (hu : X.A.units + 65 < cLine) (ho : PE X o td) (he : PE X e ty) (m : M2 X o "get" apos e (.List [] lpos) cpos) : PE X (.Call (.Attribute o "get" apos) [e, .List [] lpos] [] cpos) (tGetT X.K td ty) := by
  refine ⟨fun pins s σ H Q I h => ?_⟩
  refine wpAny_Call_method m.base m.few m.line PySem.F.plainAttrs_dict PySem.F.slot_dict_get PySem.F.type_dict_get (thn (ho.run pins s σ H _ I h) fun u s1 ⟨x, H1, I1, rx, p, a, xs, ds, ex, e1, im, q1⟩ => ?_)
  subst ex
  obtain rfl : u = Value.ref p := rx
  obtain ⟨rfl, z, hd, dd⟩ := td_dict hw I1.hok e1 im
  obtain ⟨ob, _, _, g1, g2, _⟩ := id dd
  refine ⟨dd.typeIs, fun b eb => by
    cases eb
    exact ⟨ob, g1, g2.2.1⟩, ?_⟩
  rw [m.trees]
  refine wpAny_dict_get2_heap (knd := tupleKind (mixKind X.prog X.w)) (tupleKind_room_in1 (by omega)) hd (thn (he.run pins s1 σ H1 _ I1 q1) fun iv s2 ⟨y, H2, I2, ry, a', ys, es, b, ks, d, e2, im2, ey, nd, hn, q2⟩ =>
    thn ((pe_lst (pos := lpos) pa_nil).run pins s2 σ H2 (fun v H3 => ∃ q, v = .ref q ∧ H2 q = none ∧ H3 = upd H2 q (.lst [])) I2 ?_) fun fv s3 ⟨v3, H3, I3, r3, q, e3, hq, e4⟩ => ?_)
  · exact ⟨Nat.zero_le _, fun q hq => ⟨q, rfl, hq, rfl⟩⟩
  subst ey e3 e4
  obtain rfl : iv = Value.ref b := ry
  have np : p ≠ q := fun z => by
    rw [z, hq] at e2
    cases e2
  have gr : Grow H2 (upd H2 q (.lst [])) := Grow.same (same_upd hq)
  have e3 : upd H2 q (.lst []) p = some (.ext (TDp Tbl.hs a' ys)) := by rw [upd_ne np]; exact e2
  obtain ⟨rfl, z2, _, dd2⟩ := td_dict hw I3.hok e3 (im2.grow gr)
  obtain ⟨b', u, v, ea, rv, iv⟩ := (imT_find (ks := ks) (im2.grow gr)).1 d hn
  refine ⟨b, ks, ys, rfl, nd_key I3.hok (gr.n nd), dd2, ?_⟩
  rw [ea]
  exact ⟨v, _, I3.tok _, rv, q2 q v hq iv⟩
end
section
variable {X : Cx} {n : Nat} {W : XW} {x : Str} {p apos cpos lpos : Pos} {e : Expr} {f : Mo R} {i : Nat}
theorem xd_getT (hw : HsOk X.prog X.w) (hu : X.A.units + 65 < cLine) (hx : PE X (.Name x p) (tVar i)) (he : XD X n W e f) (m : M2 X (.Name x p) "get" apos e (.List [] lpos) cpos) :
    XD X n W (.Call (.Attribute (.Name x p) "get" apos) [e, .List [] lpos] [] cpos) (eGetT i f) :=
  weakE (pe_getT hw hu hx he m) fun σ H Q ⟨ρ, G, h⟩ => by
    unfold eGetT at h
    split at h
    · next ds0 e0 =>
      obtain ⟨p0, a0, xs0, f1, f2, im0⟩ := own_dt G e0
      refine ⟨_, f1, p0, a0, xs0, ds0, rfl, f2, im0, ρ, G, (Aft.bind h).mono fun r ρ1 H1 s1 h1 v rv => ?_⟩
      split at h1
      · next ks ds ek eo =>
        obtain ⟨d, ed, q⟩ := Aft.out s1.good h1
        obtain ⟨d', ed', ek⟩ := Option.bind_eq_some_iff.mp ek
        obtain ⟨q0, a, ys, g1, g2, im⟩ := own_dt s1.good eo
        rw [f1] at g1
        cases g1
        obtain ⟨b, rfl, nd, _⟩ := vw_keys (rv.see s1.good ed') ek
        exact ⟨a, ys, ds, b, ks, d, g2, im, rfl, nd, ed, fun q1 v hq iv => q _ _ (same_upd hq) iv⟩
      · exact h1.elim
    · exact h.elim
end
end Q
namespace Q
open PySem PySem.Spec PyProof.Rows L2 Gd
/-- no tables; the world's hashes -/
abbrev tblW (P : Program) (w : World) : Tbl := ⟨[], fun _ => True, fun _ _ _ _ => trivial, fun ks => (tupleKind (mixKind P w)).hash ks⟩
theorem walkGW {l : PySem.W.OpenLaw} {n k : Nat} {q : Program} {loose : List Str} {XP : (Str → Option Value) → Heap → Prop} {YP : World → Heap → Prop} {d : DefRec} {K : Params → PySem.W.Frag} {sp : World → PySem.W.Frag → Sp} {x : Str}
    (hn : l.most = some n) (hn2 : n ≤ sizeLine) (hdf : d.params.defaults = []) (room : Room k callerA) (hY : ∀ (w : World) (h : Heap), YP w h → (K w.params).In h)
    (F : ∀ (w : World) (mg : Str → Option Value) (fa : Addr) (h : Heap), (K w.params).In h → h.Ns mainGlobals mg → mg d.name = some (.ref fa) → ∃ fd : FuncData, (∀ (s : Shared) (u : Value), BindsTo s fd ⟨[u], []⟩ [(x, u)]) ∧
        ∀ base : Heap, (K w.params).In base → base.Ns mainGlobals mg → FnG l.prog w (K w.params) mg base k fa fd [x] (sp w (K w.params)))
    (want : ∀ (w : World) (K : PySem.W.Frag) (H : Hp) (a : Addr) (ns : List Int), ns.length ≤ n → Only H → SqL K H a (ns.map V.int) → sp w K [.ref a] H (fun v _ => v = .bl true) fun _ _ _ => False) :
    PySem.W.WalkO q loose XP YP l.row.toRowW d [] (fun f vs => PySem.call f vs) :=
  Att.attach_call hn hdf fun w s₀ s₁ mg mb fa o pm cd doc a vs ns G Y ho hd hcd hmg hobj hints hlen hg => by
    obtain ⟨fd, hb, hF⟩ := F w mg fa _ (hY w _ Y) G.T.g hmg
    exact law_callG (hY w _ Y) G.T.g G.T.b G.T.builtins G.T.nolimit hg hobj hints (Nat.le_trans hlen hn2) room hF hb fun H hO hS => want w _ H a ns hlen hO hS
end Q
namespace Z
open PySem PySem.Spec PyProof.Rows L2 Gd Q
def topS (i : Nat) : Stmt := PySem.Challenge.pw_movingpages_k36_normal_tokens.main.body.getD i (.Pass ⟨0, 0, 0, 0⟩)
abbrev s_i_BadToken : Stmt := (cbody (topS 2)).getD 0 (.Pass ⟨0, 0, 0, 0⟩)
theorem sc_i_BadToken : FnScope ["self", "token"] ["self", "token"] (defScope s_i_BadToken) := ⟨rfl, rfl, rfl, by decide +kernel, rfl, by decide +kernel, by decide +kernel⟩
/-! ### _law_hand -/
abbrev s__law_hand : Stmt := topS 15
abbrev n__law_hand : List Str := ["_law_script", "_law_k", "_law_cell", "_law_great"]
theorem sc__law_hand : FnScope n__law_hand ["_law_script", "_law_k"] (defScope s__law_hand) := ⟨rfl, rfl, rfl, by decide +kernel, rfl, by decide +kernel, by decide +kernel⟩
noncomputable def b__law_hand : Mo Out := (bSeq (bSet 2 (eIf (asB (e2 ltD (eVar 1) (eN lenD (eCons (eVar 0) eNil)))) (e2 ixD (eVar 0) (eVar 1)) (e2 addD (e2 mulA (eC (.int 7)) (eVar 1)) (eC (.int 3))))) (bSeq (bSet 3 (e2 mulA (e2 modD (eN absD (eCons (eVar 2) eNil)) (e2 mulA (e2 mulA (e2 mulA (e2 powD (eC (.int 10)) (eC (.int 60))) (e2 powD (eC (.int 10)) (eC (.int 60)))) (e2 powD (eC (.int 10)) (eC (.int 60)))) (e2 powD (eC (.int 10)) (eC (.int 60))))) (eN intD (eCons (e2 geD (eN absD (eCons (eVar 2) eNil)) (e2 powD (eC (.int 10)) (eC (.int 18)))) eNil)))) (bSeq (bRetF (fLst (eCons (eVar 3) (eCons (e2 modD (e2 mulA (e2 addD (e2 addD (e2 modD (eVar 2) (eC (.int 2305843009213693951))) (e2 mulA (e2 mulA (eC (.int 104729)) (eVar 1)) (eVar 1))) (eC (.int 29))) (eC (.int 48271))) (eC (.int 2305843009213693921))) (eCons (eC (.int 0)) eNil))))) bNil)))
noncomputable def F__law_hand : Fn := fnOf 2 4 b__law_hand
/-! ### _law_all_lengths -/
abbrev s__law_all_lengths : Stmt := topS 21
abbrev n__law_all_lengths : List Str := ["_law_orders_here", "_law_found", "_law_order", "_law_longer", "_law_lengths", "_law_length"]
theorem sc__law_all_lengths : FnScope n__law_all_lengths ["_law_orders_here"] (defScope s__law_all_lengths) := ⟨rfl, rfl, rfl, by decide +kernel, rfl, by decide +kernel, by decide +kernel⟩
noncomputable def b__law_all_lengths : Mo Out := (bSeq (bSet 1 (eLock (fLst (eCons (eTup eNil) eNil)))) (bSeq (bFor (iSeq (eVar 0)) (gN 2) (bSeq (bSetF 3 (fLst eNil)) (bSeq (bFor (iSeq (eVar 1)) (gN 4) (bSeq (bEx (eExt 3 (eLock (fComp (iN range1D (eCons (e2 addD (eN lenD (eCons (eVar 2) eNil)) (eC (.int 1))) eNil)) (gN 5) bYes (e2 addD (eVar 4) (eTup (eCons (eVar 5) eNil))) [5])))) bNil)) (bSeq (bSet 1 (eVarL 3)) bNil)))) (bSeq (bRet (eVar 1)) bNil)))
noncomputable def F__law_all_lengths : Fn := fnOf 1 6 b__law_all_lengths
/-! ### _law_union -/
abbrev s__law_union : Stmt := topS 20
abbrev n__law_union : List Str := ["_law_orders_here", "_law_lengths", "_law_found", "_law_order", "_law_length", "_law_row"]
theorem sc__law_union : FnScope n__law_union ["_law_orders_here", "_law_lengths"] (defScope s__law_union) := ⟨rfl, rfl, rfl, by decide +kernel, rfl, by decide +kernel, by decide +kernel⟩
noncomputable def b__law_union : Mo Out := (bSeq (bSetF 2 fNewD) (bSeq (bFor (iMap zipF (eCons (eVar 0) (eCons (eVar 1) eNil))) (gT 2 (gsCons (gN 3) (gsCons (gN 4) gsNil))) (bSeq (bFor (iSeq (eSl (eVar 3) pNo (pSo (eVar 4)))) (gN 5) (bSeq (bSetK 2 (eC (.bool true)) (eVar 5)) bNil)) bNil)) (bSeq (bRet (eN tupleD (eCons (eLock (fN sortedD (eCons (eVar 2) eNil))) eNil))) bNil)))
noncomputable def F__law_union : Fn := fnOf 2 6 b__law_union
/-! ### _law_is_normal -/
abbrev s__law_is_normal : Stmt := topS 22
abbrev n__law_is_normal : List Str := ["_law_orders_here", "_law_lengths", "_law_union_here", "_law_place", "_law_order", "_law_length"]
theorem sc__law_is_normal : FnScope n__law_is_normal ["_law_orders_here", "_law_lengths"] (defScope s__law_is_normal) := ⟨rfl, rfl, rfl, by decide +kernel, rfl, by decide +kernel, by decide +kernel⟩
noncomputable def b__law_is_normal : Mo Out := (bSeq (bSet 2 (eCall F__law_union (eCons (eVar 0) (eCons (eVar 1) eNil)))) (bSeq (bFor (iMap enF (eCons (eVar 0) eNil)) (gT 2 (gsCons (gN 3) (gsCons (gN 4) gsNil))) (bSeq (bFor (iN range2D (eCons (e2 addD (e2 ixD (eVar 1) (eVar 3)) (eC (.int 1))) (eCons (e2 addD (eN lenD (eCons (eVar 4) eNil)) (eC (.int 1))) eNil))) (gN 5) (bSeq (bIf (asB (e2 eqF (eCall F__law_union (eCons (eVar 0) (eCons (e2 addD (e2 addD (eSl (eVar 1) pNo (pSo (eVar 3))) (eTup (eCons (eVar 5) eNil))) (eSl (eVar 1) (pSo (e2 addD (eVar 3) (eC (.int 1)))) pNo)) eNil))) (eVar 2))) (bSeq (bRet (eC (.bool false))) bNil) bNil) bNil)) bNil)) (bSeq (bRet (eC (.bool true))) bNil)))
noncomputable def F__law_is_normal : Fn := fnOf 2 6 b__law_is_normal
/-! ### prefix_length -/
abbrev s_prefix_length : Stmt := topS 6
abbrev n_prefix_length : List Str := ["version", "live", "rows", "place", "row"]
theorem sc_prefix_length : FnScope n_prefix_length ["version", "live", "rows"] (defScope s_prefix_length) := ⟨rfl, rfl, rfl, by decide +kernel, rfl, by decide +kernel, by decide +kernel⟩
noncomputable def b_prefix_length : Mo Out := (bSeq (bFor (iMap enF (eCons (eVar 0) eNil)) (gT 2 (gsCons (gN 3) (gsCons (gN 4) gsNil))) (bSeq (bIf (bAnd (asB (e2 ninF (eVar 4) (eVar 2))) (asB (e2 inF (eVar 4) (eVar 1)))) (bSeq (bRet (eVar 3)) bNil) bNil) bNil)) (bSeq (bRet (eN lenD (eCons (eVar 0) eNil))) bNil))
noncomputable def F_prefix_length : Fn := fnOf 3 5 b_prefix_length
/-! ### encode_state -/
abbrev s_encode_state : Stmt := topS 8
abbrev n_encode_state : List Str := ["orders", "rows", "order"]
theorem sc_encode_state : FnScope n_encode_state ["orders", "rows"] (defScope s_encode_state) := ⟨rfl, rfl, rfl, by decide +kernel, rfl, by decide +kernel, by decide +kernel⟩
noncomputable def b_encode_state : Mo Out := (bSeq (bRet (eN tupleD (eCons (eLock (fComp (iSeq (eVar 0)) (gN 2) bYes (eCall F_prefix_length (eCons (eVar 2) (eCons (eVar 2) (eCons (eVar 1) eNil)))) [2])) eNil))) bNil)
noncomputable def F_encode_state : Fn := fnOf 2 3 b_encode_state
/-! ### union_of -/
abbrev s_union_of : Stmt := topS 11
abbrev n_union_of : List Str := ["groups", "rows", "row"]
theorem sc_union_of : FnScope n_union_of ["groups"] (defScope s_union_of) := ⟨rfl, rfl, rfl, by decide +kernel, rfl, by decide +kernel, by decide +kernel⟩
noncomputable def b_union_of : Mo Out := (bSeq (bRet (eN tupleD (eCons (eLock (fSc2 (iSeq (eVar 0)) (gN 1) (iSeq (eVar 1)) (gN 2) (eVar 2) [1, 2] [2])) eNil))) bNil)
noncomputable def F_union_of : Fn := fnOf 1 3 b_union_of
/-! ### is_integer_within -/
abbrev s_is_integer_within : Stmt := topS 4
abbrev n_is_integer_within : List Str := ["value", "low", "high"]
theorem sc_is_integer_within : FnScope n_is_integer_within ["value", "low", "high"] (defScope s_is_integer_within) := ⟨rfl, rfl, rfl, by decide +kernel, rfl, by decide +kernel, by decide +kernel⟩
noncomputable def b_is_integer_within : Mo Out := (bSeq (bIf (bOr (asB (e1 (isiD "bool") (eVar 0))) (bNot (asB (e1 (isiD "int") (eVar 0))))) (bSeq (bRet (eC (.bool false))) bNil) bNil) (bSeq (bRet (eChain leD leD (eVar 1) (eVar 0) (eVar 2))) bNil))
noncomputable def F_is_integer_within : Fn := fnOf 3 3 b_is_integer_within
/-! ### is_token -/
abbrev s_is_token : Stmt := topS 10
abbrev n_is_token : List Str := ["orders", "value", "order", "many"]
theorem sc_is_token : FnScope n_is_token ["orders", "value"] (defScope s_is_token) := ⟨rfl, rfl, rfl, by decide +kernel, rfl, by decide +kernel, by decide +kernel⟩
noncomputable def b_is_token : Mo Out := (bSeq (bIf (bOr (bNot (asB (e1 (isiD "tuple") (eVar 1)))) (asB (e2 neF (eN lenD (eCons (eVar 1) eNil)) (eN lenD (eCons (eVar 0) eNil))))) (bSeq (bRet (eC (.bool false))) bNil) bNil) (bSeq (bRet (eN allD (eCons (eLock (fComp (iMap zipF (eCons (eVar 0) (eCons (eVar 1) eNil))) (gT 2 (gsCons (gN 2) (gsCons (gN 3) gsNil))) bYes (eCall F_is_integer_within (eCons (eVar 3) (eCons (eC (.int 0)) (eCons (eN lenD (eCons (eVar 2) eNil)) eNil)))) [2, 3])) eNil))) bNil))
noncomputable def F_is_token : Fn := fnOf 2 4 b_is_token
/-! ### decode_token -/
abbrev s_decode_token : Stmt := topS 9
abbrev n_decode_token : List Str := ["orders", "token", "order", "many"]
theorem sc_decode_token : FnScope n_decode_token ["orders", "token"] (defScope s_decode_token) := ⟨rfl, rfl, rfl, by decide +kernel, rfl, by decide +kernel, by decide +kernel⟩
noncomputable def b_decode_token : Mo Out := (bSeq (bIf (bNot (asB (eCall F_is_token (eCons (eVar 0) (eCons (eVar 1) eNil))))) (bSeq (bRaise "BadToken" "token" (eCons (eVar 1) eNil)) bNil) bNil) (bSeq (bRet (eCall F_union_of (eCons (eLock (fComp (iMap zipF (eCons (eVar 0) (eCons (eVar 1) eNil))) (gT 2 (gsCons (gN 2) (gsCons (gN 3) gsNil))) bYes (eSl (eVar 2) pNo (pSo (eVar 3))) [2, 3])) eNil))) bNil))
noncomputable def F_decode_token : Fn := fnX 2 4 b_decode_token
/-! ### normalize_token -/
abbrev s_normalize_token : Stmt := topS 12
abbrev n_normalize_token : List Str := ["orders", "token"]
theorem sc_normalize_token : FnScope n_normalize_token ["orders", "token"] (defScope s_normalize_token) := ⟨rfl, rfl, rfl, by decide +kernel, rfl, by decide +kernel, by decide +kernel⟩
noncomputable def b_normalize_token : Mo Out := (bSeq (bRet (eCall F_encode_state (eCons (eVar 0) (eCons (eCallX F_decode_token (eCons (eVar 0) (eCons (eVar 1) eNil))) eNil)))) bNil)
noncomputable def F_normalize_token : Fn := fnX 2 2 b_normalize_token
/-! ### _law_right -/
abbrev s__law_right : Stmt := topS 23
abbrev n__law_right : List Str := ["_law_orders_here", "_law_tokens", "_law_normal", "_law_lengths", "_law_union_here", "_law_due"]
theorem sc__law_right : FnScope n__law_right ["_law_orders_here"] (defScope s__law_right) := ⟨rfl, rfl, rfl, by decide +kernel, rfl, by decide +kernel, by decide +kernel⟩
noncomputable def b__law_right : Mo Out := (bSeq (bSet 1 (eCall F__law_all_lengths (eCons (eVar 0) eNil))) (bSeq (bSetF 2 fNewT0) (bSeq (bFor (iSeq (eVar 1)) (gN 3) (bSeq (bIf (asB (eCall F__law_is_normal (eCons (eVar 0) (eCons (eVar 3) eNil)))) (bSeq (bEx (eSdA 2 (eCall F__law_union (eCons (eVar 0) (eCons (eVar 3) eNil))) 3)) bNil) bNil) bNil)) (bSeq (bFor (iSeq (eVar 1)) (gN 3) (bSeq (bSet 4 (eCall F__law_union (eCons (eVar 0) (eCons (eVar 3) eNil)))) (bSeq (bSet 5 (eGetT 2 (eVar 4))) (bSeq (bIf (bOr (asB (e2 neF (eN lenD (eCons (eVar 5) eNil)) (eC (.int 1)))) (asB (e2 neF (eN reprD (eCons (eCallX F_normalize_token (eCons (eVar 0) (eCons (eVar 3) eNil))) eNil)) (eN reprD (eCons (e2 ixD (eVar 5) (eC (.int 0))) eNil))))) (bSeq (bRet (eC (.bool false))) bNil) bNil) (bSeq (bIf (bOr (asB (e2 neF (eCall F_encode_state (eCons (eVar 0) (eCons (eVar 4) eNil))) (e2 ixD (eVar 5) (eC (.int 0))))) (asB (e2 neF (eCallX F_normalize_token (eCons (eVar 0) (eCons (e2 ixD (eVar 5) (eC (.int 0))) eNil))) (e2 ixD (eVar 5) (eC (.int 0)))))) (bSeq (bRet (eC (.bool false))) bNil) bNil) bNil))))) (bSeq (bRet (eC (.bool true))) bNil)))))
noncomputable def F__law_right : Fn := fnOf 1 6 b__law_right
/-! ### _law_take -/
abbrev s__law_take : Stmt := topS 16
abbrev n__law_take : List Str := ["_law_hand_here", "_law_many", "_law_digit", "_law_turn", "_law_prime", "_law_mixed"]
theorem sc__law_take : FnScope n__law_take ["_law_hand_here", "_law_many"] (defScope s__law_take) := ⟨rfl, rfl, rfl, by decide +kernel, rfl, by decide +kernel, by decide +kernel⟩
noncomputable def b__law_take : Mo Out := (bSeq (bIf (asB (e2 gtD (e2 ixD (eVar 0) (eC (.int 0))) (eC (.int 0)))) (bSeq (bSet 2 (e2 modD (e2 ixD (eVar 0) (eC (.int 0))) (eVar 1))) (bSeq (bSetIx 0 (e2 fdivD (e2 ixD (eVar 0) (eC (.int 0))) (eVar 1)) (eC (.int 0))) (bSeq (bRet (eVar 2)) bNil))) bNil) (bSeq (bSetIx 0 (e2 addD (e2 ixD (eVar 0) (eC (.int 2))) (eC (.int 1))) (eC (.int 2))) (bSeq (bSet 3 (e2 ixD (eVar 0) (eC (.int 2)))) (bSeq (bSet 4 (e2 ixD (eLock (fLst (eCons (eC (.int 2147483647)) (eCons (eC (.int 2147483629)) (eCons (eC (.int 2147483587)) (eCons (eC (.int 2147483579)) (eCons (eC (.int 2147483563)) (eCons (eC (.int 2147483549)) eNil)))))))) (e2 modD (eVar 3) (eC (.int 6))))) (bSeq (bSet 5 (e2 modD (e2 powD (e2 addD (e2 addD (e2 ixD (eVar 0) (eC (.int 1))) (e2 mulA (e2 mulA (eC (.int 65537)) (eVar 3)) (eVar 3))) (e2 mulA (eC (.int 31)) (eVar 3))) (eC (.int 3))) (eVar 4))) (bSeq (bRet (e2 modD (e2 fdivD (e2 modD (e2 mulA (eVar 5) (e2 addD (e2 modD (eVar 5) (eC (.int 10007))) (e2 mulA (eC (.int 13)) (eVar 3)))) (eC (.int 2305843009213693907))) (eC (.int 97))) (eVar 1))) bNil))))))
noncomputable def F__law_take : Fn := fnOf 2 6 b__law_take
/-! ### _law_shuffled -/
abbrev s__law_shuffled : Stmt := topS 18
abbrev n__law_shuffled : List Str := ["_law_hand_here", "_law_items", "_law_rest", "_law_found"]
theorem sc__law_shuffled : FnScope n__law_shuffled ["_law_hand_here", "_law_items"] (defScope s__law_shuffled) := ⟨rfl, rfl, rfl, by decide +kernel, rfl, by decide +kernel, by decide +kernel⟩
noncomputable def b__law_shuffled : Mo Out := (bSeq (bPar 2 3 (.ff (fN listD (eCons (eVar 1) eNil))) (.ff (fLst eNil))) (bSeq (whileD (asB (e2 neF (eVar 2) (eLock (fLst eNil)))) (bSeq (bEx (eMut appF 3 (eCons (eMut popF 2 (eCons (eCall F__law_take (eCons (eVar 0) (eCons (eN lenD (eCons (eVar 2) eNil)) eNil))) eNil)) eNil))) bNil) 1000) (bSeq (bRet (eVar 3)) bNil)))
noncomputable def F__law_shuffled : Fn := fnOf 2 4 b__law_shuffled
/-! ### _law_orders -/
abbrev s__law_orders : Stmt := topS 19
abbrev n__law_orders : List Str := ["_law_hand_here", "_law_most", "_law_rows", "_law_found", "_law_turn", "_law_order"]
theorem sc__law_orders : FnScope n__law_orders ["_law_hand_here", "_law_most", "_law_rows"] (defScope s__law_orders) := ⟨rfl, rfl, rfl, by decide +kernel, rfl, by decide +kernel, by decide +kernel⟩
noncomputable def b__law_orders : Mo Out := (bSeq (bSetF 3 (fLst eNil)) (bSeq (bFor (iN range1D (eCons (eCall F__law_take (eCons (eVar 0) (eCons (e2 addD (eVar 1) (eC (.int 1))) eNil))) eNil)) (gN 4) (bSeq (bSet 5 (eLock (fCall F__law_shuffled (eCons (eVar 0) (eCons (eVar 2) eNil))))) (bSeq (bEx (eMut appF 3 (eCons (eN tupleD (eCons (eLock (fSl (eVar 5) pNo (pSo (eCall F__law_take (eCons (eVar 0) (eCons (e2 addD (eN lenD (eCons (eVar 5) eNil)) (eC (.int 1))) eNil)))))) eNil)) eNil))) bNil))) (bSeq (bRet (eN tupleD (eCons (eVar 3) eNil))) bNil)))
noncomputable def F__law_orders : Fn := fnOf 3 6 b__law_orders
/-! ### _law_pick -/
abbrev s__law_pick : Stmt := topS 14
abbrev n__law_pick : List Str := ["_law_hand_here", "_law_items"]
theorem sc__law_pick : FnScope n__law_pick ["_law_hand_here", "_law_items"] (defScope s__law_pick) := ⟨rfl, rfl, rfl, by decide +kernel, rfl, by decide +kernel, by decide +kernel⟩
noncomputable def b__law_pick : Mo Out := (bSeq (bRet (e2 ixD (eVar 1) (eCall F__law_take (eCons (eVar 0) (eCons (eN lenD (eCons (eVar 1) eNil)) eNil))))) bNil)
noncomputable def F__law_pick : Fn := fnOf 2 2 b__law_pick
/-! ### _law_names -/
abbrev s__law_names : Stmt := topS 17
abbrev n__law_names : List Str := ["_law_hand_here", "_law_count", "_law_letters", "_law_first", "_law_leap", "_law_stem", "_law_cut", "_law_nth"]
theorem sc__law_names : FnScope n__law_names ["_law_hand_here", "_law_count"] (defScope s__law_names) := ⟨rfl, rfl, rfl, by decide +kernel, rfl, by decide +kernel, by decide +kernel⟩
noncomputable def b__law_names : Mo Out := (bSeq (bSet 2 (eC (.str abcS))) (bSeq (bAsg (eTup (eCons (eCall F__law_take (eCons (eVar 0) (eCons (eC (.int 26)) eNil))) (eCons (eCall F__law_pick (eCons (eVar 0) (eCons (eLock (fLst (eCons (eC (.int 1)) (eCons (eC (.int 3)) (eCons (eC (.int 5)) (eCons (eC (.int 7)) (eCons (eC (.int 9)) (eCons (eC (.int 11)) (eCons (eC (.int 25)) eNil))))))))) eNil))) eNil))) (gT 2 (gsCons (gN 3) (gsCons (gN 4) gsNil)))) (bSeq (bSet 5 (e2 mulA (eCall F__law_pick (eCons (eVar 0) (eCons (eVar 2) eNil))) (eCall F__law_pick (eCons (eVar 0) (eCons (eLock (fLst (eCons (eC (.int 0)) (eCons (eC (.int 0)) (eCons (eC (.int 1)) (eCons (eC (.int 3)) (eCons (eC (.int 7)) eNil))))))) eNil))))) (bSeq (bSet 6 (eCall F__law_take (eCons (eVar 0) (eCons (e2 addD (eN lenD (eCons (eVar 5) eNil)) (eC (.int 1))) eNil)))) (bSeq (bRetF (fComp (iN range1D (eCons (eVar 1) eNil)) (gN 7) bYes (e2 addD (e2 addD (eSl (eVar 5) pNo (pSo (eVar 6))) (e2 ixD (eVar 2) (e2 modD (e2 addD (eVar 3) (e2 mulA (eVar 4) (eVar 7))) (eC (.int 26))))) (eSl (eVar 5) (pSo (eVar 6)) pNo)) [7])) bNil)))))
noncomputable def F__law_names : Fn := fnOf 2 8 b__law_names
/-! ### law -/
abbrev s_law : Stmt := topS 24
abbrev n_law : List Str := ["_law_script", "_law_k", "_law_hand_here", "_law_turn"]
theorem sc_law : FnScope n_law ["_law_script"] (defScope s_law) := ⟨rfl, rfl, rfl, by decide +kernel, rfl, by decide +kernel, by decide +kernel⟩
noncomputable def b_law : Mo Out := (bSeq (bFor (iN range1D (eCons (eN max2D (eCons (eC (.int 1)) (eCons (eN min2D (eCons (eC (.int 3)) (eCons (eN lenD (eCons (eVar 0) eNil)) eNil))) eNil))) eNil)) (gN 1) (bSeq (bSetF 2 (fCall F__law_hand (eCons (eVar 0) (eCons (eVar 1) eNil)))) (bSeq (bFor (iN range1D (eCons (eC (.int 4)) eNil)) (gN 3) (bSeq (bIf (bNot (asB (eCall F__law_right (eCons (eCall F__law_orders (eCons (eVar 2) (eCons (eC (.int 3)) (eCons (eLock (fCall F__law_names (eCons (eVar 2) (eCons (e2 addD (eC (.int 1)) (eCall F__law_take (eCons (eVar 2) (eCons (eC (.int 4)) eNil)))) eNil)))) eNil)))) eNil)))) (bSeq (bRet (eC (.bool false))) bNil) bNil) bNil)) bNil))) (bSeq (bRet (eC (.bool true))) bNil))
noncomputable def F_law : Fn := fnOf 1 4 b_law
structure Txt0 (K : PySem.W.Frag) (mg : Str → Option Value) (f__law_hand f__law_all_lengths f__law_union f__law_is_normal f_prefix_length f_encode_state f_union_of f_is_integer_within f_is_token f_decode_token f_normalize_token f__law_right f__law_take f__law_shuffled f__law_orders f__law_pick f__law_names f_law c_PagesError c_BadToken i_BadToken : Addr) (e__law_hand e__law_all_lengths e__law_union e__law_is_normal e_prefix_length e_encode_state e_union_of e_is_integer_within e_is_token e_decode_token e_normalize_token e__law_right e__law_take e__law_shuffled e__law_orders e__law_pick e__law_names e_law j_BadToken : FuncData) : Prop where
  d__law_hand : Fun K "_law_hand" "_law_hand" s__law_hand f__law_hand e__law_hand
  b__law_hand : Binds K e__law_hand ["_law_script", "_law_k"] []
  g__law_hand : mg "_law_hand" = some (.ref f__law_hand)
  d__law_all_lengths : Fun K "_law_all_lengths" "_law_all_lengths" s__law_all_lengths f__law_all_lengths e__law_all_lengths
  b__law_all_lengths : Binds K e__law_all_lengths ["_law_orders_here"] []
  g__law_all_lengths : mg "_law_all_lengths" = some (.ref f__law_all_lengths)
  d__law_union : Fun K "_law_union" "_law_union" s__law_union f__law_union e__law_union
  b__law_union : Binds K e__law_union ["_law_orders_here", "_law_lengths"] []
  g__law_union : mg "_law_union" = some (.ref f__law_union)
  d__law_is_normal : Fun K "_law_is_normal" "_law_is_normal" s__law_is_normal f__law_is_normal e__law_is_normal
  b__law_is_normal : Binds K e__law_is_normal ["_law_orders_here", "_law_lengths"] []
  g__law_is_normal : mg "_law_is_normal" = some (.ref f__law_is_normal)
  d_prefix_length : Fun K "prefix_length" "prefix_length" s_prefix_length f_prefix_length e_prefix_length
  b_prefix_length : Binds K e_prefix_length ["version", "live", "rows"] []
  g_prefix_length : mg "prefix_length" = some (.ref f_prefix_length)
  d_encode_state : Fun K "encode_state" "encode_state" s_encode_state f_encode_state e_encode_state
  b_encode_state : Binds K e_encode_state ["orders", "rows"] []
  g_encode_state : mg "encode_state" = some (.ref f_encode_state)
  d_union_of : Fun K "union_of" "union_of" s_union_of f_union_of e_union_of
  b_union_of : Binds K e_union_of ["groups"] []
  g_union_of : mg "union_of" = some (.ref f_union_of)
  d_is_integer_within : Fun K "is_integer_within" "is_integer_within" s_is_integer_within f_is_integer_within e_is_integer_within
  b_is_integer_within : Binds K e_is_integer_within ["value", "low", "high"] []
  g_is_integer_within : mg "is_integer_within" = some (.ref f_is_integer_within)
  d_is_token : Fun K "is_token" "is_token" s_is_token f_is_token e_is_token
  b_is_token : Binds K e_is_token ["orders", "value"] []
  g_is_token : mg "is_token" = some (.ref f_is_token)
  d_decode_token : Fun K "decode_token" "decode_token" s_decode_token f_decode_token e_decode_token
  b_decode_token : Binds K e_decode_token ["orders", "token"] []
  g_decode_token : mg "decode_token" = some (.ref f_decode_token)
  d_normalize_token : Fun K "normalize_token" "normalize_token" s_normalize_token f_normalize_token e_normalize_token
  b_normalize_token : Binds K e_normalize_token ["orders", "token"] []
  g_normalize_token : mg "normalize_token" = some (.ref f_normalize_token)
  d__law_right : Fun K "_law_right" "_law_right" s__law_right f__law_right e__law_right
  b__law_right : Binds K e__law_right ["_law_orders_here"] []
  g__law_right : mg "_law_right" = some (.ref f__law_right)
  d__law_take : Fun K "_law_take" "_law_take" s__law_take f__law_take e__law_take
  b__law_take : Binds K e__law_take ["_law_hand_here", "_law_many"] []
  g__law_take : mg "_law_take" = some (.ref f__law_take)
  d__law_shuffled : Fun K "_law_shuffled" "_law_shuffled" s__law_shuffled f__law_shuffled e__law_shuffled
  b__law_shuffled : Binds K e__law_shuffled ["_law_hand_here", "_law_items"] []
  g__law_shuffled : mg "_law_shuffled" = some (.ref f__law_shuffled)
  d__law_orders : Fun K "_law_orders" "_law_orders" s__law_orders f__law_orders e__law_orders
  b__law_orders : Binds K e__law_orders ["_law_hand_here", "_law_most", "_law_rows"] []
  g__law_orders : mg "_law_orders" = some (.ref f__law_orders)
  d__law_pick : Fun K "_law_pick" "_law_pick" s__law_pick f__law_pick e__law_pick
  b__law_pick : Binds K e__law_pick ["_law_hand_here", "_law_items"] []
  g__law_pick : mg "_law_pick" = some (.ref f__law_pick)
  d__law_names : Fun K "_law_names" "_law_names" s__law_names f__law_names e__law_names
  b__law_names : Binds K e__law_names ["_law_hand_here", "_law_count"] []
  g__law_names : mg "_law_names" = some (.ref f__law_names)
  d_law : Fun K "law" "law" s_law f_law e_law
  b_law : Binds K e_law ["_law_script"] []
  g_law : mg "law" = some (.ref f_law)
  m_len : mg "len" = none
  m_abs : mg "abs" = none
  m_int : mg "int" = none
  m_range : mg "range" = none
  m_list : mg "list" = none
  m_tuple : mg "tuple" = none
  m_repr : mg "repr" = none
  m_max : mg "max" = none
  m_min : mg "min" = none
  m_sorted : mg "sorted" = none
  m_isinstance : mg "isinstance" = none
  m_bool : mg "bool" = none
  m_all : mg "all" = none
  m_enumerate : mg "enumerate" = none
  m_zip : mg "zip" = none
  eb : ExcB K
  x_BadToken : ExcT K mg "BadToken" "token" c_BadToken i_BadToken
  di_BadToken : Fun K "__init__" "BadToken.__init__" s_i_BadToken i_BadToken j_BadToken
  bi_BadToken : Binds K j_BadToken ["self", "token"] []
  i_BadToken : ∀ (P : Program) (w : World) (base : Heap), FnOk P w K mg base (L2.CX P w) 1 i_BadToken j_BadToken ["self", "token"] (spIni c_BadToken "token")
noncomputable def b__law_changed : Mo Out := (bSeq (bPar 3 4 (.dd (eCall F__law_take (eCons (eVar 0) (eCons (eC (.int 10)) eNil)))) (.ff (fN listD (eCons (eVar 1) eNil)))) (bSeq (bIf (bAnd (asB (e2 eqF (eVar 3) (eC (.int 0)))) (bAnd (asB (e2 neF (eVar 2) (eLock (fLst eNil)))) (asB (e2 ltD (eN lenD (eCons (eVar 4) eNil)) (eC (.int 24)))))) (bSeq (bEx (eMut insF 4 (eCons (eCall F__law_take (eCons (eVar 0) (eCons (e2 addD (eN lenD (eCons (eVar 4) eNil)) (eC (.int 1))) eNil))) (eCons (eMut popF 2 (eCons (eC (.int 0)) eNil)) eNil)))) bNil) (bSeq (bIf (bAnd (asB (e2 eqF (eVar 3) (eC (.int 1)))) (asB (e2 neF (eVar 4) (eLock (fLst eNil))))) (bSeq (bEx (eMut popF 4 (eCons (eCall F__law_take (eCons (eVar 0) (eCons (eN lenD (eCons (eVar 4) eNil)) eNil))) eNil))) bNil) (bSeq (bIf (asB (e2 eqF (eVar 3) (eC (.int 2)))) (bSeq (bSetF 4 (fRev (eVar 4))) bNil) (bSeq (bIf (asB (e2 neF (eVar 4) (eLock (fLst eNil)))) (bSeq (bSet 5 (eMut popF 4 (eCons (eCall F__law_take (eCons (eVar 0) (eCons (eN lenD (eCons (eVar 4) eNil)) eNil))) eNil))) (bSeq (bEx (eMut insF 4 (eCons (eCall F__law_pick (eCons (eVar 0) (eCons (eLock (fLst (eCons (eC (.int 0)) (eCons (eCall F__law_take (eCons (eVar 0) (eCons (e2 addD (eN lenD (eCons (eVar 4) eNil)) (eC (.int 1))) eNil))) (eCons (eN lenD (eCons (eVar 4) eNil)) eNil))))) eNil))) (eCons (eVar 5) eNil)))) bNil)) bNil) bNil)) bNil)) bNil)) (bSeq (bRet (eN tupleD (eCons (eVar 4) eNil))) bNil)))
noncomputable def F__law_changed : Fn := fnOf 3 6 b__law_changed
noncomputable def b__law_history : Mo Out := (bSeq (bSet 3 (eLock (fCall F__law_names (eCons (eVar 0) (eCons (eN min2D (eCons (eC (.int 24)) (eCons (e2 addD (eVar 1) (eC (.int 4))) eNil))) eNil))))) (bSeq (bSet 4 (eCall F__law_take (eCons (eVar 0) (eCons (e2 addD (eVar 1) (eC (.int 1))) eNil)))) (bSeq (bPar 5 6 (.ff (fLst (eCons (eN tupleD (eCons (eLock (fCall F__law_shuffled (eCons (eVar 0) (eCons (eLock (fSl (eVar 3) pNo (pSo (eVar 4)))) eNil)))) eNil)) eNil))) (.ff (fSl (eVar 3) (pSo (eVar 4)) pNo))) (bSeq (bFor (iN range1D (eCons (eCall F__law_take (eCons (eVar 0) (eCons (eVar 2) eNil))) eNil)) (gN 7) (bSeq (bEx (eMut appF 5 (eCons (eCall F__law_changed (eCons (eVar 0) (eCons (e2 ixD (eVar 5) (e1 negD (eC (.int 1)))) (eCons (eVar 6) eNil)))) eNil))) bNil)) (bSeq (bRet (eN tupleD (eCons (eVar 5) eNil))) bNil)))))
noncomputable def F__law_history : Fn := fnOf 3 8 b__law_history
noncomputable def b_live_rows : Mo Out := (bSeq (bRet (eN tupleD (eCons (eLock (fN sortedD (eCons (e2 ixD (eVar 0) (e1 negD (eC (.int 1)))) eNil))) eNil))) bNil)
noncomputable def F_live_rows : Fn := fnOf 1 1 b_live_rows
noncomputable def b_live_rows_among : Mo Out := (bSeq (bRet (eN tupleD (eCons (eLock (fComp (iSeq (eCall F_live_rows (eCons (eVar 0) eNil))) (gN 2) (asB (e2 inF (eVar 2) (eVar 1))) (eVar 2) [2])) eNil))) bNil)
noncomputable def F_live_rows_among : Fn := fnOf 2 3 b_live_rows_among
noncomputable def b_is_row_set : Mo Out := (bSeq (bRet (eAnd (e1 (isiD "tuple") (eVar 1)) (e2 eqF (eVar 1) (eCall F_live_rows_among (eCons (eVar 0) (eCons (eVar 1) eNil)))))) bNil)
noncomputable def F_is_row_set : Fn := fnOf 2 2 b_is_row_set
noncomputable def b_prefix_lengths : Mo Out := (bSeq (bRet (eN tupleD (eCons (eLock (fComp (iSeq (eVar 0)) (gN 2) bYes (eCall F_prefix_length (eCons (eVar 2) (eCons (e2 ixD (eVar 0) (e1 negD (eC (.int 1)))) (eCons (eVar 1) eNil)))) [2])) eNil))) bNil)
noncomputable def F_prefix_lengths : Fn := fnOf 2 3 b_prefix_lengths
noncomputable def b_prefixes_within : Mo Out := (bSeq (bRetF (fComp (iMap zipF (eCons (eVar 0) (eCons (eCall F_prefix_lengths (eCons (eVar 0) (eCons (eVar 1) eNil))) eNil))) (gT 2 (gsCons (gN 2) (gsCons (gN 3) gsNil))) bYes (eSl (eVar 2) pNo (pSo (eVar 3))) [2, 3])) bNil)
noncomputable def F_prefixes_within : Fn := fnOf 2 4 b_prefixes_within
noncomputable def b_first_support : Mo Out := (bSeq (bFor (iMap enF (eCons (eVar 0) eNil)) (gT 2 (gsCons (gN 2) (gsCons (gN 3) gsNil))) (bSeq (bIf (asB (e2 inF (eVar 1) (eVar 3))) (bSeq (bRet (eVar 2)) bNil) bNil) bNil)) (bSeq (bRet (eC .none)) bNil))
noncomputable def F_first_support : Fn := fnOf 2 4 b_first_support
noncomputable def b_find_supports : Mo Out := (bSeq (bSet 2 (eLock (fCall F_prefixes_within (eCons (eVar 0) (eCons (eVar 1) eNil))))) (bSeq (bSet 3 (eLock (fComp (iSeq (eVar 1)) (gN 4) bYes (eCall F_first_support (eCons (eVar 2) (eCons (eVar 4) eNil))) [4]))) (bSeq (bIf (asB (e2 inF (eC .none) (eVar 3))) (bSeq (bRet (eC .none)) bNil) bNil) (bSeq (bRet (eN tupleD (eCons (eVar 3) eNil))) bNil))))
noncomputable def F_find_supports : Fn := fnOf 2 5 b_find_supports
noncomputable def b_is_reachable : Mo Out := (bSeq (bRet (eAnd (eCall F_is_row_set (eCons (eVar 0) (eCons (eVar 1) eNil))) (e2 notND (eCall F_find_supports (eCons (eVar 0) (eCons (eVar 1) eNil))) (eC .none)))) bNil)
noncomputable def F_is_reachable : Fn := fnOf 2 2 b_is_reachable
noncomputable def b__law_flat : Mo Out := (bSeq (bSetF 1 (fLst eNil)) (bSeq (bFor (iSeq (eVar 0)) (gN 2) (bSeq (bEx (eExt 1 (eVar 2))) bNil)) (bSeq (bRet (eVar 1)) bNil)))
noncomputable def F__law_flat : Fn := fnOf 1 3 b__law_flat
noncomputable def b__law_prefixes : Mo Out := (bSeq (bSetF 1 (fLst (eCons (eTup eNil) eNil))) (bSeq (bFor (iSeq (eVar 0)) (gN 2) (bSeq (bSet 3 (eLock (fComp (iSeq (eVar 2)) (gN 4) (asB (e2 inF (eVar 4) (e2 ixD (eVar 0) (e1 negD (eC (.int 1)))))) (eVar 4) [4]))) (bSeq (bEx (eExt 1 (eLock (fComp (iN range2D (eCons (eC (.int 1)) (eCons (e2 addD (eN lenD (eCons (eVar 3) eNil)) (eC (.int 1))) eNil))) (gN 5) bYes (eN tupleD (eCons (eLock (fSl (eVar 3) pNo (pSo (eVar 5)))) eNil)) [5])))) bNil))) (bSeq (bRet (eVar 1)) bNil)))
noncomputable def F__law_prefixes : Fn := fnOf 1 6 b__law_prefixes
noncomputable def b__law_greatest : Mo Out := (bSeq (bSet 2 (eLock (fComp (iSeq (eVar 0)) (gN 3) (asB (eN allD (eCons (eLock (fComp (iSeq (eVar 3)) (gN 4) bYes (e2 inF (eVar 4) (eVar 1)) [4])) eNil))) (eVar 3) [3]))) (bSeq (bRet (eN tupleD (eCons (eLock (fN sortedD (eCons (eLock (fDict (eCons (eLock (fComp (iSeq (eLock (fCall F__law_flat (eCons (eVar 2) eNil)))) (gN 4) bYes (eTup (eCons (eVar 4) (eCons (eC (.bool true)) eNil))) [4])) eNil))) eNil))) eNil))) bNil))
noncomputable def F__law_greatest : Fn := fnOf 2 5 b__law_greatest
noncomputable def b__law_some_set : Mo Out := (bSeq (bSet 3 (eLock (fN sortedD (eCons (e2 ixD (eVar 1) (e1 negD (eC (.int 1)))) eNil)))) (bSeq (bAsg (eTup (eCons (eCall F__law_take (eCons (eVar 0) (eCons (eC (.int 4)) eNil))) (eCons (eLock (fComp (iN range1D (eCons (e2 addD (eC (.int 1)) (eCall F__law_take (eCons (eVar 0) (eCons (eC (.int 3)) eNil)))) eNil)) (gN 8) bYes (eCall F__law_pick (eCons (eVar 0) (eCons (eVar 2) eNil))) [8])) eNil))) (gT 2 (gsCons (gN 4) (gsCons (gN 5) gsNil)))) (bSeq (bSet 7 (eLock (fComp (iSeq (eVar 3)) (gN 6) (asB (e2 inF (eVar 6) (eLock (fCall F__law_flat (eCons (eVar 5) eNil))))) (eVar 6) [6]))) (bSeq (bIf (asB (e2 eqF (eVar 4) (eC (.int 0)))) (bSeq (bSet 7 (eLock (fComp (iSeq (eVar 3)) (gN 6) (asB (e2 eqF (eCall F__law_take (eCons (eVar 0) (eCons (eC (.int 2)) eNil))) (eC (.int 0)))) (eVar 6) [6]))) bNil) bNil) (bSeq (bIf (bAnd (asB (e2 gtD (eVar 4) (eC (.int 1)))) (asB (e2 neF (eVar 3) (eLock (fLst eNil))))) (bSeq (bSet 6 (eCall F__law_pick (eCons (eVar 0) (eCons (eVar 3) eNil)))) (bSeq (bSet 7 (eLock (fComp (iSeq (eVar 3)) (gN 9) (asB (e2 neF (e2 inF (eVar 9) (eVar 7)) (e2 eqF (eVar 9) (eVar 6)))) (eVar 9) [9]))) bNil)) bNil) (bSeq (bRet (eN tupleD (eCons (eVar 7) eNil))) bNil))))))
noncomputable def F__law_some_set : Fn := fnOf 3 10 b__law_some_set
end Z
namespace Z
open PySem PySem.Spec PyProof.Rows L2 Gd Q
/-! ### the hand -/
def HandOk (h : List D) (n : Nat) : Prop := ∃ g s t : Int, h = [.int g, .int s, .int t] ∧ 0 ≤ g ∧ 0 ≤ s ∧ s < 2305843009213693952 ∧ 0 ≤ t ∧ t ≤ n
theorem HandOk.up {h : List D} {n m : Nat} (x : HandOk h n) (l : n ≤ m) : HandOk h m := by
  obtain ⟨g, s, t, e, h1, h2, h3, h4, h5⟩ := x
  exact ⟨g, s, t, e, h1, h2, h3, h4, by omega⟩
theorem sq_bound {t : Int} (h0 : 0 ≤ t) (h1 : t ≤ 1000000) : 0 ≤ 65537 * t * t ∧ 65537 * t * t ≤ 65537000000000000 := by
  have a1 : 0 ≤ 65537 * t := by omega
  have a2 : 65537 * t ≤ 65537000000 := by omega
  have b1 : 0 ≤ 65537 * t * t := Int.mul_nonneg a1 h0
  have b2 : 65537 * t * t ≤ 65537000000 * 1000000 := Int.mul_le_mul a2 h1 h0 (by decide)
  exact ⟨b1, by omega⟩
theorem prime_at {i : Int} (h0 : 0 ≤ i) (h1 : i < 6) : ∃ p : Int, atI [PyData.int 2147483647, PyData.int 2147483629, PyData.int 2147483587, PyData.int 2147483579, PyData.int 2147483563, PyData.int 2147483549] i = some (PyData.int p) ∧ 0 < p ∧ p < 2147483648 := by
  obtain ⟨j, rfl⟩ := Int.eq_ofNat_of_zero_le h0
  have hj : j < 6 := by omega
  match j, hj with
  | 0, _ => exact ⟨_, atI_nat (j := 0) rfl, by decide, by decide⟩
  | 1, _ => exact ⟨_, atI_nat (j := 1) rfl, by decide, by decide⟩
  | 2, _ => exact ⟨_, atI_nat (j := 2) rfl, by decide, by decide⟩
  | 3, _ => exact ⟨_, atI_nat (j := 3) rfl, by decide, by decide⟩
  | 4, _ => exact ⟨_, atI_nat (j := 4) rfl, by decide, by decide⟩
  | 5, _ => exact ⟨_, atI_nat (j := 5) rfl, by decide, by decide⟩
theorem mid_of {i : Int} (h : -(2 ^ 64) < i ∧ i < 2 ^ 64) : mid i = true := cb_true h
theorem mulD_l {i j : Int} (h : -(2 ^ 64) < i ∧ i < 2 ^ 64) : mulA (.int i) (.int j) = some (.int (i * j)) := by
  show (if mulOk i j = true then some (PyData.int (i * j)) else none) = _
  unfold mulOk
  rw [mid_of h]
  rfl
theorem mulD_r {i j : Int} (h : -(2 ^ 64) < j ∧ j < 2 ^ 64) : mulA (.int i) (.int j) = some (.int (i * j)) := by
  show (if mulOk i j = true then some (PyData.int (i * j)) else none) = _
  unfold mulOk
  rw [mid_of h, Bool.or_true, Bool.true_or]
  rfl
theorem at0 {a b c : D} : atI [a, b, c] 0 = some a := atI_nat (j := 0) rfl
theorem at1 {a b c : D} : atI [a, b, c] 1 = some b := atI_nat (j := 1) rfl
theorem at2 {a b c : D} : atI [a, b, c] 2 = some c := atI_nat (j := 2) rfl
theorem ix0 : ixN 3 0 = some 0 := rfl
theorem ix2 : ixN 3 2 = some 2 := rfl
theorem take_spec {h : List D} {n : Nat} {m : Int} (hh : HandOk h n) (hn : n < 1000000) (m0 : 0 < m) (m1 : m < 1073741824) :
    ∃ (v : Int) (h' : List D), F__law_take [.own (.lst h), .dat (.int m)] = .ok (.dat (.int v)) [.own (.lst h'), .dat (.int m)] ∧ 0 ≤ v ∧ v < m ∧ HandOk h' (n + 1) := by
  obtain ⟨g, s, t, rfl, g0, s0, s1, t0, t1⟩ := hh
  by_cases hg : 0 < g
  · refine ⟨g % m, [.int (g.fdiv m), .int s, .int t], ?_, Int.emod_nonneg _ (by omega), Int.emod_lt_of_pos _ m0, g.fdiv m, s, t, rfl, ?_, s0, s1, t0, by omega⟩
    · have c := cb_true (p := m ≠ 0 ∧ m.natAbs < 1073741824) ⟨by omega, by omega⟩
      simp [F__law_take, fnOf, b__law_take, bSeq, bIf, asB, e2, eVar, eC, F2, look, Sl.ob, Ob.d, lift, ixD, at0, gtD, ordD, hg, Rt.bind, Rt.bnd, bSet, put, nxt, modD, m0, bSetIx, fdivD, c, setIx, ix0, bRet, fin]
    · rw [Int.fdiv_eq_ediv_of_nonneg g (by omega)]
      exact Int.ediv_nonneg g0 (by omega)
  · obtain ⟨p, hp, p0, p1⟩ := prime_at (i := (t + 1) % 6) (Int.emod_nonneg _ (by decide)) (Int.emod_lt_of_pos _ (by decide))
    have B := sq_bound (t := t + 1) (by omega) (by omega)
    have q1 := mulD_l (i := 65537) (j := t + 1) ⟨by decide, by decide⟩
    have q2 := mulD_r (i := 65537 * (t + 1)) (j := t + 1) ⟨by omega, by omega⟩
    have q3 := mulD_l (i := 31) (j := t + 1) ⟨by decide, by decide⟩
    have q4 : powD (.int (s + 65537 * (t + 1) * (t + 1) + 31 * (t + 1))) (.int 3) = some (.int ((s + 65537 * (t + 1) * (t + 1) + 31 * (t + 1)) ^ 3)) := by
      show (if cb ((0 : Int) ≤ 3 ∧ (3 : Int) ≤ 1000000 ∧ (s + 65537 * (t + 1) * (t + 1) + 31 * (t + 1)).natAbs < 2 ^ 64) = true then _ else _) = _
      rw [if_pos (cb_true ⟨by decide, by decide, by omega⟩)]
      rfl
    generalize hy : (s + 65537 * (t + 1) * (t + 1) + 31 * (t + 1)) ^ 3 = y at q4
    have x0 : 0 ≤ y % p := Int.emod_nonneg _ (by omega)
    have x1 : y % p < p := Int.emod_lt_of_pos _ p0
    have q5 := mulD_l (i := 13) (j := t + 1) ⟨by decide, by decide⟩
    have q6 := mulD_l (i := y % p) (j := y % p % 10007 + 13 * (t + 1)) ⟨by omega, by omega⟩
    refine ⟨(y % p * (y % p % 10007 + 13 * (t + 1)) % 2305843009213693907).fdiv 97 % m, [.int g, .int s, .int (t + 1)], ?_, Int.emod_nonneg _ (by omega), Int.emod_lt_of_pos _ m0, g, s, t + 1, rfl, g0, s0, s1, by omega, by omega⟩
    have c97 := cb_true (p := (97 : Int) ≠ 0 ∧ (97 : Int).natAbs < 1073741824) ⟨by decide, by decide⟩
    have sh : short [PyData.int 2147483647, PyData.int 2147483629, PyData.int 2147483587, PyData.int 2147483579, PyData.int 2147483563, PyData.int 2147483549] = some [PyData.int 2147483647, PyData.int 2147483629, PyData.int 2147483587, PyData.int 2147483579, PyData.int 2147483563, PyData.int 2147483549] := rfl
    simp [F__law_take, fnOf, b__law_take, bSeq, bIf, asB, e2, eVar, eC, F2, look, Sl.ob, Ob.d, lift, ixD, at0, at1, at2, gtD, ordD, hg, Rt.bind, Rt.bnd, bSet, put, nxt, modD, m0, p0, bSetIx, fdivD, setIx, ix2, bRet, fin, bNil, addD, eLock, fLst, eCons, eNil, datas, sh, hp, q1, q2, q3, q4, q5, q6, c97]
end Z
namespace Z
open PySem PySem.Spec PyProof.Rows L2 Gd Q
/-- a row -/
def RowS (z : Str) : Prop := 1 ≤ z.length ∧ z.length ≤ 8 ∧ ∀ c ∈ z.cps.toList, 97 ≤ c ∧ c ≤ 122
abbrev abc : Str := abcS
theorem abc_len : abc.length = 26 := by decide +kernel
theorem abc_at : ∀ j : Nat, j < 26 → abc.cps.toList[j]? = some (97 + j) := by decide +kernel
theorem abc_mem : ∀ c ∈ abc.cps.toList, 97 ≤ c ∧ c ≤ 122 := by decide +kernel
def nmS (z : Str) (k : Nat) (c : Nat) : Str := cutS z none (some (k : Int)) ++ ⟨#[c]⟩ ++ cutS z (some (k : Int)) none
theorem len_cps (z : Str) : z.cps.toList.length = z.length := Array.length_toList
theorem nmS_list {z : Str} {k c : Nat} (hk : k ≤ z.length) : (nmS z k c).cps.toList = z.cps.toList.take k ++ c :: z.cps.toList.drop k := by
  unfold nmS cutS
  rw [PySem.W.KT.app_list, PySem.W.KT.app_list, HT.sIx_none, HT.sIx_none, HT.sIx_nat, HT.sIx_nat, Nat.min_eq_left hk]
  show (List.take (k - 0) (List.drop 0 z.cps.toList)) ++ [c] ++ List.take (z.length - k) (List.drop k z.cps.toList) = _
  rw [List.drop_zero, Nat.sub_zero, List.append_assoc]
  have e : List.take (z.length - k) (List.drop k z.cps.toList) = List.drop k z.cps.toList := List.take_of_length_le (by rw [List.length_drop, len_cps]; omega)
  rw [e]
  rfl
theorem nmS_len {z : Str} {k c : Nat} (hk : k ≤ z.length) : (nmS z k c).length = z.length + 1 := by
  rw [← len_cps, nmS_list hk, List.length_append, List.length_cons, List.length_take, List.length_drop, len_cps]
  omega
theorem nmS_inj {z : Str} {k c d : Nat} (hk : k ≤ z.length) (h : nmS z k c = nmS z k d) : c = d := by
  have e := congrArg (fun s : Str => s.cps.toList) h
  simp only [nmS_list hk] at e
  have e2 := List.append_cancel_left e
  exact (List.cons.inj e2).1
theorem nmS_row {z : Str} {k c : Nat} (hk : k ≤ z.length) (hz : z.length ≤ 7) (ha : ∀ x ∈ z.cps.toList, 97 ≤ x ∧ x ≤ 122) (hc : 97 ≤ c ∧ c ≤ 122) : RowS (nmS z k c) := by
  refine ⟨by rw [nmS_len hk]; omega, by rw [nmS_len hk]; omega, fun x hx => ?_⟩
  rw [nmS_list hk] at hx
  rcases List.mem_append.mp hx with hx | hx
  · exact ha x (List.mem_of_mem_take hx)
  · rcases List.mem_cons.mp hx with hx | hx
    · rw [hx]; exact hc
    · exact ha x (List.mem_of_mem_drop hx)
/-- the j-th letter's place -/
def plc (first leap : Int) (j : Nat) : Nat := ((first + leap * (j : Int)) % 26).toNat
theorem plc_lt (first leap : Int) (j : Nat) : plc first leap j < 26 := by
  unfold plc
  have := Int.emod_nonneg (first + leap * (j : Int)) (show (26 : Int) ≠ 0 by decide)
  have := Int.emod_lt_of_pos (first + leap * (j : Int)) (show (0 : Int) < 26 by decide)
  omega
theorem plc_inj {first leap : Int} (hl : leap ∈ [(1 : Int), 3, 5, 7, 9, 11, 25]) {i j : Nat} (hi : i < 26) (hj : j < 26) (h : plc first leap i = plc first leap j) : i = j := by
  unfold plc at h
  simp only [List.mem_cons, List.not_mem_nil, or_false] at hl
  rcases hl with rfl | rfl | rfl | rfl | rfl | rfl | rfl <;> omega
def nmL (z : Str) (k : Nat) (first leap : Int) (n : Nat) : List Str := (List.range n).map fun j => nmS z k (97 + plc first leap j)
theorem nmL_nodup {z : Str} {k n : Nat} {first leap : Int} (hk : k ≤ z.length) (hl : leap ∈ [(1 : Int), 3, 5, 7, 9, 11, 25]) (hn : n ≤ 26) : (nmL z k first leap n).Nodup := by
  unfold nmL
  rw [List.nodup_iff_pairwise_ne, List.pairwise_map]
  refine List.Pairwise.imp_of_mem ?_ (List.nodup_iff_pairwise_ne.mp List.nodup_range)
  intro i j hi hj ne e
  have hi := List.mem_range.mp hi
  have hj := List.mem_range.mp hj
  have e2 := nmS_inj hk e
  exact ne (plc_inj (first := first) hl (by omega) (by omega) (by omega))
theorem nmL_len {z : Str} {k n : Nat} {first leap : Int} : (nmL z k first leap n).length = n := by
  unfold nmL
  rw [List.length_map, List.length_range]
theorem nmL_row {z : Str} {k n : Nat} {first leap : Int} (hk : k ≤ z.length) (hz : z.length ≤ 7) (ha : ∀ x ∈ z.cps.toList, 97 ≤ x ∧ x ≤ 122) : ∀ y ∈ nmL z k first leap n, RowS y := by
  intro y hy
  unfold nmL at hy
  obtain ⟨j, _, rfl⟩ := List.mem_map.mp hy
  have := plc_lt first leap j
  exact nmS_row hk hz ha (by omega)
theorem stem_ok {c : Nat} (hc : 97 ≤ c ∧ c ≤ 122) {n : Int} (hn2 : n = 0 ∨ n = 1 ∨ n = 3 ∨ n = 7) : (Txt.mul ⟨#[c]⟩ n).length ≤ 7 ∧ ∀ x ∈ (Txt.mul ⟨#[c]⟩ n).cps.toList, 97 ≤ x ∧ x ≤ 122 := by
  have one : ∀ l : List Nat, (∀ x ∈ l, x = c) → ∀ x ∈ l, 97 ≤ x ∧ x ≤ 122 := fun l h x hx => by rw [h x hx]; exact hc
  rcases hn2 with rfl | rfl | rfl | rfl
  · exact ⟨by show 0 ≤ 7; decide, one _ (fun x hx => by cases hx)⟩
  · exact ⟨by show 1 ≤ 7; decide, one _ (fun x hx => by
      have hx : x ∈ [c] := hx
      simpa using hx)⟩
  · exact ⟨by show 3 ≤ 7; decide, one _ (fun x hx => by
      have hx : x ∈ [c, c, c] := hx
      simpa using hx)⟩
  · exact ⟨by show 7 ≤ 7; decide, one _ (fun x hx => by
      have hx : x ∈ [c, c, c, c, c, c, c] := hx
      simpa using hx)⟩
theorem stem_six {c : Nat} {n : Int} (hn2 : n = 0 ∨ n = 1 ∨ n = 3 ∨ n = 7) : (Txt.mul ⟨#[c]⟩ n).length ≠ 6 := by
  rcases hn2 with rfl | rfl | rfl | rfl
  · show 0 ≠ 6; decide
  · show 1 ≠ 6; decide
  · show 3 ≠ 6; decide
  · show 7 ≠ 6; decide
theorem nmL_seven {z : Str} {k n : Nat} {first leap : Int} (hk : k ≤ z.length) (hz : z.length ≠ 6) : ∀ y ∈ nmL z k first leap n, y.length ≠ 7 := by
  intro y hy
  unfold nmL at hy
  obtain ⟨j, _, rfl⟩ := List.mem_map.mp hy
  rw [nmS_len hk]
  omega
theorem at_in {α : Type} {xs : List α} {i : Int} (h0 : 0 ≤ i) (h1 : i < (xs.length : Int)) : ∃ v, v ∈ xs ∧ atI xs i = some v := by
  obtain ⟨j, rfl⟩ := Int.eq_ofNat_of_zero_le h0
  have hj : j < xs.length := by omega
  exact ⟨xs[j], List.getElem_mem hj, atI_nat (List.getElem?_eq_getElem hj)⟩
end Z
namespace Z
open PySem PySem.Spec PyProof.Rows L2 Gd Q
/-! ### pick -/
/-- items that are picked from: data, or a thing of the caller's own -/
inductive Its : Sl → List D → Prop
  | list {xs : List D} : Its (.dat (.list xs)) xs
  | tuple {xs : List D} : Its (.dat (.tuple xs)) xs
  | own {xs : List D} : Its (.own (.lst xs)) xs
theorem pick_spec {h : List D} {n : Nat} {it : Sl} {xs : List D} (hi : Its it xs) (hh : HandOk h n) (hn : n < 1000000) (l0 : xs ≠ []) (l1 : xs.length < 1073741824) :
    ∃ (y : D) (h' : List D), F__law_pick [.own (.lst h), it] = .ok (.dat y) [.own (.lst h'), it] ∧ y ∈ xs ∧ HandOk h' (n + 1) := by
  have lp : 0 < xs.length := List.length_pos_iff.mpr l0
  obtain ⟨v, h', e, v0, v1, hk⟩ := take_spec hh hn (m := (xs.length : Int)) (by omega) (by omega)
  obtain ⟨y, hy, ey⟩ := at_in (xs := xs) v0 v1
  refine ⟨y, h', ?_, hy, hk⟩
  cases hi <;> simp [F__law_pick, b__law_pick, e, ixD, ey]
theorem pickS_spec {h : List D} {n : Nat} {z : Str} (hh : HandOk h n) (hn : n < 1000000) (l0 : 0 < z.length) (l1 : z.length ≤ 1000) :
    ∃ (c : Nat) (h' : List D), F__law_pick [.own (.lst h), .dat (.str z)] = .ok (.dat (sign c)) [.own (.lst h'), .dat (.str z)] ∧ c ∈ z.cps.toList ∧ HandOk h' (n + 1) := by
  have ls : z.length ≤ sizeLine := sz1000 l1
  obtain ⟨v, h', e, v0, v1, hk⟩ := take_spec hh hn (m := (z.length : Int)) (by omega) (by omega)
  obtain ⟨y, hy, ey⟩ := at_in (xs := z.cps.toList) v0 (by rw [len_cps]; exact v1)
  refine ⟨y, h', ?_, hy, hk⟩
  simp [F__law_pick, b__law_pick, e, ixD, ey, ls]
theorem short_ok {ds : List D} (h : ds.length ≤ 1000) : short ds = some ds := if_pos (sz1000 h)
/-! ### step by step -/
theorem seq_nx {f g : Mo Out} {ρ ρ1 : Ev} {r : Rt Out} (h : f ρ = .ok .nx ρ1) (h' : g ρ1 = r) : bSeq f g ρ = r := by
  unfold bSeq
  rw [h]
  exact h'
theorem seq_one {f g : Mo Out} {ρ ρ1 : Ev} {o : Out} (h : f ρ = .ok o ρ1) (ne : o ≠ .nx) : bSeq f g ρ = .ok o ρ1 := by
  unfold bSeq
  rw [h]
  cases o with
  | nx => exact absurd rfl ne
  | _ => rfl
theorem if_t {c : Mo Bool} {f g : Mo Out} {ρ : Ev} {r : Rt Out} (h : c ρ = .ok true ρ) (h' : f ρ = r) : bIf c f g ρ = r := by
  unfold bIf
  rw [h]
  exact h'
theorem if_f {c : Mo Bool} {f g : Mo Out} {ρ : Ev} {r : Rt Out} (h : c ρ = .ok false ρ) (h' : g ρ = r) : bIf c f g ρ = r := by
  unfold bIf
  rw [h]
  exact h'
theorem fn_run {n N : Nat} {b : Mo Out} {as : List Sl} {o : Out} {ρ : Ev} {r : Rt Sl} (h : as.length = n) (hb : b (as ++ List.replicate (N - n) .no) = .ok o ρ) (hf : fin n ρ o = r) : fnOf n N b as = r := by
  unfold fnOf
  rw [if_pos h, hb]
  exact hf
theorem fin_rf {n : Nat} {ρ : Ev} {o : Ob} {as : List Sl} (h : ρ.take n = as) : fin n ρ (.rf o) = .ok (.own o) as := by rw [← h]; rfl
theorem fin_rt {n : Nat} {ρ : Ev} {d : D} {as : List Sl} (h : ρ.take n = as) : fin n ρ (.rt (.d d)) = .ok (.dat d) as := by rw [← h]; rfl
theorem comp_eq {it : Mo (List D)} {g : Tg} {t : Mo Bool} {e : Mo R} {vs : List Nat} {ρ ρ1 ρ2 ρ3 : Ev} {ds xs : List D} (hi : it ρ = .ok ds ρ1) (hl : ds.length ≤ sizeLine) (hn : noOwn ρ1 vs = true) (hc : compD g t e vs ds (wipeE ρ1 vs) = .ok xs ρ2) (hm : mixE ρ1 ρ2 vs = ρ3) : fComp it g t e vs ρ = .ok (.lst xs) ρ3 := by
  unfold fComp
  rw [hi]
  show (if ds.length ≤ sizeLine ∧ noOwn ρ1 vs = true then _ else _) = _
  rw [if_pos ⟨hl, hn⟩, hc, ← hm]
  rfl
theorem retF_eq {f : Mo Ob} {ρ ρ1 : Ev} {o : Ob} (h : f ρ = .ok o ρ1) : bRetF f ρ = .ok (.rf o) ρ1 := by
  unfold bRetF
  rw [h]
  rfl
theorem small_ok {i : Int} (h : -1000000000 ≤ i ∧ i ≤ 1000000000) : small i = true := cb_true (by
  have e : (2 : Int) ^ 62 = 4611686018427387904 := by decide
  rw [e]
  omega)
theorem range1_eq {c : Nat} (h : c ≤ 1000) : range1D [.int c] = some ((List.range c).map fun i => .int (i : Nat)) := by
  show (if small (c : Int) = true then some (rngD 0 (c : Int).toNat) else none) = _
  rw [if_pos (small_ok (by omega)), Int.toNat_natCast]
  unfold rngD
  simp only [Int.zero_add]
theorem range2_eq {a b : Nat} (h : a ≤ 1000) (h' : b ≤ 1000) : range2D [.int a, .int b] = some ((List.range (b - a)).map fun i => .int ((a + i : Nat))) := by
  show (if small (a : Int) = true ∧ small (b : Int) = true then some (rngD a ((b : Int) - (a : Int)).toNat) else none) = _
  rw [if_pos ⟨small_ok (by omega), small_ok (by omega)⟩]
  have e : ((b : Int) - (a : Int)).toNat = b - a := by omega
  rw [e]
  unfold rngD
  simp only [Int.natCast_add]
/-! ### names -/
theorem rngD0 (k : Nat) : rngD 0 k = (List.range k).map fun i => .int (i : Nat) := by
  unfold rngD
  simp
theorem comp_names {z : Str} {k : Nat} {first leap : Int} {a0 a1 : Sl} (hk : k ≤ z.length) (hz : z.length ≤ 7) (h0 : 0 ≤ first ∧ first < 26) (hl : leap ∈ [(1 : Int), 3, 5, 7, 9, 11, 25]) : ∀ (m lo : Nat), lo + m ≤ 26 →
    compD (gN 7) bYes (e2 addD (e2 addD (eSl (eVar 5) pNo (pSo (eVar 6))) (e2 ixD (eVar 2) (e2 modD (e2 addD (eVar 3) (e2 mulA (eVar 4) (eVar 7))) (eC (.int 26))))) (eSl (eVar 5) (pSo (eVar 6)) pNo)) [7]
      ((List.range' lo m).map fun i => .int (i : Nat)) [a0, a1, .dat (.str abc), .dat (.int first), .dat (.int leap), .dat (.str z), .dat (.int k), .no]
      = .ok ((List.range' lo m).map fun j => .str (nmS z k (97 + plc first leap j))) [a0, a1, .dat (.str abc), .dat (.int first), .dat (.int leap), .dat (.str z), .dat (.int k), .no]
  | 0, lo, _ => rfl
  | m + 1, lo, h => by
    have ih := comp_names (a0 := a0) (a1 := a1) hk hz h0 hl m (lo + 1) (by omega)
    have lb : (1 : Int) ≤ leap ∧ leap ≤ 25 := by
      simp only [List.mem_cons, List.not_mem_nil, or_false] at hl
      omega
    have q1 := mulD_l (i := leap) (j := (lo : Nat)) ⟨by omega, by omega⟩
    have ls : z.length ≤ sizeLine := by
      have e2 : sizeLine = 16777216 := by decide
      omega
    have la : abc.length ≤ sizeLine := by decide +kernel
    have p0 : 0 ≤ (first + leap * (lo : Nat)) % 26 := Int.emod_nonneg _ (by decide)
    have p1 : (first + leap * (lo : Nat)) % 26 < 26 := Int.emod_lt_of_pos _ (by decide)
    have ea : atI abc.cps.toList ((first + leap * (lo : Nat)) % 26) = some (97 + plc first leap lo) := by
      have e : (first + leap * (lo : Nat)) % 26 = ((plc first leap lo : Nat) : Int) := by
        unfold plc
        rw [Int.toNat_of_nonneg p0]
      rw [e]
      exact atI_nat (abc_at _ (plc_lt first leap lo))
    have lc : ∀ a b : Option Int, (cutS z a b).length ≤ z.length := fun a b => by
      show ((cutS z a b).cps).size ≤ _
      unfold cutS
      rw [List.size_toArray, List.length_take, List.length_drop, len_cps]
      omega
    have s1 : (cutS z none (some (k : Int))).length + Str.length ⟨#[97 + plc first leap lo]⟩ ≤ sizeLine := by
      have e2 : sizeLine = 16777216 := by decide
      have := lc none (some (k : Int))
      have : Str.length ⟨#[97 + plc first leap lo]⟩ = 1 := rfl
      omega
    have s2 : (cutS z none (some (k : Int)) ++ ⟨#[97 + plc first leap lo]⟩).length + (cutS z (some (k : Int)) none).length ≤ sizeLine := by
      have e2 : sizeLine = 16777216 := by decide
      have a := lc none (some (k : Int))
      have b := lc (some (k : Int)) none
      have e3 : (cutS z none (some (k : Int)) ++ ⟨#[97 + plc first leap lo]⟩).length = (cutS z none (some (k : Int))).length + 1 := by
        rw [← len_cps, PySem.W.KT.app_list, List.length_append, len_cps]
        rfl
      omega
    rw [List.range'_succ, List.map_cons, List.map_cons]
    simp [compD, q1, modD, ixD, ea, la, ls, sign, s1, s2, ih]
    rfl
theorem names_spec {h : List D} {n : Nat} {c : Nat} (hh : HandOk h n) (hn : n + 10 < 1000000) (hc : c ≤ 26) :
    ∃ (ns : List Str) (h' : List D), F__law_names [.own (.lst h), .dat (.int c)] = .ok (.own (.lst (ns.map .str))) [.own (.lst h'), .dat (.int c)] ∧ ns.length = c ∧ ns.Nodup ∧ (∀ z ∈ ns, RowS z) ∧ HandOk h' (n + 10) ∧ ∀ z ∈ ns, z.length ≠ 7 := by
  obtain ⟨first, h1, e1, f0, f1, hk1⟩ := take_spec hh (by omega) (m := 26) (by decide) (by decide)
  obtain ⟨y2, h2, e2, hy2, hk2⟩ := pick_spec (Its.list (xs := [.int 1, .int 3, .int 5, .int 7, .int 9, .int 11, .int 25])) hk1 (by omega) (by simp) (by decide)
  obtain ⟨leap, rfl, hl⟩ : ∃ leap, y2 = .int leap ∧ leap ∈ [(1 : Int), 3, 5, 7, 9, 11, 25] := by
    simp only [List.mem_cons, List.not_mem_nil, or_false] at hy2
    rcases hy2 with h | h | h | h | h | h | h <;> exact ⟨_, h, by simp⟩
  obtain ⟨ch, h3, e3, hch, hk3⟩ := pickS_spec (z := abc) hk2 (by omega) (by rw [abc_len]; decide) (by rw [abc_len]; decide)
  obtain ⟨y4, h4, e4, hy4, hk4⟩ := pick_spec (Its.list (xs := [.int 0, .int 0, .int 1, .int 3, .int 7])) hk3 (by omega) (by simp) (by decide)
  obtain ⟨r, rfl, hr⟩ : ∃ r, y4 = .int r ∧ (r = 0 ∨ r = 1 ∨ r = 3 ∨ r = 7) := by
    simp only [List.mem_cons, List.not_mem_nil, or_false] at hy4
    rcases hy4 with h | h | h | h | h <;> exact ⟨_, h, by simp⟩
  obtain ⟨hz7, hzc⟩ := stem_ok (abc_mem ch hch) hr
  have hz6 := stem_six (c := ch) hr
  have em : mulA (sign ch) (.int r) = some (.str (Txt.mul ⟨#[ch]⟩ r)) := by
    show (if 0 ≤ r ∧ r ≤ 1000 ∧ Str.length ⟨#[ch]⟩ ≤ 1000 then some (PyData.str (Txt.mul ⟨#[ch]⟩ r)) else none) = _
    rw [if_pos ⟨by omega, by omega, by show 1 ≤ 1000; decide⟩]
  generalize Txt.mul ⟨#[ch]⟩ r = z at hz7 hzc em hz6
  obtain ⟨kk, h5, e5, k0, k1, hk5⟩ := take_spec hk4 (by omega) (m := (z.length : Int) + 1) (by omega) (by omega)
  obtain ⟨k, rfl⟩ := Int.eq_ofNat_of_zero_le k0
  have hkz : k ≤ z.length := by omega
  have ls : z.length ≤ sizeLine := sz1000 (by omega)
  have cn := comp_names (a0 := .own (.lst h5)) (a1 := .dat (.int c)) hkz hz7 ⟨f0, f1⟩ hl c 0 (by omega)
  have lr : c ≤ sizeLine := sz1000 (by omega)
  refine ⟨nmL z k first leap c, h5, ?_, nmL_len, nmL_nodup hkz hl hc, nmL_row hkz hz7 hzc, hk5.up (by omega), nmL_seven hkz hz6⟩
  rw [← List.range_eq_range'] at cn
  have sh1 := short_ok (ds := [.int 1, .int 3, .int 5, .int 7, .int 9, .int 11, .int 25]) (by decide)
  have sh2 := short_ok (ds := [.int 0, .int 0, .int 1, .int 3, .int 7]) (by decide)
  have sh3 := short_ok (ds := [.int first, .int leap]) (by simp)
  refine fn_run (ρ := [.own (.lst h5), .dat (.int c), .dat (.str abc), .dat (.int first), .dat (.int leap), .dat (.str z), .dat (.int k), .no]) rfl ?_ (fin_rf rfl)
  refine seq_nx (ρ1 := [.own (.lst h), .dat (.int c), .dat (.str abc), .no, .no, .no, .no, .no]) (by simp) ?_
  refine seq_nx (ρ1 := [.own (.lst h2), .dat (.int c), .dat (.str abc), .dat (.int first), .dat (.int leap), .no, .no, .no]) (by simp [sh1, sh3, e1, e2]) ?_
  refine seq_nx (ρ1 := [.own (.lst h4), .dat (.int c), .dat (.str abc), .dat (.int first), .dat (.int leap), .dat (.str z), .no, .no]) (by simp [sh2, e3, e4, em]) ?_
  refine seq_nx (ρ1 := [.own (.lst h5), .dat (.int c), .dat (.str abc), .dat (.int first), .dat (.int leap), .dat (.str z), .dat (.int k), .no]) (by simp [e5, ls]) ?_
  have en : (nmL z k first leap c).map PyData.str = (List.range c).map fun j => .str (nmS z k (97 + plc first leap j)) := by
    unfold nmL
    rw [List.map_map]
    rfl
  rw [en]
  refine seq_one (retF_eq (comp_eq (ρ1 := [.own (.lst h5), .dat (.int c), .dat (.str abc), .dat (.int first), .dat (.int leap), .dat (.str z), .dat (.int k), .no]) (ds := (List.range c).map fun i => .int (i : Nat)) (by simp [range1_eq (c := c) (by omega)]) (by rw [List.length_map, List.length_range]; exact lr) rfl cn rfl)) (fun z => nomatch z)
end Z
namespace Z
open PySem PySem.Spec PyProof.Rows L2 Gd Q
theorem RowS.ok {z : Str} (h : RowS z) : PyData.strOk z = true := by
  unfold PyData.strOk
  rw [Array.all_eq_true_iff_forall_mem]
  intro c hc
  have := h.2.2 c (Array.mem_toList_iff.mpr hc)
  exact decide_eq_true (by omega)
theorem lay_strs : ∀ ns : List Str, (∀ z ∈ ns, PyData.strOk z = true) → PyData.canLayAll0 (ns.map PyData.str) = true
  | [], _ => rfl
  | x :: ns, h => by
    show (PyData.strOk x && PyData.canLayAll0 (ns.map PyData.str)) = true
    rw [lay_strs ns fun z hz => h z (List.mem_cons_of_mem _ hz), h x List.mem_cons_self]
    rfl
theorem deep_strs : ∀ ns : List Str, PyData.depthAll (ns.map PyData.str) = 0
  | [] => rfl
  | x :: ns => by
    show max 0 (PyData.depthAll (ns.map PyData.str)) = 0
    rw [deep_strs ns]
    rfl
theorem shaped_lst {ns : List Str} (h : ∀ z ∈ ns, RowS z) : SeqAt.shaped (.list (ns.map PyData.str)) = true := by
  unfold SeqAt.shaped
  rw [Bool.and_eq_true]
  refine ⟨lay_strs ns fun z hz => (h z hz).ok, decide_eq_true ?_⟩
  show PyData.depthAll (ns.map PyData.str) + 1 ≤ 64
  rw [deep_strs]
  decide
theorem shaped_tup {ns : List Str} (h : ∀ z ∈ ns, RowS z) : SeqAt.shaped (.tuple (ns.map PyData.str)) = true := by
  unfold SeqAt.shaped
  rw [Bool.and_eq_true]
  refine ⟨lay_strs ns fun z hz => (h z hz).ok, decide_eq_true ?_⟩
  show PyData.depthAll (ns.map PyData.str) + 1 ≤ 64
  rw [deep_strs]
  decide
theorem shaped_str {z : Str} (h : RowS z) : SeqAt.shaped (.str z) = true := by
  unfold SeqAt.shaped
  rw [Bool.and_eq_true]
  exact ⟨h.ok, decide_eq_true (by show 0 ≤ 64; decide)⟩
theorem seq_at {n : Nat} {v : Int} (h0 : 0 ≤ v) (h1 : v < (n : Int)) : seqIndex? v n = some v.toNat := by
  have e : ixN n v = some v.toNat := by
    unfold ixN
    rw [if_pos h0, if_pos (by omega)]
  exact (ixN_seq e).1
/-! ### lists of rows, beside [] -/
theorem ne_nil {ns : List Str} (h : ∀ z ∈ ns, RowS z) : neF (.list (ns.map PyData.str)) (.list []) = some (.bool (!ns.isEmpty)) := by
  unfold neF eqD
  rw [if_pos ⟨shaped_lst h, shaped_lst (ns := []) (fun z hz => nomatch hz)⟩]
  cases ns with
  | nil => rfl
  | cons _ _ => rfl
theorem app_eq {ds : List D} {x : D} (h : ds.length ≤ 1000) : appF ds [x] = some (.none, ds ++ [x]) := by
  show (if ds.length < sizeLine then some (PyData.none, ds ++ [x]) else none) = _
  rw [if_pos (Nat.lt_of_le_of_lt h (by decide))]
theorem erase_map {α β : Type} (f : α → β) : ∀ (l : List α) (i : Nat), (l.map f).eraseIdx i = (l.eraseIdx i).map f
  | [], _ => rfl
  | _ :: _, 0 => rfl
  | x :: l, i + 1 => by
    show f x :: (l.map f).eraseIdx i = f x :: (l.eraseIdx i).map f
    rw [erase_map f l i]
theorem pop_eq {ns : List Str} {v : Int} (h0 : 0 ≤ v) (h1 : v < (ns.length : Int)) (hl : ns.length ≤ 1000) : ∃ x, x ∈ ns ∧ popF (ns.map PyData.str) [.int v] = some (.str x, (ns.eraseIdx v.toNat).map PyData.str) ∧ ns[v.toNat]? = some x := by
  have lt : v.toNat < ns.length := by omega
  refine ⟨ns[v.toNat], List.getElem_mem lt, ?_, List.getElem?_eq_getElem lt⟩
  show (if cb (-(2 ^ 63) ≤ v ∧ v < 2 ^ 63) = true then (seqIndex? v (ns.map PyData.str).length).bind fun k => (ns.map PyData.str)[k]?.map fun y => (y, (ns.map PyData.str).eraseIdx k) else none) = _
  rw [if_pos (cb_true ⟨by omega, by omega⟩), List.length_map, seq_at h0 h1]
  show ((ns.map PyData.str)[v.toNat]?).map _ = _
  rw [List.getElem?_map, List.getElem?_eq_getElem lt]
  simp [erase_map]
theorem erase_perm {α : Type} : ∀ {l : List α} {i : Nat} {x : α}, l[i]? = some x → (x :: l.eraseIdx i).Perm l
  | [], _, _, h => by simp at h
  | y :: l, 0, x, h => by
    cases (Option.some.inj h)
    exact List.Perm.refl _
  | y :: l, i + 1, x, h => by
    have ih := erase_perm (l := l) (i := i) (x := x) h
    exact (List.Perm.swap y x (l.eraseIdx i)).trans (ih.cons y)
/-! ### shuffled -/
theorem shuf_loop {it : Sl} : ∀ (fuel : Nat) (rest found : List Str) (h : List D) (n : Nat), rest.length < fuel → found.length + rest.length ≤ 1000 → (∀ z ∈ rest, RowS z) → HandOk h n → n + rest.length < 1000000 →
    ∃ (out : List Str) (h' : List D), whileD (asB (e2 neF (eVar 2) (eLock (fLst eNil)))) (bSeq (bEx (eMut appF 3 (eCons (eMut popF 2 (eCons (eCall F__law_take (eCons (eVar 0) (eCons (eN lenD (eCons (eVar 2) eNil)) eNil))) eNil)) eNil))) bNil) fuel
      [.own (.lst h), it, .own (.lst (rest.map PyData.str)), .own (.lst (found.map PyData.str))] = .ok .nx [.own (.lst h'), it, .own (.lst []), .own (.lst (out.map PyData.str))] ∧ out.Perm (found ++ rest) ∧ HandOk h' (n + rest.length)
  | 0, _, _, _, _, l, _, _, _, _ => by omega
  | fuel + 1, [], found, h, n, _, _, _, hh, _ => by
    refine ⟨found, h, ?_, by rw [List.append_nil], hh⟩
    have e := ne_nil (ns := []) (fun z hz => nomatch hz)
    rw [List.map_nil] at e
    have sh := short_ok (ds := []) (by decide)
    unfold whileD
    simp [sh, e]
  | fuel + 1, x :: rest, found, h, n, l, l2, hr, hh, hn => by
    obtain ⟨v, h1, e1, v0, v1, hk⟩ := take_spec hh (by omega) (m := (rest.length : Int) + 1) (by omega) (by rw [List.length_cons] at l2; omega)
    obtain ⟨y, hy, ey, gy⟩ := pop_eq (ns := x :: rest) v0 (by rw [List.length_cons]; omega) (by omega)
    have pm := erase_perm gy
    have le : ((x :: rest).eraseIdx v.toNat).length = rest.length := by
      have := pm.length_eq
      rw [List.length_cons, List.length_cons] at this
      omega
    rw [List.length_cons] at l l2 hn
    obtain ⟨out, h2, e2, p2, hk2⟩ := shuf_loop (it := it) fuel ((x :: rest).eraseIdx v.toNat) (found ++ [y]) h1 (n + 1) (by omega) (by rw [List.length_append, List.length_singleton]; omega) (fun z hz => hr z (pm.subset (List.mem_cons_of_mem _ hz))) hk (by omega)
    refine ⟨out, h2, ?_, ?_, hk2.up (by rw [List.length_cons]; omega)⟩
    · have e := ne_nil hr
      rw [List.map_cons] at e
      have sh := short_ok (ds := []) (by decide)
      have ap := app_eq (ds := found.map PyData.str) (x := .str y) (by rw [List.length_map]; omega)
      rw [List.map_append] at e2
      rw [List.map_cons] at ey
      unfold whileD
      simp at e2
      simp [sh, e, e1, ey, ap, e2]
    · refine p2.trans ?_
      rw [List.append_assoc]
      exact List.Perm.append_left found pm
theorem shuffled_spec {h : List D} {n : Nat} {it : Sl} {ns : List Str} (hi : Its it (ns.map PyData.str)) (hr : ∀ z ∈ ns, RowS z) (hh : HandOk h n) (hl : ns.length ≤ 900) (hn : n + ns.length < 1000000) :
    ∃ (out : List Str) (h' : List D), F__law_shuffled [.own (.lst h), it] = .ok (.own (.lst (out.map PyData.str))) [.own (.lst h'), it] ∧ out.Perm ns ∧ HandOk h' (n + ns.length) := by
  obtain ⟨out, h', e, p, hk⟩ := shuf_loop (it := it) 1000 ns [] h n (by omega) (by rw [List.length_nil]; omega) hr hh hn
  refine ⟨out, h', ?_, by rw [List.nil_append] at p; exact p, hk⟩
  have sh := short_ok (ds := []) (by decide)
  refine fn_run (o := .rt (.v 3)) (ρ := [.own (.lst h'), it, .own (.lst []), .own (.lst (out.map PyData.str))]) rfl ?_ rfl
  refine seq_nx (ρ1 := [.own (.lst h), it, .own (.lst (ns.map PyData.str)), .own (.lst [])]) ?_ (seq_nx e ?_)
  · cases hi <;> simp [sh]
  · exact seq_one rfl (fun z => nomatch z)
end Z
namespace Z
open PySem PySem.Spec PyProof.Rows L2 Gd Q
def verD (v : List Str) : D := .tuple (v.map PyData.str)
theorem ins_eq {ns : List Str} {x : Str} {v : Int} (h0 : 0 ≤ v) (h1 : v ≤ 1000) (hl : ns.length ≤ 1000) : insF (ns.map PyData.str) [.int v, .str x] = some (.none, (ns.take v.toNat ++ [x] ++ ns.drop v.toNat).map PyData.str) := by
  show (if cb ((ns.map PyData.str).length < sizeLine ∧ 0 ≤ v ∧ v < 2 ^ 63) = true then some (PyData.none, (ns.map PyData.str).take v.toNat ++ [PyData.str x] ++ (ns.map PyData.str).drop v.toNat) else none) = _
  rw [if_pos (cb_true ⟨by rw [List.length_map]; exact Nat.lt_of_le_of_lt hl (by decide), h0, by omega⟩)]
  simp
theorem ins_perm (xs : List Str) (i : Nat) (x : Str) : (xs.take i ++ [x] ++ xs.drop i).Perm (x :: xs) := by
  have h : (xs.take i ++ x :: xs.drop i).Perm (x :: (xs.take i ++ xs.drop i)) := List.perm_middle
  rw [List.take_append_drop] at h
  rw [List.append_assoc]
  exact h
theorem eq_int (a b : Int) : eqF (.int a) (.int b) = some (.bool (a == b)) := by
  unfold eqF eqD
  rw [if_pos ⟨rfl, rfl⟩]
  rfl
theorem pop0_eq {ns : List Str} {x : Str} : popF (.str x :: ns.map PyData.str) [.int 0] = some (.str x, ns.map PyData.str) := by
  show (if cb (-(2 ^ 63) ≤ (0 : Int) ∧ (0 : Int) < 2 ^ 63) = true then (seqIndex? 0 (PyData.str x :: ns.map PyData.str).length).bind fun k => (PyData.str x :: ns.map PyData.str)[k]?.map fun y => (y, (PyData.str x :: ns.map PyData.str).eraseIdx k) else none) = _
  rw [if_pos (cb_true ⟨by decide, by decide⟩), seq_at (by decide) (by rw [List.length_cons]; omega)]
  rfl
/-- what becomes of a version, and of the names that are not used yet -/
inductive Chg (v fresh : List Str) : List Str → List Str → Prop
  | moved {v' : List Str} : v'.Perm v → Chg v fresh v' fresh
  | gone {v' : List Str} {x : Str} : (x :: v').Perm v → Chg v fresh v' fresh
  | came {v' fresh' : List Str} {x : Str} : fresh = x :: fresh' → v'.Perm (x :: v) → v.length < 24 → Chg v fresh v' fresh'
theorem changed_spec {h : List D} {n : Nat} {v fresh : List Str} (hv : ∀ z ∈ v, RowS z) (hf : ∀ z ∈ fresh, RowS z) (lv : v.length ≤ 24) (lf : fresh.length ≤ 100) (hh : HandOk h n) (hn : n + 5 < 1000000) :
    ∃ (v' fresh' : List Str) (h' : List D), F__law_changed [.own (.lst h), .dat (verD v), .own (.lst (fresh.map PyData.str))] = .ok (.dat (verD v')) [.own (.lst h'), .dat (verD v), .own (.lst (fresh'.map PyData.str))] ∧ Chg v fresh v' fresh' ∧ HandOk h' (n + 5) := by
  obtain ⟨w, h1, e1, w0, w1, hk1⟩ := take_spec hh (by omega) (m := 10) (by decide) (by decide)
  -- what the branches come to
  suffices key : ∃ (v' fresh' : List Str) (h' : List D) (s5 : Sl), Chg v fresh v' fresh' ∧ HandOk h' (n + 5) ∧
      (bIf (bAnd (asB (e2 eqF (eVar 3) (eC (.int 0)))) (bAnd (asB (e2 neF (eVar 2) (eLock (fLst eNil)))) (asB (e2 ltD (eN lenD (eCons (eVar 4) eNil)) (eC (.int 24)))))) (bSeq (bEx (eMut insF 4 (eCons (eCall F__law_take (eCons (eVar 0) (eCons (e2 addD (eN lenD (eCons (eVar 4) eNil)) (eC (.int 1))) eNil))) (eCons (eMut popF 2 (eCons (eC (.int 0)) eNil)) eNil)))) bNil) (bSeq (bIf (bAnd (asB (e2 eqF (eVar 3) (eC (.int 1)))) (asB (e2 neF (eVar 4) (eLock (fLst eNil))))) (bSeq (bEx (eMut popF 4 (eCons (eCall F__law_take (eCons (eVar 0) (eCons (eN lenD (eCons (eVar 4) eNil)) eNil))) eNil))) bNil) (bSeq (bIf (asB (e2 eqF (eVar 3) (eC (.int 2)))) (bSeq (bSetF 4 (fRev (eVar 4))) bNil) (bSeq (bIf (asB (e2 neF (eVar 4) (eLock (fLst eNil)))) (bSeq (bSet 5 (eMut popF 4 (eCons (eCall F__law_take (eCons (eVar 0) (eCons (eN lenD (eCons (eVar 4) eNil)) eNil))) eNil))) (bSeq (bEx (eMut insF 4 (eCons (eCall F__law_pick (eCons (eVar 0) (eCons (eLock (fLst (eCons (eC (.int 0)) (eCons (eCall F__law_take (eCons (eVar 0) (eCons (e2 addD (eN lenD (eCons (eVar 4) eNil)) (eC (.int 1))) eNil))) (eCons (eN lenD (eCons (eVar 4) eNil)) eNil))))) eNil))) (eCons (eVar 5) eNil)))) bNil)) bNil) bNil)) bNil)) bNil))
      [.own (.lst h1), .dat (verD v), .own (.lst (fresh.map PyData.str)), .dat (.int w), .own (.lst (v.map PyData.str)), .no] = .ok .nx [.own (.lst h'), .dat (verD v), .own (.lst (fresh'.map PyData.str)), .dat (.int w), .own (.lst (v'.map PyData.str)), s5] by
    obtain ⟨v', fresh', h', s5, c, hk, e⟩ := key
    refine ⟨v', fresh', h', ?_, c, hk⟩
    refine fn_run (ρ := [.own (.lst h'), .dat (verD v), .own (.lst (fresh'.map PyData.str)), .dat (.int w), .own (.lst (v'.map PyData.str)), s5]) rfl ?_ (fin_rt rfl)
    refine seq_nx (ρ1 := [.own (.lst h1), .dat (verD v), .own (.lst (fresh.map PyData.str)), .dat (.int w), .own (.lst (v.map PyData.str)), .no]) (by simp [e1, verD]) (seq_nx e ?_)
    exact seq_one (by simp [verD]) (fun z => nomatch z)
  have sh := short_ok (ds := []) (by decide)
  have nf := ne_nil hf
  have nv := ne_nil hv
  have w3 : eqF (.int w) (.int 0) = some (.bool (w == 0)) := eq_int w 0
  have w4 : eqF (.int w) (.int 1) = some (.bool (w == 1)) := eq_int w 1
  have w5 : eqF (.int w) (.int 2) = some (.bool (w == 2)) := eq_int w 2
  -- the last branch: a row is moved
  have mv : ∃ (v' : List Str) (h' : List D) (s5 : Sl), v'.Perm v ∧ HandOk h' (n + 5) ∧ (bSeq (bIf (asB (e2 neF (eVar 4) (eLock (fLst eNil)))) (bSeq (bSet 5 (eMut popF 4 (eCons (eCall F__law_take (eCons (eVar 0) (eCons (eN lenD (eCons (eVar 4) eNil)) eNil))) eNil))) (bSeq (bEx (eMut insF 4 (eCons (eCall F__law_pick (eCons (eVar 0) (eCons (eLock (fLst (eCons (eC (.int 0)) (eCons (eCall F__law_take (eCons (eVar 0) (eCons (e2 addD (eN lenD (eCons (eVar 4) eNil)) (eC (.int 1))) eNil))) (eCons (eN lenD (eCons (eVar 4) eNil)) eNil))))) eNil))) (eCons (eVar 5) eNil)))) bNil)) bNil) bNil)
      [.own (.lst h1), .dat (verD v), .own (.lst (fresh.map PyData.str)), .dat (.int w), .own (.lst (v.map PyData.str)), .no] = .ok .nx [.own (.lst h'), .dat (verD v), .own (.lst (fresh.map PyData.str)), .dat (.int w), .own (.lst (v'.map PyData.str)), s5] := by
    cases v with
    | nil => exact ⟨[], h1, .no, List.Perm.refl _, hk1.up (by omega), seq_nx (if_f (by simp at nv; simp [sh, nv]) rfl) rfl⟩
    | cons x r =>
      rw [List.length_cons] at lv
      obtain ⟨i, h2, e2, i0, i1, hk2⟩ := take_spec hk1 (by omega) (m := (r.length : Int) + 1) (by omega) (by omega)
      obtain ⟨y, hy, ey, gy⟩ := pop_eq (ns := x :: r) i0 (by rw [List.length_cons]; omega) (by rw [List.length_cons]; omega)
      have pm := erase_perm gy
      have le : ((x :: r).eraseIdx i.toNat).length = r.length := by
        have := pm.length_eq
        rw [List.length_cons, List.length_cons] at this
        omega
      generalize hq : (x :: r).eraseIdx i.toNat = q at pm le ey
      obtain ⟨j, h3, e3, j0, j1, hk3⟩ := take_spec hk2 (by omega) (m := (q.length : Int) + 1) (by omega) (by omega)
      obtain ⟨pk, h4, e4, hp, hk4⟩ := pick_spec (Its.list (xs := [.int 0, .int j, .int q.length])) hk3 (by omega) (by simp) (by simp)
      obtain ⟨m, rfl, m0, m1⟩ : ∃ m, pk = .int m ∧ 0 ≤ m ∧ m ≤ 1000 := by
        simp only [List.mem_cons, List.not_mem_nil, or_false] at hp
        rcases hp with h | h | h
        · exact ⟨0, h, by decide, by decide⟩
        · exact ⟨j, h, j0, by omega⟩
        · exact ⟨q.length, h, by omega, by omega⟩
      have ie := ins_eq (ns := q) (x := y) m0 m1 (by omega)
      have s3 := short_ok (ds := [.int 0, .int j, .int q.length]) (by simp)
      refine ⟨q.take m.toNat ++ [y] ++ q.drop m.toNat, h4, .dat (.str y), (ins_perm q m.toNat y).trans pm, hk4.up (by omega), ?_⟩
      rw [List.map_cons] at ey nv
      refine seq_nx (if_t (by simp [sh, nv]) ?_) rfl
      refine seq_nx (ρ1 := [.own (.lst h2), .dat (verD (x :: r)), .own (.lst (fresh.map PyData.str)), .dat (.int w), .own (.lst (q.map PyData.str)), .dat (.str y)]) (by simp [e2, ey]) ?_
      exact seq_nx (by simp at ie; simp [e3, e4, s3, ie]) rfl
  obtain ⟨vm, hm, sm, pmv, hkm, em⟩ := mv
  have rest : w ≠ 1 → w ≠ 2 → ∃ (v' fresh' : List Str) (h' : List D) (s5 : Sl), Chg v fresh v' fresh' ∧ HandOk h' (n + 5) ∧
      (bSeq (bIf (bAnd (asB (e2 eqF (eVar 3) (eC (.int 1)))) (asB (e2 neF (eVar 4) (eLock (fLst eNil))))) (bSeq (bEx (eMut popF 4 (eCons (eCall F__law_take (eCons (eVar 0) (eCons (eN lenD (eCons (eVar 4) eNil)) eNil))) eNil))) bNil) (bSeq (bIf (asB (e2 eqF (eVar 3) (eC (.int 2)))) (bSeq (bSetF 4 (fRev (eVar 4))) bNil) (bSeq (bIf (asB (e2 neF (eVar 4) (eLock (fLst eNil)))) (bSeq (bSet 5 (eMut popF 4 (eCons (eCall F__law_take (eCons (eVar 0) (eCons (eN lenD (eCons (eVar 4) eNil)) eNil))) eNil))) (bSeq (bEx (eMut insF 4 (eCons (eCall F__law_pick (eCons (eVar 0) (eCons (eLock (fLst (eCons (eC (.int 0)) (eCons (eCall F__law_take (eCons (eVar 0) (eCons (e2 addD (eN lenD (eCons (eVar 4) eNil)) (eC (.int 1))) eNil))) (eCons (eN lenD (eCons (eVar 4) eNil)) eNil))))) eNil))) (eCons (eVar 5) eNil)))) bNil)) bNil) bNil)) bNil)) bNil)
      [.own (.lst h1), .dat (verD v), .own (.lst (fresh.map PyData.str)), .dat (.int w), .own (.lst (v.map PyData.str)), .no] = .ok .nx [.own (.lst h'), .dat (verD v), .own (.lst (fresh'.map PyData.str)), .dat (.int w), .own (.lst (v'.map PyData.str)), s5] := fun n1 n2 =>
    ⟨vm, fresh, hm, sm, .moved pmv, hkm, seq_nx (if_f (by simp [w4, n1]) (seq_nx (if_f (by simp [w5, n2]) em) rfl)) rfl⟩
  by_cases z0 : w = 0
  · subst z0
    cases fresh with
    | nil =>
      obtain ⟨v', f', h', s5, c, hk, e⟩ := rest (by decide) (by decide)
      exact ⟨v', f', h', s5, c, hk, if_f (by simp at nf; simp [w3, sh, nf]) e⟩
    | cons x fr =>
      by_cases l24 : v.length < 24
      · rw [List.length_cons] at lf
        obtain ⟨i, h2, e2, i0, i1, hk2⟩ := take_spec hk1 (by omega) (m := (v.length : Int) + 1) (by omega) (by omega)
        have ie := ins_eq (ns := v) (x := x) i0 (by omega) (by omega)
        have pe := pop0_eq (ns := fr) (x := x)
        have lt : (v.length : Int) < 24 := by omega
        rw [List.map_cons] at nf
        refine ⟨v.take i.toNat ++ [x] ++ v.drop i.toNat, fr, h2, .no, .came rfl (ins_perm v i.toNat x) l24, hk2.up (by omega), ?_⟩
        refine if_t (by simp [w3, sh, nf, ltD, ordD, lt]) ?_
        exact seq_nx (by simp at ie; simp [e2, pe, ie]) rfl
      · obtain ⟨v', f', h', s5, c, hk, e⟩ := rest (by decide) (by decide)
        have lt : ¬ (v.length : Int) < 24 := by omega
        rw [List.map_cons] at nf e
        exact ⟨v', f', h', s5, c, hk, if_f (by simp [w3, sh, nf, ltD, ordD, lt]) e⟩
  · by_cases z1 : w = 1
    · subst z1
      cases v with
      | nil =>
        refine ⟨[], fresh, h1, .no, .moved (List.Perm.refl _), hk1.up (by omega), if_f (by simp [w3]) ?_⟩
        refine seq_nx (if_f (by simp at nv; simp [w4, sh, nv]) (seq_nx (if_f (by simp [w5]) (seq_nx (if_f (by simp at nv; simp [sh, nv]) rfl) rfl)) rfl)) rfl
      | cons x r =>
        rw [List.length_cons] at lv
        obtain ⟨i, h2, e2, i0, i1, hk2⟩ := take_spec hk1 (by omega) (m := (r.length : Int) + 1) (by omega) (by omega)
        obtain ⟨y, hy, ey, gy⟩ := pop_eq (ns := x :: r) i0 (by rw [List.length_cons]; omega) (by rw [List.length_cons]; omega)
        have pm := erase_perm gy
        rw [List.map_cons] at ey nv
        refine ⟨(x :: r).eraseIdx i.toNat, fresh, h2, .no, .gone pm, hk2.up (by omega), if_f (by simp [w3]) ?_⟩
        refine seq_nx (if_t (by simp [w4, sh, nv]) ?_) rfl
        exact seq_nx (by simp [e2, ey]) rfl
    · by_cases z2 : w = 2
      · subst z2
        refine ⟨v.reverse, fresh, h1, .no, .moved (List.reverse_perm v), hk1.up (by omega), if_f (by simp [w3]) ?_⟩
        refine seq_nx (if_f (by simp [w4]) (seq_nx (if_t (by simp [w5]) ?_) rfl)) rfl
        exact seq_nx (by simp) rfl
      · obtain ⟨v', f', h', s5, c, hk, e⟩ := rest z1 z2
        exact ⟨v', f', h', s5, c, hk, if_f (by simp [w3, z0]) e⟩
end Z
namespace Z
open PySem PySem.Spec PyProof.Rows L2 Gd Q
/-! ### histories -/
structure HOk (hs : List (List Str)) : Prop where
  ne : hs ≠ []
  nodup : ∀ v ∈ hs, v.Nodup
  row : ∀ v ∈ hs, ∀ z ∈ v, RowS z
  len : ∀ v ∈ hs, v.length ≤ 24
  stay : ∀ (i j k : Nat) (a b c : List Str) (z : Str), hs[i]? = some a → hs[j]? = some b → hs[k]? = some c → i < j → j < k → z ∈ a → z ∉ b → z ∉ c
structure HFr (hs : List (List Str)) (fresh names : List Str) : Prop where
  ok : HOk hs
  fnd : fresh.Nodup
  frow : ∀ z ∈ fresh, RowS z
  apart : ∀ v ∈ hs, ∀ z ∈ v, z ∉ fresh
  sub : ∀ v ∈ hs, ∀ z ∈ v, z ∈ names
  fsub : ∀ z ∈ fresh, z ∈ names
theorem HFr.step {hs : List (List Str)} {fresh names v v' fresh' : List Str} (h : HFr hs fresh names) (hl : hs.getLast? = some v) (c : Chg v fresh v' fresh') : HFr (hs ++ [v']) fresh' names := by
  have hv : v ∈ hs := List.mem_of_getLast? hl
  -- what the new version has
  have mem : ∀ z ∈ v', z ∈ v ∨ (z ∈ fresh ∧ z ∉ fresh') := by
    cases c with
    | moved p => exact fun z hz => .inl (p.subset hz)
    | gone p => exact fun z hz => .inl (p.subset (List.mem_cons_of_mem _ hz))
    | came e p _ =>
      subst e
      intro z hz
      rcases List.mem_cons.mp (p.subset hz) with q | q
      · exact .inr ⟨by rw [q]; exact List.mem_cons_self, by rw [q]; exact (List.nodup_cons.mp h.fnd).1⟩
      · exact .inl q
  have nd : v'.Nodup := by
    cases c with
    | moved p => exact p.nodup_iff.mpr (h.ok.nodup v hv)
    | gone p => exact (List.nodup_cons.mp (p.nodup_iff.mpr (h.ok.nodup v hv))).2
    | came e p _ =>
      subst e
      exact p.nodup_iff.mpr (List.nodup_cons.mpr ⟨fun z => h.apart v hv _ z List.mem_cons_self, h.ok.nodup v hv⟩)
  have len : v'.length ≤ 24 := by
    have lv := h.ok.len v hv
    cases c with
    | moved p => rw [p.length_eq]; exact lv
    | gone p =>
      have := p.length_eq
      rw [List.length_cons] at this
      omega
    | came e p l => rw [p.length_eq, List.length_cons]; omega
  have fs : ∀ z ∈ fresh', z ∈ fresh := by
    cases c with
    | moved _ => exact fun z hz => hz
    | gone _ => exact fun z hz => hz
    | came e _ _ =>
      subst e
      exact fun z hz => List.mem_cons_of_mem _ hz
  have fn : fresh'.Nodup := by
    cases c with
    | moved _ => exact h.fnd
    | gone _ => exact h.fnd
    | came e _ _ =>
      subst e
      exact (List.nodup_cons.mp h.fnd).2
  have two : ∀ {P : List Str → Prop}, (∀ u ∈ hs, P u) → P v' → ∀ u ∈ hs ++ [v'], P u := fun {P} a b u hu => by
    rcases List.mem_append.mp hu with q | q
    · exact a u q
    · rw [List.mem_singleton.mp q]
      exact b
  refine ⟨⟨by simp, two h.ok.nodup nd, two h.ok.row fun z hz => ?_, two h.ok.len len, fun i j k a b c z ha hb hc ij jk za zb zc => ?_⟩, fn, fun z hz => h.frow z (fs z hz), two (fun u hu z hz q => h.apart u hu z hz (fs z q)) fun z hz q => ?_, two h.sub fun z hz => ?_, fun z hz => h.fsub z (fs z hz)⟩
  · rcases mem z hz with q | q
    · exact h.ok.row v hv z q
    · exact h.frow z q.1
  · have lk : k < (hs ++ [v']).length := (List.getElem?_eq_some_iff.mp hc).1
    rw [List.length_append, List.length_singleton] at lk
    rw [List.getElem?_append_left (by omega)] at ha hb
    by_cases kl : k < hs.length
    · rw [List.getElem?_append_left kl] at hc
      exact h.ok.stay i j k a b c z ha hb hc ij jk za zb zc
    · have ke : k = hs.length := by omega
      subst ke
      rw [List.getElem?_append_right (Nat.le_refl _), Nat.sub_self] at hc
      cases hc
      rcases mem z zc with q | q
      · have gl : hs[hs.length - 1]? = some v := by rw [← List.getLast?_eq_getElem?]; exact hl
        by_cases jl : j = hs.length - 1
        · subst jl
          rw [gl] at hb
          cases hb
          exact zb q
        · exact h.ok.stay i j (hs.length - 1) a b v z ha hb gl ij (by omega) za zb q
      · exact h.apart a (List.mem_of_getElem? ha) z za q.1
  · rcases mem z hz with w | w
    · exact h.apart v hv z w (fs z q)
    · exact w.2 q
  · rcases mem z hz with q | q
    · exact h.sub v hv z q
    · exact h.fsub z q.1
def histD (hs : List (List Str)) : D := .tuple (hs.map verD)
theorem cutL_to {α : Type} (xs : List α) (c : Nat) : cutL xs none (some (c : Int)) = xs.take c := by
  unfold cutL
  rw [HT.sIx_none, HT.sIx_nat, List.drop_zero, Nat.sub_zero]
  by_cases h : c ≤ xs.length
  · rw [Nat.min_eq_left h]
  · rw [Nat.min_eq_right (by omega), List.take_length, List.take_of_length_le (by omega)]
theorem cutL_from {α : Type} (xs : List α) (c : Nat) : cutL xs (some (c : Int)) none = xs.drop c := by
  unfold cutL
  rw [HT.sIx_none, HT.sIx_nat]
  by_cases h : c ≤ xs.length
  · rw [Nat.min_eq_left h, List.take_of_length_le (by rw [List.length_drop]; omega)]
  · rw [Nat.min_eq_right (by omega), List.drop_of_length_le (l := xs) (by omega), List.drop_of_length_le (l := xs) (by omega), List.take_nil]
theorem atI_last {α : Type} {xs : List α} {x : α} (h : xs.getLast? = some x) : atI xs (-1) = some x := by
  have ne : xs ≠ [] := fun z => by
    rw [z] at h
    cases h
  have lp : 0 < xs.length := List.length_pos_iff.mpr ne
  have e : ixN xs.length (-1) = some (xs.length - 1) := by
    unfold ixN
    rw [if_neg (by decide)]
    have h1 : -(xs.length : Int) ≤ -1 := by omega
    have h2 : ((-1 : Int) + (xs.length : Int)).toNat = xs.length - 1 := by omega
    simp [h1, h2]
  unfold atI
  rw [e]
  show xs[xs.length - 1]? = some x
  rw [← List.getLast?_eq_getElem?]
  exact h
theorem hist_loop {names : List Str} {a1 a2 a3 a4 : Sl} : ∀ (is : List D) (hs : List (List Str)) (fresh : List Str) (h : List D) (n : Nat) (s7 : Sl), HFr hs fresh names → fresh.length ≤ 100 → hs.length + is.length ≤ 100 → HandOk h n → n + 5 * is.length < 1000000 →
    ∃ (hs' : List (List Str)) (fresh' : List Str) (h' : List D) (s' : Sl), loopD (gN 7) (bSeq (bEx (eMut appF 5 (eCons (eCall F__law_changed (eCons (eVar 0) (eCons (e2 ixD (eVar 5) (e1 negD (eC (.int 1)))) (eCons (eVar 6) eNil)))) eNil))) bNil) is
      [.own (.lst h), a1, a2, a3, a4, .own (.lst (hs.map verD)), .own (.lst (fresh.map PyData.str)), s7] = .ok .nx [.own (.lst h'), a1, a2, a3, a4, .own (.lst (hs'.map verD)), .own (.lst (fresh'.map PyData.str)), s'] ∧ HFr hs' fresh' names ∧ hs'.length = hs.length + is.length ∧ HandOk h' (n + 5 * is.length)
  | [], hs, fresh, h, n, s7, hf, _, _, hh, _ => ⟨hs, fresh, h, s7, rfl, hf, rfl, hh⟩
  | d :: is, hs, fresh, h, n, s7, hf, l1, l2, hh, hn => by
    rw [List.length_cons] at l2 hn
    obtain ⟨v, hv⟩ : ∃ v, hs.getLast? = some v := by
      cases e : hs.getLast? with
      | none => exact absurd (List.getLast?_eq_none_iff.mp e) hf.ok.ne
      | some v => exact ⟨v, rfl⟩
    have mv := List.mem_of_getLast? hv
    obtain ⟨v', fresh', h1, e1, c, hk⟩ := changed_spec (hf.ok.row v mv) hf.frow (hf.ok.len v mv) l1 hh (by omega)
    have fl : fresh'.length ≤ 100 := by
      cases c with
      | moved _ => exact l1
      | gone _ => exact l1
      | came e _ _ =>
        subst e
        rw [List.length_cons] at l1
        omega
    obtain ⟨hs2, fresh2, h2, s2, e2, hf2, len2, hk2⟩ := hist_loop (names := names) (a1 := a1) (a2 := a2) (a3 := a3) (a4 := a4) is (hs ++ [v']) fresh' h1 (n + 5) (.dat d) (hf.step hv c) fl (by rw [List.length_append, List.length_singleton]; omega) hk (by omega)
    refine ⟨hs2, fresh2, h2, s2, ?_, hf2, by rw [len2, List.length_append, List.length_singleton, List.length_cons]; omega, hk2.up (by rw [List.length_cons]; omega)⟩
    have la : atI (hs.map verD) (-1) = some (verD v) := atI_last (by rw [List.getLast?_map, hv]; rfl)
    have ap := app_eq (ds := hs.map verD) (x := verD v') (by rw [List.length_map]; omega)
    rw [List.map_append] at e2
    unfold loopD
    simp at e2
    simp [ixD, la, e1, ap, e2]
theorem for_eq {it : Mo (List D)} {g : Tg} {b : Mo Out} {ρ ρ1 : Ev} {ds : List D} {r : Rt Out} (hi : it ρ = .ok ds ρ1) (h : loopD g b ds ρ1 = r) : bFor it g b ρ = r := by
  unfold bFor
  rw [hi]
  exact h
theorem nodup_sub_len {xs : List Str} : ∀ {ys : List Str}, ys.Nodup → (∀ z ∈ ys, z ∈ xs) → ys.length ≤ xs.length
  | [], _, _ => Nat.zero_le _
  | y :: ys, nd, h => by
    obtain ⟨ny, nd⟩ := List.nodup_cons.mp nd
    have hy := h y List.mem_cons_self
    have e : xs.length = (xs.erase y).length + 1 := by
      have := List.length_erase_of_mem hy
      have : 0 < xs.length := List.length_pos_of_mem hy
      omega
    have := nodup_sub_len (xs := xs.erase y) nd fun z hz => (List.mem_erase_of_ne fun q => ny (by rw [← q]; exact hz)).mpr (h z (List.mem_cons_of_mem _ hz))
    rw [List.length_cons]
    omega
theorem history_names {h : List D} {n R V : Nat} (hR : R ≤ 24) (hV : 0 < V ∧ V ≤ 60) (hh : HandOk h n) (hn : n + 400 < 1000000) :
    ∃ (hs : List (List Str)) (h' : List D), F__law_history [.own (.lst h), .dat (.int R), .dat (.int V)] = .ok (.dat (histD hs)) [.own (.lst h'), .dat (.int R), .dat (.int V)] ∧ HOk hs ∧ hs.length ≤ V ∧ (∀ v ∈ hs, v.length ≤ R + 4) ∧ HandOk h' (n + 400) ∧ (∀ v ∈ hs, ∀ z ∈ v, z.length ≠ 7) ∧ ∃ names : List Str, names.length ≤ R + 4 ∧ names.length ≤ 24 ∧ ∀ v ∈ hs, ∀ z ∈ v, z ∈ names := by
  have em : (if ((R : Int) + 4) < 24 then ((R : Int) + 4) else 24) = ((min 24 (R + 4) : Nat) : Int) := by
    split <;> omega
  obtain ⟨ns, h1, e1, l1, nd, rw1, hk1, n7⟩ := names_spec (c := min 24 (R + 4)) hh (by omega) (by omega)
  obtain ⟨m, h2, e2, m0, m1, hk2⟩ := take_spec hk1 (by omega) (m := (R : Int) + 1) (by omega) (by omega)
  obtain ⟨k, rfl⟩ := Int.eq_ofNat_of_zero_le m0
  have tr : ∀ z ∈ ns.take k, RowS z := fun z hz => rw1 z (List.mem_of_mem_take hz)
  have lt : (ns.take k).length ≤ 24 := by
    rw [List.length_take]
    omega
  obtain ⟨v0, h3, e3, p3, hk3⟩ := shuffled_spec (Its.list (xs := (ns.take k).map PyData.str)) tr hk2 (by omega) (by omega)
  obtain ⟨t, h4, e4, t0, t1, hk4⟩ := take_spec hk3 (by omega) (m := (V : Int)) (by omega) (by omega)
  obtain ⟨c, rfl⟩ := Int.eq_ofNat_of_zero_le t0
  have hf : HFr [v0] (ns.drop k) ns := by
    have nd2 : (ns.take k ++ ns.drop k).Nodup := by rw [List.take_append_drop]; exact nd
    obtain ⟨n1, n2, n3⟩ := List.nodup_append.mp nd2
    refine ⟨⟨by simp, fun v hv => ?_, fun v hv z hz => ?_, fun v hv => ?_, fun i j k a b c z ha hb hc ij jk => ?_⟩, n2, fun z hz => rw1 z (List.mem_of_mem_drop hz), fun v hv z hz q => ?_, fun v hv z hz => ?_, fun z hz => List.mem_of_mem_drop hz⟩
    · rw [List.mem_singleton.mp hv]
      exact p3.nodup_iff.mpr n1
    · rw [List.mem_singleton.mp hv] at hz
      exact tr z (p3.subset hz)
    · rw [List.mem_singleton.mp hv, p3.length_eq]
      exact lt
    · have := (List.getElem?_eq_some_iff.mp hb).1
      rw [List.length_singleton] at this
      omega
    · rw [List.mem_singleton.mp hv] at hz
      exact n3 z (p3.subset hz) z q rfl
    · rw [List.mem_singleton.mp hv] at hz
      exact List.mem_of_mem_take (p3.subset hz)
  obtain ⟨hs, fr, h5, s5, e5, hf5, l5, hk5⟩ := hist_loop (names := ns) (a1 := .dat (.int R)) (a2 := .dat (.int V)) (a3 := .dat (.list (ns.map PyData.str))) (a4 := .dat (.int k)) ((List.range c).map fun i => .int (i : Nat)) [v0] (ns.drop k) h4 _ .no hf (by rw [List.length_drop]; omega) (by rw [List.length_map, List.length_range, List.length_singleton]; omega) hk4 (by rw [List.length_map, List.length_range]; omega)
  rw [List.length_map, List.length_range, List.length_singleton] at l5
  rw [List.length_map, List.length_range] at hk5
  refine ⟨hs, h5, ?_, hf5.ok, by omega, fun v hv => ?_, hk5.up (by omega), fun v hv z hz => n7 z (hf5.sub v hv z hz), ns, by omega, by omega, hf5.sub⟩
  · refine fn_run (ρ := [.own (.lst h5), .dat (.int R), .dat (.int V), .dat (.list (ns.map PyData.str)), .dat (.int k), .own (.lst (hs.map verD)), .own (.lst (fr.map PyData.str)), s5]) rfl ?_ (fin_rt rfl)
    refine seq_nx (ρ1 := [.own (.lst h1), .dat (.int R), .dat (.int V), .dat (.list (ns.map PyData.str)), .no, .no, .no, .no]) (by simp [em, e1]) ?_
    refine seq_nx (ρ1 := [.own (.lst h2), .dat (.int R), .dat (.int V), .dat (.list (ns.map PyData.str)), .dat (.int k), .no, .no, .no]) (by simp [e2]) ?_
    refine seq_nx (ρ1 := [.own (.lst h3), .dat (.int R), .dat (.int V), .dat (.list (ns.map PyData.str)), .dat (.int k), .own (.lst [verD v0]), .own (.lst ((ns.drop k).map PyData.str)), .no]) ?_ ?_
    · have c1 : cutL (ns.map PyData.str) none (some (k : Int)) = (ns.take k).map PyData.str := by rw [cutL_to, List.map_take]
      have c2 : cutL (ns.map PyData.str) (some (k : Int)) none = (ns.drop k).map PyData.str := by rw [cutL_from, List.map_drop]
      have sh := short_ok (ds := [verD v0]) (by simp)
      unfold verD at sh
      simp only [List.map_take] at e3 c1
      simp [c1, c2, e3, sh, verD]
    · refine seq_nx (ρ1 := [.own (.lst h5), .dat (.int R), .dat (.int V), .dat (.list (ns.map PyData.str)), .dat (.int k), .own (.lst (hs.map verD)), .own (.lst (fr.map PyData.str)), s5]) (for_eq (ds := (List.range c).map fun i => .int (i : Nat)) (ρ1 := [.own (.lst h4), .dat (.int R), .dat (.int V), .dat (.list (ns.map PyData.str)), .dat (.int k), .own (.lst [verD v0]), .own (.lst ((ns.drop k).map PyData.str)), .no]) ?_ e5) (seq_one (by simp [histD]) (fun z => nomatch z))
      simp [e4, range1_eq (c := c) (by omega)]
  · have := nodup_sub_len (hf5.ok.nodup v hv) (hf5.sub v hv)
    omega
theorem history_spec {h : List D} {n R V : Nat} (hR : R ≤ 24) (hV : 0 < V ∧ V ≤ 60) (hh : HandOk h n) (hn : n + 400 < 1000000) :
    ∃ (hs : List (List Str)) (h' : List D), F__law_history [.own (.lst h), .dat (.int R), .dat (.int V)] = .ok (.dat (histD hs)) [.own (.lst h'), .dat (.int R), .dat (.int V)] ∧ HOk hs ∧ hs.length ≤ V ∧ (∀ v ∈ hs, v.length ≤ R + 4) ∧ HandOk h' (n + 400) ∧ ∀ v ∈ hs, ∀ z ∈ v, z.length ≠ 7 := by
  obtain ⟨hs, h', q1, q2, q3, q4, q5, q6, _⟩ := history_names hR hV hh hn
  exact ⟨hs, h', q1, q2, q3, q4, q5, q6⟩
end Z
namespace Z
open PySem PySem.Spec PyProof.Rows L2 Gd Q
/-! ### a new hand -/
theorem pow_ok {i : Int} {j : Nat} (h : i.natAbs < 2 ^ 64) (hj : j ≤ 1000) : powD (.int i) (.int j) = some (.int (i ^ j)) := by
  show (if cb (0 ≤ (j : Int) ∧ (j : Int) ≤ 1000000 ∧ i.natAbs < 2 ^ 64) = true then some (PyData.int (i ^ (j : Int).toNat)) else none) = _
  rw [if_pos (cb_true ⟨by omega, by omega, h⟩), Int.toNat_natCast]
theorem mul_wide {i j : Int} {a b : Nat} (ha : i.natAbs < 2 ^ a) (hb : j.natAbs < 2 ^ b) (h0 : 0 < a) (h1 : 0 < b) (h : a + b ≤ 1000000) : mulA (.int i) (.int j) = some (.int (i * j)) := by
  show (if mulOk i j = true then some (PyData.int (i * j)) else none) = _
  unfold mulOk
  have : CMulW i j := wide_mul ha hb h0 h1 h
  rw [cb_true (p := i.natAbs.log2 + j.natAbs.log2 < 1000000) this, Bool.or_true]
  rfl
theorem hand_spec {ns : List Int} {k : Nat} (hk : k ≤ 1000) : ∃ h : List D, F__law_hand [.dat (scrD ns), .dat (.int k)] = .ok (.own (.lst h)) [.dat (scrD ns), .dat (.int k)] ∧ HandOk h 0 := by
  -- the cell
  obtain ⟨cell, ec⟩ : ∃ cell : Int, eIf (asB (e2 ltD (eVar 1) (eN lenD (eCons (eVar 0) eNil)))) (e2 ixD (eVar 0) (eVar 1)) (e2 addD (e2 mulA (eC (.int 7)) (eVar 1)) (eC (.int 3))) [.dat (scrD ns), .dat (.int k), .no, .no] = .ok (.d (.int cell)) [.dat (scrD ns), .dat (.int k), .no, .no] := by
    by_cases lt : k < ns.length
    · have l2 : (k : Int) < (ns.length : Int) := by omega
      have ea : atI (ns.map PyData.int) (k : Int) = some (.int ns[k]) := atI_nat (by rw [List.getElem?_map, List.getElem?_eq_getElem lt]; rfl)
      exact ⟨ns[k], by simp [scrD, ltD, ordD, l2, lt, ixD, ea]⟩
    · have l2 : ¬ (k : Int) < (ns.length : Int) := by omega
      have em := mulD_l (i := 7) (j := (k : Nat)) ⟨by decide, by decide⟩
      exact ⟨7 * (k : Int) + 3, by simp [scrD, ltD, ordD, l2, lt, em]⟩
  have p60 : powD (.int 10) (.int 60) = some (.int ((10 : Int) ^ 60)) := pow_ok (i := 10) (j := 60) (by decide) (by decide)
  have p18 : powD (.int 10) (.int 18) = some (.int ((10 : Int) ^ 18)) := pow_ok (i := 10) (j := 18) (by decide) (by decide)
  have b60 : ((10 : Int) ^ 60).natAbs < 2 ^ 200 := by decide +kernel
  have pos : (0 : Int) < 10 ^ 60 := by decide +kernel
  generalize (10 : Int) ^ 60 = t at p60 b60 pos
  generalize (10 : Int) ^ 18 = u at p18
  have t2 : (t * t).natAbs < 2 ^ 400 := by
    rw [Int.natAbs_mul, show (400 : Nat) = 200 + 200 from rfl, Nat.pow_add]
    exact Nat.mul_lt_mul'' b60 b60
  have t3 : (t * t * t).natAbs < 2 ^ 600 := by
    rw [Int.natAbs_mul, show (600 : Nat) = 400 + 200 from rfl, Nat.pow_add]
    exact Nat.mul_lt_mul'' t2 b60
  have q1 := mul_wide b60 b60 (by decide) (by decide) (by decide)
  have q2 := mul_wide t2 b60 (by decide) (by decide) (by decide)
  have q3 := mul_wide t3 b60 (by decide) (by decide) (by decide)
  have pt : 0 < t * t * t * t := Int.mul_pos (Int.mul_pos (Int.mul_pos pos pos) pos) pos
  generalize t * t * t * t = w at q3 pt
  have bit : ∀ b : Bool, mulA (.int ((if cell < 0 then -cell else cell) % w)) (.int (if b = true then 1 else 0)) = some (.int ((if cell < 0 then -cell else cell) % w * if b = true then 1 else 0)) := fun b => mulD_r (by cases b <;> decide)
  have k1 := mulD_l (i := 104729) (j := (k : Nat)) ⟨by decide, by decide⟩
  have k2 := mulD_r (i := 104729 * (k : Int)) (j := (k : Nat)) ⟨by omega, by omega⟩
  have k3 := mulD_r (i := cell % 2305843009213693951 + 104729 * (k : Int) * (k : Int) + 29) (j := 48271) ⟨by decide, by decide⟩
  generalize hb : decide (u ≤ if cell < 0 then -cell else cell) = b
  have bb := bit b
  generalize ha : (if cell < 0 then -cell else cell) = a at bb hb
  generalize hg : (a % w * if b = true then (1 : Int) else 0) = g at bb
  have g0 : 0 ≤ g := by
    rw [← hg]
    refine Int.mul_nonneg (Int.emod_nonneg _ (by omega)) ?_
    split <;> decide
  have sh := short_ok (ds := [.int g, .int ((cell % 2305843009213693951 + 104729 * (k : Int) * (k : Int) + 29) * 48271 % 2305843009213693921), .int 0]) (by simp)
  refine ⟨[.int g, .int ((cell % 2305843009213693951 + 104729 * (k : Int) * (k : Int) + 29) * 48271 % 2305843009213693921), .int 0], ?_, g, _, 0, rfl, g0, Int.emod_nonneg _ (by decide), Int.lt_of_lt_of_le (Int.emod_lt_of_pos _ (by decide)) (by decide), by decide, by decide⟩
  refine fn_run (ρ := [.dat (scrD ns), .dat (.int k), .dat (.int cell), .dat (.int g)]) rfl ?_ (fin_rf rfl)
  refine seq_nx (ρ1 := [.dat (scrD ns), .dat (.int k), .dat (.int cell), .no]) (by show bSet 2 _ _ = _; unfold bSet; rw [show ([Sl.dat (scrD ns), .dat (.int k)] ++ List.replicate (4 - 2) Sl.no) = [.dat (scrD ns), .dat (.int k), .no, .no] from rfl, ec]; simp) ?_
  refine seq_nx (ρ1 := [.dat (scrD ns), .dat (.int k), .dat (.int cell), .dat (.int g)]) ?_ ?_
  · simp [p60, p18, q1, q2, q3, modD, pt, geD, ordD, ha, hb, bb]
  · exact seq_one (by simp [modD, k1, k2, k3, sh]) (fun z => nomatch z)
end Z
namespace Z
open PySem PySem.Spec PyProof.Rows L2 Gd Q
theorem set_set {α : Type} (l : List α) (i : Nat) (a b : α) : (l.set i a).set i b = l.set i b := by
  apply List.ext_getElem?
  intro j
  simp only [List.getElem?_set]
  split
  · simp
  · rfl
theorem set_self {l : List Sl} {i : Nat} (h : i < l.length) : l.set i (l.getD i .no) = l := by
  apply List.ext_getElem?
  intro j
  simp only [List.getElem?_set, List.getD_eq_getElem?_getD]
  split
  · next e =>
    subst e
    simp [h]
  · rfl
theorem gN_eq {i : Nat} {ρ : Ev} {d : D} (h : i < ρ.length) : gN i d ρ = some (ρ.set i (.dat d)) := if_pos h
/-- a comprehension over one name that changes nothing -/
theorem comp_pure {i : Nat} {t : Mo Bool} {e : Mo R} {ρ : Ev} {p : D → Bool} {f : D → D} (li : i < ρ.length) : ∀ (ds : List D), (∀ d ∈ ds, t (ρ.set i (.dat d)) = .ok (p d) (ρ.set i (.dat d))) → (∀ d ∈ ds, p d = true → e (ρ.set i (.dat d)) = .ok (.d (f d)) (ρ.set i (.dat d))) →
    compD (gN i) t e [i] ds (ρ.set i .no) = .ok ((ds.filter p).map f) (ρ.set i .no)
  | [], _, _ => rfl
  | d :: ds, ht, he => by
    have ih := comp_pure (t := t) (e := e) (ρ := ρ) (p := p) (f := f) li ds (fun d hd => ht d (List.mem_cons_of_mem _ hd)) fun d hd => he d (List.mem_cons_of_mem _ hd)
    have h1 := ht d List.mem_cons_self
    have w : wipeE (ρ.set i (.dat d)) [i] = ρ.set i .no := set_set ρ i _ _
    unfold compD
    rw [gN_eq (by rw [List.length_set]; exact li), set_set]
    dsimp only
    rw [h1]
    cases hp : p d with
    | false =>
      show compD (gN i) t e [i] ds (wipeE (ρ.set i (.dat d)) [i]) = _
      rw [w, ih, List.filter_cons, hp]
      rfl
    | true =>
      have h2 := he d List.mem_cons_self hp
      show (e (ρ.set i (.dat d))).bnd _ = _
      rw [h2]
      show (compD (gN i) t e [i] ds (wipeE (ρ.set i (.dat d)) [i])).bnd _ = _
      rw [w, ih, List.filter_cons, hp]
      rfl
theorem fcomp_pure {i : Nat} {it : Mo (List D)} {t : Mo Bool} {e : Mo R} {ρ : Ev} {ds : List D} (p : D → Bool) (f : D → D) (li : i < ρ.length) (no : noOwn ρ [i] = true) (hi : it ρ = .ok ds ρ) (hl : ds.length ≤ 1000) (ht : ∀ d ∈ ds, t (ρ.set i (.dat d)) = .ok (p d) (ρ.set i (.dat d))) (he : ∀ d ∈ ds, p d = true → e (ρ.set i (.dat d)) = .ok (.d (f d)) (ρ.set i (.dat d))) :
    fComp it (gN i) t e [i] ρ = .ok (.lst ((ds.filter p).map f)) ρ := by
  refine comp_eq hi (sz1000 hl) no (comp_pure li ds ht he) ?_
  show ((ρ.set i .no).set i (ρ.getD i .no)) = ρ
  rw [set_set, set_self li]
theorem fcomp_map {i : Nat} {it : Mo (List D)} {e : Mo R} {ρ : Ev} {ds : List D} (f : D → D) (li : i < ρ.length) (no : noOwn ρ [i] = true) (hi : it ρ = .ok ds ρ) (hl : ds.length ≤ 1000) (he : ∀ d ∈ ds, e (ρ.set i (.dat d)) = .ok (.d (f d)) (ρ.set i (.dat d))) :
    fComp it (gN i) bYes e [i] ρ = .ok (.lst (ds.map f)) ρ := by
  have := fcomp_pure (t := bYes) (e := e) (fun _ => true) f li no hi hl (fun _ _ => rfl) fun d hd _ => he d hd
  rw [List.filter_eq_self.mpr fun _ _ => rfl] at this
  exact this
/-! ### the first place where something holds -/
def enumFrom (k : Nat) (ds : List D) : List D := (ds.zipIdx k).map fun p => Q.pairD (.int (p.2 : Nat)) p.1
theorem enumD_from (ds : List D) : enumD ds = enumFrom 0 ds := rfl
theorem set_comm2 {l : List Sl} {a b : Nat} {x y z : Sl} (h : a ≠ b) : ((l.set a x).set b y).set a z = (l.set a z).set b y := by
  rw [List.set_comm _ _ h.symm, set_set]
abbrev g2 (a b : Nat) : Tg := gT 2 (gsCons (gN a) (gsCons (gN b) gsNil))
theorem g2_eq {a b : Nat} {ρ : Ev} {d e : D} (ha : a < ρ.length) (hb : b < ρ.length) : g2 a b (Q.pairD d e) ρ = some ((ρ.set a (.dat d)).set b (.dat e)) := by
  have hb2 : b < (ρ.set a (.dat d)).length := by rw [List.length_set]; exact hb
  simp [Q.pairD, ha, hb]
theorem loop_first {a b : Nat} {ρ : Ev} {body : Mo Out} {p : D → Bool} (hab : a ≠ b) (ha : a < ρ.length) (hb : b < ρ.length) : ∀ (ds : List D) (k : Nat) (x y : Sl), (∀ d ∈ ds, ∀ k : Nat, (p d = true → body ((ρ.set a (.dat (.int k))).set b (.dat d)) = .ok (.rt (.d (.int k))) ((ρ.set a (.dat (.int k))).set b (.dat d))) ∧ (p d = false → body ((ρ.set a (.dat (.int k))).set b (.dat d)) = .ok .nx ((ρ.set a (.dat (.int k))).set b (.dat d)))) →
    ∃ x' y', loopD (g2 a b) body (enumFrom k ds) ((ρ.set a x).set b y) = match ds.findIdx? p with
      | some j => .ok (.rt (.d (.int ((k + j : Nat))))) ((ρ.set a x').set b y')
      | none => .ok .nx ((ρ.set a x').set b y')
  | [], k, x, y, _ => ⟨x, y, rfl⟩
  | d :: ds, k, x, y, h => by
    have h1 := h d List.mem_cons_self k
    have l1 : a < ((ρ.set a x).set b y).length := by rw [List.length_set, List.length_set]; exact ha
    have l2 : b < ((ρ.set a x).set b y).length := by rw [List.length_set, List.length_set]; exact hb
    have e1 : enumFrom k (d :: ds) = Q.pairD (.int (k : Nat)) d :: enumFrom (k + 1) ds := rfl
    have e2 : (((ρ.set a x).set b y).set a (.dat (.int k))).set b (.dat d) = (ρ.set a (.dat (.int k))).set b (.dat d) := by rw [set_comm2 hab, set_set]
    rw [e1]
    unfold loopD
    rw [g2_eq l1 l2, e2]
    dsimp only
    rw [List.findIdx?_cons]
    cases hp : p d with
    | true =>
      rw [h1.1 hp]
      exact ⟨.dat (.int k), .dat d, rfl⟩
    | false =>
      rw [h1.2 hp]
      obtain ⟨x', y', e⟩ := loop_first (p := p) hab ha hb ds (k + 1) (.dat (.int k)) (.dat d) fun d hd => h d (List.mem_cons_of_mem _ hd)
      refine ⟨x', y', ?_⟩
      show loopD (g2 a b) body (enumFrom (k + 1) ds) ((ρ.set a (.dat (.int k))).set b (.dat d)) = _
      rw [e]
      cases ds.findIdx? p with
      | none => rfl
      | some j =>
        show Rt.ok (Out.rt (.d (.int ((k + 1 + j : Nat))))) _ = Rt.ok (Out.rt (.d (.int ((k + (j + 1) : Nat))))) _
        rw [show k + 1 + j = k + (j + 1) by omega]
/-! ### rows in rows -/
theorem eqv_str (a b : Str) : PyData.eqv (.str a) (.str b) = (a == b) := rfl
theorem any_strs (x : Str) : ∀ ys : List Str, ((ys.map PyData.str).any fun z => PyData.eqv z (.str x)) = ys.contains x
  | [] => rfl
  | y :: ys => by
    rw [List.map_cons, List.any_cons, any_strs x ys, List.contains_cons]
    show ((y == x) || _) = _
    rw [show (y == x) = (x == y) from Bool.eq_iff_iff.mpr (by rw [beq_iff_eq, beq_iff_eq]; exact eq_comm)]
theorem inT {x : Str} {ys : List Str} (hx : RowS x) (hy : ∀ z ∈ ys, RowS z) : inF (.str x) (.tuple (ys.map PyData.str)) = some (.bool (ys.contains x)) := by
  show Option.map PyData.bool (if SeqAt.shaped (PyData.str x) = true ∧ PyData.canLayAll0 (ys.map PyData.str) = true then some ((ys.map PyData.str).any fun z => PyData.eqv z (.str x)) else none) = _
  rw [if_pos ⟨shaped_str hx, lay_strs ys fun z hz => (hy z hz).ok⟩, any_strs]
  rfl
theorem inLs {x : Str} {ys : List Str} (hx : RowS x) (hy : ∀ z ∈ ys, RowS z) : inF (.str x) (.list (ys.map PyData.str)) = some (.bool (ys.contains x)) := by
  show Option.map PyData.bool (if SeqAt.shaped (PyData.str x) = true ∧ PyData.canLayAll0 (ys.map PyData.str) = true then some ((ys.map PyData.str).any fun z => PyData.eqv z (.str x)) else none) = _
  rw [if_pos ⟨shaped_str hx, lay_strs ys fun z hz => (hy z hz).ok⟩, any_strs]
  rfl
theorem ninT {x : Str} {ys : List Str} (hx : RowS x) (hy : ∀ z ∈ ys, RowS z) : ninF (.str x) (.tuple (ys.map PyData.str)) = some (.bool (!ys.contains x)) := by
  show Option.map (fun r => PyData.bool (!r)) (if SeqAt.shaped (PyData.str x) = true ∧ PyData.canLayAll0 (ys.map PyData.str) = true then some ((ys.map PyData.str).any fun z => PyData.eqv z (.str x)) else none) = _
  rw [if_pos ⟨shaped_str hx, lay_strs ys fun z hz => (hy z hz).ok⟩, any_strs]
  rfl
theorem findIdx_map {α β : Type} (f : α → β) (p : β → Bool) : ∀ l : List α, (l.map f).findIdx? p = l.findIdx? (p ∘ f)
  | [] => rfl
  | x :: l => by
    rw [List.map_cons, List.findIdx?_cons, List.findIdx?_cons, findIdx_map f p l]
    rfl
def strOf : D → Str
  | .str z => z
  | _ => ""
/-- how many first rows have no live row outside of some -/
def lim (v live w : List Str) : Nat := (v.findIdx? fun z => !w.contains z && live.contains z).getD v.length
end Z
namespace Z
open PySem PySem.Spec PyProof.Rows L2 Gd Q
theorem bool2 (b : Bool) : b = true ∨ b = false := by cases b <;> simp
abbrev Rows (v : List Str) : Prop := ∀ z ∈ v, RowS z
theorem prefix_length_spec {v live w : List Str} (hv : Rows v) (hl : Rows live) (hs : Rows w) : F_prefix_length [.dat (verD v), .dat (verD live), .dat (verD w)] = .ok (.dat (.int (lim v live w))) [.dat (verD v), .dat (verD live), .dat (verD w)] := by
  obtain ⟨x, y, e⟩ := loop_first (a := 3) (b := 4) (ρ := [.dat (verD v), .dat (verD live), .dat (verD w), .no, .no]) (p := fun d => !w.contains (strOf d) && live.contains (strOf d))
    (body := bSeq (bIf (bAnd (asB (e2 ninF (eVar 4) (eVar 2))) (asB (e2 inF (eVar 4) (eVar 1)))) (bSeq (bRet (eVar 3)) bNil) bNil) bNil) (by decide) (by simp) (by simp) (v.map PyData.str) 0 .no .no (fun d hd k => by
      obtain ⟨z, hz, rfl⟩ := List.mem_map.mp hd
      have i1 := inT (hv z hz) hl
      have i2 := ninT (hv z hz) hs
      refine ⟨fun hp => ?_, fun hp => ?_⟩ <;> (have hp : (!w.contains z && live.contains z) = _ := hp) <;> rcases bool2 (w.contains z) with h1 | h1 <;> rcases bool2 (live.contains z) with h2 | h2 <;> rw [h1, h2] at hp <;> first | (exact absurd hp (by decide)) | (rw [h1] at i2; rw [h2] at i1; simp [verD, i1, i2]))
  rw [findIdx_map] at e
  have it : iMap enF (eCons (eVar 0) eNil) [.dat (verD v), .dat (verD live), .dat (verD w), .no, .no] = .ok (enumFrom 0 (v.map PyData.str)) [.dat (verD v), .dat (verD live), .dat (verD w), .no, .no] := by
    simp [verD, enumD_from]
  have ef : (fun d => !w.contains (strOf d) && live.contains (strOf d)) ∘ PyData.str = fun z => !w.contains z && live.contains z := rfl
  rw [ef] at e
  unfold lim
  cases hf : v.findIdx? fun z => !w.contains z && live.contains z with
  | none =>
    rw [hf] at e
    refine fn_run (ρ := [.dat (verD v), .dat (verD live), .dat (verD w), x, y]) rfl ?_ (fin_rt rfl)
    exact seq_nx (for_eq it e) (seq_one (by simp [verD]) (fun z => nomatch z))
  | some j =>
    rw [hf] at e
    refine fn_run (ρ := [.dat (verD v), .dat (verD live), .dat (verD w), x, y]) rfl ?_ (fin_rt rfl)
    refine seq_one ((for_eq it e).trans ?_) (fun z => nomatch z)
    show Rt.ok (Out.rt (.d (.int ((0 + j : Nat))))) _ = _
    rw [Nat.zero_add]
    rfl
theorem last_at {hs : List (List Str)} {last : List Str} (h : hs.getLast? = some last) : atI (hs.map verD) (-1) = some (verD last) := atI_last (by rw [List.getLast?_map, h]; rfl)
def intD' (n : Nat) : D := .int (n : Nat)
def limsD (hs : List (List Str)) (last w : List Str) : List D := hs.map fun v => .int (lim v last w : Nat)
theorem prefix_lengths_spec {hs : List (List Str)} {last w : List Str} (hh : HOk hs) (hl : hs.getLast?= some last) (hs' : Rows w) (ll : hs.length ≤ 1000) :
    F_prefix_lengths [.dat (histD hs), .dat (verD w)] = .ok (.dat (.tuple (limsD hs last w))) [.dat (histD hs), .dat (verD w)] := by
  have ml := List.mem_of_getLast? hl
  have la := last_at hl
  have c := fcomp_map (i := 2) (it := iSeq (eVar 0)) (e := eCall F_prefix_length (eCons (eVar 2) (eCons (e2 ixD (eVar 0) (e1 negD (eC (.int 1)))) (eCons (eVar 1) eNil)))) (ρ := [.dat (histD hs), .dat (verD w), .no]) (ds := hs.map verD)
    (fun d => match d with
      | .tuple ds => .int (lim (ds.map strOf) last w : Nat)
      | d => d) (by simp) rfl (by simp [histD]) (by rw [List.length_map]; exact ll) (fun d hd => by
      obtain ⟨v, hv, rfl⟩ := List.mem_map.mp hd
      have e := prefix_length_spec (v := v) (live := last) (w := w) (hh.row v hv) (hh.row last ml) hs'
      have es : (v.map PyData.str).map strOf = v := by
        rw [List.map_map]
        exact List.map_id v
      simp [histD, ixD, la, e]
      simp [verD, es])
  refine fn_run (ρ := [.dat (histD hs), .dat (verD w), .no]) rfl ?_ (fin_rt rfl)
  refine seq_one ?_ (fun z => nomatch z)
  have em : (hs.map verD).map (fun d => match d with
      | .tuple ds => PyData.int (lim (ds.map strOf) last w : Nat)
      | d => d) = limsD hs last w := by
    unfold limsD
    rw [List.map_map]
    refine List.map_congr_left fun v hv => ?_
    have es : (v.map PyData.str).map strOf = v := by
      rw [List.map_map]
      exact List.map_id v
    show PyData.int (lim ((v.map PyData.str).map strOf) last w : Nat) = _
    rw [es]
  rw [em] at c
  simp only [bRet, eN, eCons, eNil, eLock]
  rw [show ([Sl.dat (histD hs), .dat (verD w)] ++ List.replicate (3 - 2) Sl.no) = [.dat (histD hs), .dat (verD w), .no] from rfl, c]
  rfl
end Z
namespace Z
open PySem PySem.Spec PyProof.Rows L2 Gd Q
/-! ### a comprehension over two names -/
theorem comp_pure2 {a b : Nat} {e : Mo R} {ρ : Ev} {f : D → D} (hab : a ≠ b) (ha : a < ρ.length) (hb : b < ρ.length) : ∀ (ds : List D), (∀ d ∈ ds, ∃ x y, d = Q.pairD x y ∧ e ((ρ.set a (.dat x)).set b (.dat y)) = .ok (.d (f d)) ((ρ.set a (.dat x)).set b (.dat y))) →
    compD (g2 a b) bYes e [a, b] ds ((ρ.set b .no).set a .no) = .ok (ds.map f) ((ρ.set b .no).set a .no)
  | [], _ => rfl
  | d :: ds, h => by
    have ih := comp_pure2 (e := e) (ρ := ρ) (f := f) hab ha hb ds fun d hd => h d (List.mem_cons_of_mem _ hd)
    obtain ⟨x, y, rfl, he⟩ := h d List.mem_cons_self
    have l1 : a < ((ρ.set b .no).set a .no).length := by rw [List.length_set, List.length_set]; exact ha
    have l2 : b < ((ρ.set b .no).set a .no).length := by rw [List.length_set, List.length_set]; exact hb
    have e2 : (((ρ.set b .no).set a .no).set a (.dat x)).set b (.dat y) = (ρ.set a (.dat x)).set b (.dat y) := by
      rw [set_set, List.set_comm _ _ (Ne.symm hab), set_set]
    have w : wipeE ((ρ.set a (.dat x)).set b (.dat y)) [a, b] = (ρ.set b .no).set a .no := by
      show (((ρ.set a (.dat x)).set b (.dat y)).set b .no).set a .no = _
      rw [set_set, List.set_comm _ _ hab, set_set]
    unfold compD
    rw [g2_eq l1 l2, e2]
    show (e ((ρ.set a (.dat x)).set b (.dat y))).bnd _ = _
    rw [he]
    show (compD (g2 a b) bYes e [a, b] ds (wipeE ((ρ.set a (.dat x)).set b (.dat y)) [a, b])).bnd _ = _
    rw [w, ih]
    rfl
theorem fcomp_map2 {a b : Nat} {it : Mo (List D)} {e : Mo R} {ρ : Ev} {ds : List D} (f : D → D) (hab : a ≠ b) (ha : a < ρ.length) (hb : b < ρ.length) (no : noOwn ρ [a, b] = true) (hi : it ρ = .ok ds ρ) (hl : ds.length ≤ 1000) (he : ∀ d ∈ ds, ∃ x y, d = Q.pairD x y ∧ e ((ρ.set a (.dat x)).set b (.dat y)) = .ok (.d (f d)) ((ρ.set a (.dat x)).set b (.dat y))) :
    fComp it (g2 a b) bYes e [a, b] ρ = .ok (.lst (ds.map f)) ρ := by
  refine comp_eq hi (sz1000 hl) no (comp_pure2 hab ha hb ds he) ?_
  show ((((ρ.set b .no).set a .no).set b (ρ.getD b .no)).set a (ρ.getD a .no)) = ρ
  rw [List.set_comm _ _ (Ne.symm hab), set_set, List.set_comm _ _ hab, set_set, set_self hb, set_self ha]
/-! ### prefixes -/
def pfx (v last w : List Str) : List Str := v.take (lim v last w)
theorem zip_lims (hs : List (List Str)) (last w : List Str) : zipD (hs.map verD) (limsD hs last w) = hs.map fun v => Q.pairD (verD v) (.int (lim v last w : Nat)) := by
  unfold zipD limsD
  induction hs with
  | nil => rfl
  | cons v hs ih => rw [List.map_cons, List.map_cons, List.zipWith_cons_cons, ih]; rfl
theorem prefixes_within_spec {hs : List (List Str)} {last w : List Str} (hh : HOk hs) (hl : hs.getLast? = some last) (hw : Rows w) (ll : hs.length ≤ 1000) :
    F_prefixes_within [.dat (histD hs), .dat (verD w)] = .ok (.own (.lst (hs.map fun v => verD (pfx v last w)))) [.dat (histD hs), .dat (verD w)] := by
  have e1 := prefix_lengths_spec hh hl hw ll
  have c := fcomp_map2 (a := 2) (b := 3) (it := iMap zipF (eCons (eVar 0) (eCons (eCall F_prefix_lengths (eCons (eVar 0) (eCons (eVar 1) eNil))) eNil))) (e := eSl (eVar 2) pNo (pSo (eVar 3))) (ρ := [.dat (histD hs), .dat (verD w), .no, .no]) (ds := hs.map fun v => Q.pairD (verD v) (.int (lim v last w : Nat)))
    (fun d => match d with
      | .dict [(_, .tuple ds), (_, .int i)] => .tuple (ds.take i.toNat)
      | d => d) (by decide) (by simp) (by simp) rfl (by
        have z := zip_lims hs last w
        simp [e1]
        simp [histD, z]) (by rw [List.length_map]; exact ll) (fun d hd => by
      obtain ⟨v, hv, rfl⟩ := List.mem_map.mp hd
      refine ⟨_, _, rfl, ?_⟩
      have cl := cutL_to (v.map PyData.str) (lim v last w)
      simp [verD, Q.pairD, cl])
  have em : (hs.map fun v => Q.pairD (verD v) (.int (lim v last w : Nat))).map (fun d => match d with
      | .dict [(_, .tuple ds), (_, .int i)] => .tuple (ds.take i.toNat)
      | d => d) = hs.map fun v => verD (pfx v last w) := by
    rw [List.map_map]
    refine List.map_congr_left fun v hv => ?_
    show PyData.tuple ((v.map PyData.str).take (lim v last w : Int).toNat) = verD (v.take (lim v last w))
    rw [Int.toNat_natCast, ← List.map_take]
    rfl
  rw [em] at c
  exact fn_run (ρ := [.dat (histD hs), .dat (verD w), .no, .no]) rfl (seq_one (retF_eq c) (fun z => nomatch z)) (fin_rf rfl)
theorem pfx_row {v last w : List Str} (h : Rows v) : Rows (pfx v last w) := fun z hz => h z (List.mem_of_mem_take hz)
/-! ### supports -/
def natD : Option Nat → D
  | some j => .int (j : Nat)
  | none => .none
theorem first_support_spec {ps : List (List Str)} {z : Str} (hp : ∀ p ∈ ps, Rows p) (hz : RowS z) : F_first_support [.dat (.list (ps.map verD)), .dat (.str z)] = .ok (.dat (natD (ps.findIdx? fun p => p.contains z))) [.dat (.list (ps.map verD)), .dat (.str z)] := by
  obtain ⟨x, y, e⟩ := loop_first (a := 2) (b := 3) (ρ := [.dat (.list (ps.map verD)), .dat (.str z), .no, .no]) (p := fun d => match d with
      | .tuple ds => (ds.map strOf).contains z
      | _ => false)
    (body := bSeq (bIf (asB (e2 inF (eVar 1) (eVar 3))) (bSeq (bRet (eVar 2)) bNil) bNil) bNil) (by decide) (by simp) (by simp) (ps.map verD) 0 .no .no (fun d hd k => by
      obtain ⟨p, hpm, rfl⟩ := List.mem_map.mp hd
      have i1 := inT hz (hp p hpm)
      have es : (p.map PyData.str).map strOf = p := by
        rw [List.map_map]
        exact List.map_id p
      refine ⟨fun h => ?_, fun h => ?_⟩ <;> (have h : ((p.map PyData.str).map strOf).contains z = _ := h) <;> rw [es] at h <;> rw [h] at i1 <;> simp [verD, i1])
  rw [findIdx_map] at e
  have it : iMap enF (eCons (eVar 0) eNil) [.dat (.list (ps.map verD)), .dat (.str z), .no, .no] = .ok (enumFrom 0 (ps.map verD)) [.dat (.list (ps.map verD)), .dat (.str z), .no, .no] := by
    simp [enumD_from]
  have ef : (fun d : D => match d with
      | .tuple ds => (ds.map strOf).contains z
      | _ => false) ∘ verD = fun p => p.contains z := by
    funext p
    show ((p.map PyData.str).map strOf).contains z = _
    rw [List.map_map]
    exact congrArg (fun l : List Str => l.contains z) (List.map_id p)
  rw [ef] at e
  cases hf : ps.findIdx? fun p => p.contains z with
  | none =>
    rw [hf] at e
    refine fn_run (ρ := [.dat (.list (ps.map verD)), .dat (.str z), x, y]) rfl ?_ (fin_rt rfl)
    exact seq_nx (for_eq it e) (seq_one rfl (fun z => nomatch z))
  | some j =>
    rw [hf] at e
    refine fn_run (ρ := [.dat (.list (ps.map verD)), .dat (.str z), x, y]) rfl ?_ (fin_rt rfl)
    refine seq_one ((for_eq it e).trans ?_) (fun z => nomatch z)
    show Rt.ok (Out.rt (.d (.int ((0 + j : Nat))))) _ = _
    rw [Nat.zero_add]
    rfl
def supp (hs : List (List Str)) (last w : List Str) (z : Str) : Option Nat := hs.findIdx? fun v => (pfx v last w).contains z
theorem any_none : ∀ l : List (Option Nat), ((l.map natD).any fun d => PyData.eqv d .none) = l.any fun o => o.isNone
  | [] => rfl
  | o :: l => by
    rw [List.map_cons, List.any_cons, List.any_cons, any_none l]
    cases o <;> rfl
theorem lay_nat : ∀ l : List (Option Nat), PyData.canLayAll0 (l.map natD) = true
  | [] => rfl
  | o :: l => by
    show (PyData.canLay0 (natD o) && PyData.canLayAll0 (l.map natD)) = true
    rw [lay_nat l]
    cases o <;> rfl
theorem in_none (l : List (Option Nat)) : inF .none (.list (l.map natD)) = some (.bool (l.any fun o => o.isNone)) := by
  show Option.map PyData.bool (if SeqAt.shaped PyData.none = true ∧ PyData.canLayAll0 (l.map natD) = true then some ((l.map natD).any fun z => PyData.eqv z .none) else none) = _
  rw [if_pos ⟨rfl, lay_nat l⟩, any_none]
  rfl
theorem any_all (f : Str → Option Nat) : ∀ w : List Str, ((w.map f).any fun o => o.isNone) = !(w.all fun z => (f z).isSome)
  | [] => rfl
  | z :: w => by
    rw [List.map_cons, List.any_cons, List.all_cons, any_all f w]
    cases f z <;> rfl
def suppsD (hs : List (List Str)) (last w : List Str) : D := if (w.all fun z => (supp hs last w z).isSome) = true then .tuple (w.map fun z => natD (supp hs last w z)) else .none
theorem find_supports_spec {hs : List (List Str)} {last w : List Str} (hh : HOk hs) (hl : hs.getLast? = some last) (hw : Rows w) (ll : hs.length ≤ 1000) (lw : w.length ≤ 1000) :
    F_find_supports [.dat (histD hs), .dat (verD w)] = .ok (.dat (suppsD hs last w)) [.dat (histD hs), .dat (verD w)] := by
  have e1 := prefixes_within_spec hh hl hw ll
  have c := fcomp_map (i := 4) (it := iSeq (eVar 1)) (e := eCall F_first_support (eCons (eVar 2) (eCons (eVar 4) eNil))) (ρ := [.dat (histD hs), .dat (verD w), .dat (.list (hs.map fun v => verD (pfx v last w))), .no, .no]) (ds := w.map PyData.str)
    (fun d => natD (supp hs last w (strOf d))) (by simp) rfl (by simp [verD]) (by rw [List.length_map]; exact lw) (fun d hd => by
      obtain ⟨z, hz, rfl⟩ := List.mem_map.mp hd
      have e := first_support_spec (ps := hs.map fun v => pfx v last w) (z := z) (fun p hp => by
        obtain ⟨v, hv, rfl⟩ := List.mem_map.mp hp
        exact pfx_row (hh.row v hv)) (hw z hz)
      rw [List.map_map, findIdx_map] at e
      have e : F_first_support [.dat (.list (hs.map fun v => verD (pfx v last w))), .dat (.str z)] = .ok (.dat (natD (supp hs last w z))) [.dat (.list (hs.map fun v => verD (pfx v last w))), .dat (.str z)] := e
      simp [e, strOf])
  have em : (w.map PyData.str).map (fun d => natD (supp hs last w (strOf d))) = (w.map fun z => supp hs last w z).map natD := by
    rw [List.map_map, List.map_map]
    rfl
  rw [em] at c
  have i1 := in_none (w.map fun z => supp hs last w z)
  have ea := any_all (supp hs last w) w
  have i1 : inF .none (.list ((w.map fun z => supp hs last w z).map natD)) = some (.bool (!(w.all fun z => (supp hs last w z).isSome))) := by rw [i1]; exact congrArg (fun b => some (PyData.bool b)) ea
  unfold suppsD
  refine fn_run (ρ := [.dat (histD hs), .dat (verD w), .dat (.list (hs.map fun v => verD (pfx v last w))), .dat (.list ((w.map fun z => supp hs last w z).map natD)), .no]) rfl ?_ (fin_rt rfl)
  refine seq_nx (ρ1 := [.dat (histD hs), .dat (verD w), .dat (.list (hs.map fun v => verD (pfx v last w))), .no, .no]) (by simp [e1]) ?_
  refine seq_nx (ρ1 := [.dat (histD hs), .dat (verD w), .dat (.list (hs.map fun v => verD (pfx v last w))), .dat (.list ((w.map fun z => supp hs last w z).map natD)), .no]) (by show bSet 3 (eLock _) _ = _; unfold bSet eLock; rw [c]; rfl) ?_
  rcases bool2 (w.all fun z => (supp hs last w z).isSome) with h | h
  · rw [h] at i1
    rw [if_pos h]
    refine seq_nx (if_f (by rw [List.map_map] at i1; simp [i1]) rfl) (seq_one ?_ (fun z => nomatch z))
    simp
  · rw [h] at i1
    rw [if_neg (by rw [h]; exact Bool.false_ne_true)]
    exact seq_one (if_t (by rw [List.map_map] at i1; simp [i1]) (seq_one rfl (fun z => nomatch z))) (fun z => nomatch z)
end Z
namespace Z
open PySem PySem.Spec PyProof.Rows L2 Gd Q
/-! ### the live rows -/
theorem sort_ver {v : List Str} (l : v.length < 64) : sortedD [verD v] = some ((srt v).map PyData.str) := by
  show (strsD (v.map PyData.str)).bind _ = _
  rw [strsD_of]
  exact if_pos l
theorem live_rows_spec {hs : List (List Str)} {last : List Str} (hl : hs.getLast? = some last) (ll : last.length < 64) :
    F_live_rows [.dat (histD hs)] = .ok (.dat (verD (srt last))) [.dat (histD hs)] := by
  have la := last_at hl
  have e := sort_ver ll
  refine fn_run (ρ := [.dat (histD hs)]) rfl ?_ (fin_rt rfl)
  refine seq_one ?_ (fun z => nomatch z)
  simp [histD, ixD, la, e]
  rfl
/-- what `row in value` says of a text and any value that can be laid -/
def isIn (d : D) (z : Str) : Bool := match d with
  | .tuple ds => ds.any fun x => PyData.eqv x (.str z)
  | .list ds => ds.any fun x => PyData.eqv x (.str z)
  | _ => false
theorem among_spec {hs : List (List Str)} {last : List Str} {d : D} (hl : hs.getLast? = some last) (ll : last.length < 64) (hd : ∀ z ∈ last, inF (.str z) d = some (.bool (isIn d z))) :
    F_live_rows_among [.dat (histD hs), .dat d] = .ok (.dat (verD ((srt last).filter fun z => isIn d z))) [.dat (histD hs), .dat d] := by
  have e1 := live_rows_spec hl ll
  have c := fcomp_pure (i := 2) (it := iSeq (eCall F_live_rows (eCons (eVar 0) eNil))) (t := asB (e2 inF (eVar 2) (eVar 1))) (e := eVar 2) (ρ := [.dat (histD hs), .dat d, .no]) (ds := (srt last).map PyData.str)
    (fun x => isIn d (strOf x)) (fun x => x) (by simp) rfl (by simp [e1, verD]) (by rw [List.length_map, (srt_perm last).length_eq]; omega) (fun x hx => by
      obtain ⟨z, hz, rfl⟩ := List.mem_map.mp hx
      have := hd z (srt_mem.mp hz)
      simp [this, strOf]) (fun x hx _ => by simp)
  refine fn_run (ρ := [.dat (histD hs), .dat d, .no]) rfl ?_ (fin_rt rfl)
  refine seq_one ?_ (fun z => nomatch z)
  simp only [bRet, eN, eCons, eNil, eLock]
  rw [show ([Sl.dat (histD hs), .dat d] ++ List.replicate (3 - 2) Sl.no) = [.dat (histD hs), .dat d, .no] from rfl, c]
  have em : (((srt last).map PyData.str).filter fun x => isIn d (strOf x)).map (fun x => x) = ((srt last).filter fun z => isIn d z).map PyData.str := by
    rw [List.map_id', List.filter_map]
    rfl
  rw [em]
  rfl
theorem isIn_ver (w : List Str) (z : Str) : isIn (verD w) z = w.contains z := any_strs z w
theorem eqv_vers : ∀ a b : List Str, PyData.eqv (verD a) (verD b) = (a == b) := by
  have go : ∀ a b : List Str, PyData.eqvAll (a.map PyData.str) (b.map PyData.str) = (a == b) := by
    intro a
    induction a with
    | nil => intro b; cases b <;> rfl
    | cons x a ih =>
      intro b
      cases b with
      | nil => rfl
      | cons y b =>
        show (PyData.eqv (.str x) (.str y) && PyData.eqvAll (a.map PyData.str) (b.map PyData.str)) = _
        rw [ih b]
        rfl
  exact go
theorem eq_vers {a b : List Str} (ha : Rows a) (hb : Rows b) : eqF (verD a) (verD b) = some (.bool (a == b)) := by
  unfold eqF eqD
  rw [if_pos ⟨shaped_tup ha, shaped_tup hb⟩, eqv_vers]
  rfl
def isSet (last w : List Str) : Bool := w == (srt last).filter fun z => w.contains z
theorem rows_filter {last : List Str} {p : Str → Bool} (h : Rows last) : Rows ((srt last).filter p) := fun z hz => h z (srt_mem.mp (List.mem_filter.mp hz).1)
theorem is_row_set_spec {hs : List (List Str)} {last w : List Str} (hh : HOk hs) (hl : hs.getLast? = some last) (hw : Rows w) :
    F_is_row_set [.dat (histD hs), .dat (verD w)] = .ok (.dat (.bool (isSet last w))) [.dat (histD hs), .dat (verD w)] := by
  have ml := List.mem_of_getLast? hl
  have e1 := among_spec (d := verD w) hl (Nat.lt_of_le_of_lt (hh.len last ml) (by decide)) (fun z hz => by rw [isIn_ver]; exact inT (hh.row last ml z hz) hw)
  have ef : (fun z => isIn (verD w) z) = fun z => w.contains z := funext (isIn_ver w)
  rw [ef] at e1
  have e2 := eq_vers hw (rows_filter (p := fun z => w.contains z) (hh.row last ml))
  have e3 : isiD "tuple" (verD w) = some (.bool true) := rfl
  refine fn_run (ρ := [.dat (histD hs), .dat (verD w)]) rfl ?_ (fin_rt rfl)
  refine seq_one ?_ (fun z => nomatch z)
  unfold isSet
  generalize (srt last).filter (fun z => w.contains z) = u at e1 e2 ⊢
  simp [e1, e2, e3]
theorem is_row_set_no {hs : List (List Str)} {d : D} (h : isiD "tuple" d = some (.bool false)) :
    F_is_row_set [.dat (histD hs), .dat d] = .ok (.dat (.bool false)) [.dat (histD hs), .dat d] := by
  refine fn_run (ρ := [.dat (histD hs), .dat d]) rfl ?_ (fin_rt rfl)
  refine seq_one ?_ (fun z => nomatch z)
  simp [h]
theorem shaped_one {w : List Str} (hw : Rows w) : SeqAt.shaped (.tuple [verD w]) = true := by
  unfold SeqAt.shaped
  rw [Bool.and_eq_true]
  refine ⟨?_, decide_eq_true ?_⟩
  · show (PyData.canLayAll0 (w.map PyData.str) && true) = true
    rw [lay_strs w fun z hz => (hw z hz).ok]
    rfl
  · show max (PyData.depthAll (w.map PyData.str) + 1) 0 + 1 ≤ 64
    rw [deep_strs]
    decide
theorem is_row_set_one {hs : List (List Str)} {last w : List Str} (hh : HOk hs) (hl : hs.getLast? = some last) (hw : Rows w) :
    F_is_row_set [.dat (histD hs), .dat (.tuple [verD w])] = .ok (.dat (.bool false)) [.dat (histD hs), .dat (.tuple [verD w])] := by
  have ml := List.mem_of_getLast? hl
  have en : ∀ z, isIn (.tuple [verD w]) z = false := fun z => rfl
  have e1 := among_spec (d := .tuple [verD w]) hl (Nat.lt_of_le_of_lt (hh.len last ml) (by decide)) (fun z hz => by
    rw [en]
    show Option.map PyData.bool (if SeqAt.shaped (.str z) = true ∧ PyData.canLayAll0 [verD w] = true then some ([verD w].any fun x => PyData.eqv x (.str z)) else none) = _
    rw [if_pos ⟨shaped_str (hh.row last ml z hz), by
      show (PyData.canLayAll0 (w.map PyData.str) && true) = true
      rw [lay_strs w fun z hz => (hw z hz).ok]
      rfl⟩]
    rfl)
  have ef : (srt last).filter (fun z => isIn (.tuple [verD w]) z) = [] := List.filter_eq_nil_iff.mpr fun z _ => by rw [en]; exact Bool.false_ne_true
  rw [ef] at e1
  have e2 : eqF (.tuple [verD w]) (verD []) = some (.bool false) := by
    unfold eqF eqD
    rw [if_pos ⟨shaped_one hw, shaped_tup (ns := []) (fun z hz => nomatch hz)⟩]
    rfl
  have e3 : isiD "tuple" (.tuple [verD w]) = some (.bool true) := rfl
  refine fn_run (ρ := [.dat (histD hs), .dat (.tuple [verD w])]) rfl ?_ (fin_rt rfl)
  refine seq_one ?_ (fun z => nomatch z)
  simp [e1, e2, e3]
/-! ### is_reachable -/
def reach (hs : List (List Str)) (last w : List Str) : Bool := isSet last w && w.all fun z => (supp hs last w z).isSome
theorem none_supps (hs : List (List Str)) (last w : List Str) : noneB (suppsD hs last w) = !(w.all fun z => (supp hs last w z).isSome) := by
  unfold suppsD
  rcases bool2 (w.all fun z => (supp hs last w z).isSome) with h | h
  · rw [if_pos h, h]; rfl
  · rw [if_neg (by rw [h]; exact Bool.false_ne_true), h]; rfl
theorem is_reachable_spec {hs : List (List Str)} {last w : List Str} (hh : HOk hs) (hl : hs.getLast? = some last) (hw : Rows w) (ll : hs.length ≤ 1000) (lw : w.length ≤ 1000) :
    F_is_reachable [.dat (histD hs), .dat (verD w)] = .ok (.dat (.bool (reach hs last w))) [.dat (histD hs), .dat (verD w)] := by
  have e1 := is_row_set_spec hh hl hw
  have e2 := find_supports_spec hh hl hw ll lw
  have e3 := none_supps hs last w
  refine fn_run (ρ := [.dat (histD hs), .dat (verD w)]) rfl ?_ (fin_rt rfl)
  refine seq_one ?_ (fun z => nomatch z)
  unfold reach
  rcases bool2 (isSet last w) with h | h
  · rw [h] at e1 ⊢
    simp [e1, e2]
    exact e3.trans (by simp)
  · rw [h] at e1 ⊢
    simp [e1]
theorem is_reachable_no {hs : List (List Str)} {d : D} (h : F_is_row_set [.dat (histD hs), .dat d] = .ok (.dat (.bool false)) [.dat (histD hs), .dat d]) :
    F_is_reachable [.dat (histD hs), .dat d] = .ok (.dat (.bool false)) [.dat (histD hs), .dat d] := by
  refine fn_run (ρ := [.dat (histD hs), .dat d]) rfl ?_ (fin_rt rfl)
  refine seq_one ?_ (fun z => nomatch z)
  simp [h]
end Z
namespace Z
open PySem PySem.Spec PyProof.Rows L2 Gd Q
theorem loop_cons {g : Tg} {b : Mo Out} {d : D} {ds : List D} {ρ ρ1 ρ2 : Ev} {r : Rt Out} (hg : g d ρ = some ρ1) (hb : b ρ1 = .ok .nx ρ2) (h : loopD g b ds ρ2 = r) : loopD g b (d :: ds) ρ = r := by
  unfold loopD
  rw [hg]
  show (b ρ1).bind _ = r
  rw [hb]
  exact h
theorem lock_eq {m : Mo Ob} {ρ ρ1 : Ev} {o : Ob} (h : m ρ = .ok o ρ1) (nd : o.nd = true := by rfl) : eLock m ρ = .ok (.d o.d) ρ1 := by
  unfold eLock
  rw [h]
  cases o with
  | dt _ => cases nd
  | _ => rfl
theorem flat_loop {a0 : Sl} : ∀ (xs : List (List Str)) (acc : List Str) (s2 : Sl), acc.length + xs.flatten.length ≤ 10000 →
    ∃ s', loopD (gN 2) (bSeq (bEx (eExt 1 (eVar 2))) bNil) (xs.map verD) [a0, .own (.lst (acc.map PyData.str)), s2] = .ok .nx [a0, .own (.lst ((acc ++ xs.flatten).map PyData.str)), s']
  | [], acc, s2, _ => ⟨s2, by rw [List.flatten_nil, List.append_nil]; rfl⟩
  | v :: xs, acc, s2, l => by
    rw [List.flatten_cons, List.length_append] at l
    obtain ⟨s', e⟩ := flat_loop (a0 := a0) xs (acc ++ v) (.dat (verD v)) (by rw [List.length_append]; omega)
    refine ⟨s', ?_⟩
    have ok : (acc.map PyData.str).length + (v.map PyData.str).length ≤ sizeLine := by
      rw [List.length_map, List.length_map]
      exact Nat.le_trans (by omega : _ ≤ 10000) (by decide)
    rw [List.flatten_cons, ← List.append_assoc, List.map_cons]
    have st : bSeq (bEx (eExt 1 (eVar 2))) bNil [a0, .own (.lst (acc.map PyData.str)), .dat (verD v)] = .ok .nx [a0, .own (.lst ((acc ++ v).map PyData.str)), .dat (verD v)] := by
      refine seq_nx (ρ1 := [a0, .own (.lst ((acc ++ v).map PyData.str)), .dat (verD v)]) ?_ rfl
      simp only [List.map_append]
      generalize acc.map PyData.str = A at ok ⊢
      simp only [verD]
      generalize v.map PyData.str = B at ok ⊢
      simp [itemsD, ok]
    exact loop_cons rfl st e
theorem flat_spec {xs : List (List Str)} (l : xs.flatten.length ≤ 10000) : F__law_flat [.dat (.list (xs.map verD))] = .ok (.own (.lst (xs.flatten.map PyData.str))) [.dat (.list (xs.map verD))] := by
  obtain ⟨s', e⟩ := flat_loop (a0 := .dat (.list (xs.map verD))) xs [] .no (by rw [List.length_nil]; omega)
  refine fn_run (o := .rt (.v 1)) (ρ := [.dat (.list (xs.map verD)), .own (.lst (xs.flatten.map PyData.str)), s']) rfl ?_ ?_
  · refine seq_nx (ρ1 := [.dat (.list (xs.map verD)), .own (.lst []), .no]) (by simp [short_ok]) ?_
    refine seq_nx (for_eq (ds := xs.map verD) (by simp) e) ?_
    exact seq_one rfl (fun z => nomatch z)
  · rfl
/-! ### the law's prefixes -/
def live (last v : List Str) : List Str := v.filter fun z => last.contains z
def takes (u : List Str) : List (List Str) := (List.range u.length).map fun i => u.take (1 + i)
def prefs (hs : List (List Str)) (last : List Str) : List (List Str) := [] :: hs.flatMap fun v => takes (live last v)
def cutOf (u : List Str) : D → D
  | .int i => verD (u.take i.toNat)
  | x => x
theorem takes_len (u : List Str) : (takes u).length = u.length := by unfold takes; rw [List.length_map, List.length_range]
theorem pref_loop {hs0 : List (List Str)} {last : List Str} (hl : hs0.getLast? = some last) (hr : Rows last) : ∀ (hs : List (List Str)) (acc : List (List Str)) (s2 s3 : Sl), (∀ v ∈ hs, Rows v ∧ v.length ≤ 100) → acc.length + 100 * hs.length ≤ 10000 → noOwn [s2, s3] [0, 1] = true →
    ∃ s2' s3', loopD (gN 2) (bSeq (bSet 3 (eLock (fComp (iSeq (eVar 2)) (gN 4) (asB (e2 inF (eVar 4) (e2 ixD (eVar 0) (e1 negD (eC (.int 1)))))) (eVar 4) [4]))) (bSeq (bEx (eExt 1 (eLock (fComp (iN range2D (eCons (eC (.int 1)) (eCons (e2 addD (eN lenD (eCons (eVar 3) eNil)) (eC (.int 1))) eNil))) (gN 5) bYes (eN tupleD (eCons (eLock (fSl (eVar 3) pNo (pSo (eVar 5)))) eNil)) [5])))) bNil)) (hs.map verD)
      [.dat (histD hs0), .own (.lst (acc.map verD)), s2, s3, .no, .no] = .ok .nx [.dat (histD hs0), .own (.lst ((acc ++ hs.flatMap fun v => takes (live last v)).map verD)), s2', s3', .no, .no]
  | [], acc, s2, s3, _, _, _ => ⟨s2, s3, by rw [List.flatMap_nil, List.append_nil]; rfl⟩
  | v :: hs, acc, s2, s3, hv, l, no => by
    rw [List.length_cons] at l
    obtain ⟨rv, lv⟩ := hv v List.mem_cons_self
    have lu : (live last v).length ≤ 100 := Nat.le_trans (List.length_filter_le _ _) lv
    obtain ⟨s2', s3', e⟩ := pref_loop hl hr hs (acc ++ takes (live last v)) (.dat (verD v)) (.dat (.list ((live last v).map PyData.str))) (fun w hw => hv w (List.mem_cons_of_mem _ hw)) (by rw [List.length_append, takes_len]; omega) rfl
    refine ⟨s2', s3', ?_⟩
    rw [List.flatMap_cons, ← List.append_assoc, List.map_cons]
    have la := last_at hl
    have c1 := fcomp_pure (i := 4) (it := iSeq (eVar 2)) (t := asB (e2 inF (eVar 4) (e2 ixD (eVar 0) (e1 negD (eC (.int 1)))))) (e := eVar 4) (ρ := [.dat (histD hs0), .own (.lst (acc.map verD)), .dat (verD v), s3, .no, .no]) (ds := v.map PyData.str)
      (fun x => last.contains (strOf x)) (fun x => x) (by simp) rfl (by simp [verD]) (by rw [List.length_map]; omega) (fun x hx => by
        obtain ⟨z, hz, rfl⟩ := List.mem_map.mp hx
        have i1 := inT (rv z hz) hr
        simp [histD, ixD, la]
        simp [verD, i1, strOf]
        try exact decide_eq_decide.mpr Iff.rfl) (fun x hx _ => by simp)
    have em : ((v.map PyData.str).filter fun x => last.contains (strOf x)).map (fun x => x) = (live last v).map PyData.str := by
      rw [List.map_id', List.filter_map]
      rfl
    rw [em] at c1
    have c2 := fcomp_map (i := 5) (it := iN range2D (eCons (eC (.int 1)) (eCons (e2 addD (eN lenD (eCons (eVar 3) eNil)) (eC (.int 1))) eNil))) (e := eN tupleD (eCons (eLock (fSl (eVar 3) pNo (pSo (eVar 5)))) eNil)) (ρ := [.dat (histD hs0), .own (.lst (acc.map verD)), .dat (verD v), .dat (.list ((live last v).map PyData.str)), .no, .no]) (ds := (List.range (live last v).length).map fun i => .int ((1 + i : Nat)))
      (cutOf (live last v)) (by simp) rfl (by
          have r := range2_eq (a := 1) (b := (live last v).length + 1) (by decide) (by omega)
          rw [Nat.add_sub_cancel] at r
          have r : range2D [.int 1, .int ((live last v).length + 1)] = _ := r
          simp [r]) (by rw [List.length_map, List.length_range]; omega) (fun x hx => by
        obtain ⟨i, hi, rfl⟩ := List.mem_map.mp hx
        have cl := cutL_to ((live last v).map PyData.str) (1 + i)
        rw [← List.map_take] at cl
        have tn : ((1 + i : Nat) : Int).toNat = 1 + i := Int.toNat_natCast _
        generalize 1 + i = j at cl tn ⊢
        simp [cl, cutOf, verD])
    have em2 : ((List.range (live last v).length).map fun i => PyData.int ((1 + i : Nat))).map (cutOf (live last v)) = (takes (live last v)).map verD := by
      unfold takes
      rw [List.map_map, List.map_map]
      rfl
    rw [em2] at c2
    refine loop_cons (ρ1 := [.dat (histD hs0), .own (.lst (acc.map verD)), .dat (verD v), s3, .no, .no]) rfl ?_ e
    refine seq_nx (ρ1 := [.dat (histD hs0), .own (.lst (acc.map verD)), .dat (verD v), .dat (.list ((live last v).map PyData.str)), .no, .no]) (by
      show bSet 3 (eLock _) _ = _
      unfold bSet eLock
      rw [c1]
      rfl) ?_
    refine seq_nx (ρ1 := [.dat (histD hs0), .own (.lst ((acc ++ takes (live last v)).map verD)), .dat (verD v), .dat (.list ((live last v).map PyData.str)), .no, .no]) ?_ rfl
    have ok : (acc.map verD).length + ((takes (live last v)).map verD).length ≤ sizeLine := by
      rw [List.length_map, List.length_map, takes_len]
      exact Nat.le_trans (by omega : _ ≤ 10000) (by decide)
    rw [List.map_append]
    generalize acc.map verD = A at ok c2 ⊢
    generalize (takes (live last v)).map verD = B at ok c2 ⊢
    have el : eLock (fComp (iN range2D (eCons (eC (.int 1)) (eCons (e2 addD (eN lenD (eCons (eVar 3) eNil)) (eC (.int 1))) eNil))) (gN 5) bYes (eN tupleD (eCons (eLock (fSl (eVar 3) pNo (pSo (eVar 5)))) eNil)) [5]) [.dat (histD hs0), .own (.lst A), .dat (verD v), .dat (.list ((live last v).map PyData.str)), .no, .no] = .ok (.d (.list B)) [.dat (histD hs0), .own (.lst A), .dat (verD v), .dat (.list ((live last v).map PyData.str)), .no, .no] := by
      exact lock_eq c2
    generalize eLock (fComp (iN range2D (eCons (eC (.int 1)) (eCons (e2 addD (eN lenD (eCons (eVar 3) eNil)) (eC (.int 1))) eNil))) (gN 5) bYes (eN tupleD (eCons (eLock (fSl (eVar 3) pNo (pSo (eVar 5)))) eNil)) [5]) = M at el ⊢
    simp [el, itemsD, ok]
theorem law_prefixes_spec {hs : List (List Str)} {last : List Str} (hh : HOk hs) (hl : hs.getLast? = some last) (ll : hs.length ≤ 50) :
    F__law_prefixes [.dat (histD hs)] = .ok (.own (.lst ((prefs hs last).map verD))) [.dat (histD hs)] := by
  have ml := List.mem_of_getLast? hl
  obtain ⟨s2, s3, e⟩ := pref_loop hl (hh.row last ml) hs [[]] .no .no (fun v hv => ⟨hh.row v hv, Nat.le_trans (hh.len v hv) (by decide)⟩) (by rw [List.length_singleton]; omega) rfl
  refine fn_run (o := .rt (.v 1)) (ρ := [.dat (histD hs), .own (.lst ((prefs hs last).map verD)), s2, s3, .no, .no]) rfl ?_ rfl
  refine seq_nx (ρ1 := [.dat (histD hs), .own (.lst [verD []]), .no, .no, .no, .no]) (by simp [short_ok, verD]) ?_
  refine seq_nx (for_eq (ds := hs.map verD) (by simp [histD]) e) ?_
  exact seq_one rfl (fun z => nomatch z)
end Z
namespace Z
open PySem PySem.Spec PyProof.Rows L2 Gd Q
/-! ### the keys of a dict of pairs -/
theorem pairs_eq : ∀ zs : List Str, pairsD (zs.map fun z => .tuple [.str z, .bool true]) = some (zs.map fun z => (Sum.inr z, PyData.bool true))
  | [] => rfl
  | z :: zs => by
    rw [List.map_cons, List.map_cons]
    unfold pairsD
    rw [pairs_eq zs]
    rfl
theorem put_keys {kvs : List (Key × D)} {us : List Str} {z : Str} {d : D} (h : kvs.map Prod.fst = us.map Sum.inr) (nd : us.Nodup) :
    ∃ vs : List Str, (putG kvs (.inr z) d).map Prod.fst = vs.map Sum.inr ∧ vs.Nodup ∧ ∀ x, x ∈ vs ↔ x ∈ us ∨ x = z := by
  have am : (kvs.any fun kv => decide (kv.1 = .inr z)) = us.contains z := by
    clear nd
    induction kvs generalizing us with
    | nil =>
      cases us with
      | nil => rfl
      | cons u us => cases h
    | cons kv kvs ih =>
      cases us with
      | nil => cases h
      | cons u us =>
        rw [List.map_cons, List.map_cons, List.cons.injEq] at h
        rw [List.any_cons, ih h.2, h.1, List.contains_cons]
        refine congrArg (· || us.contains z) ?_
        by_cases e : u = z
        · subst e; simp
        · have e' : ¬ z = u := fun x => e x.symm
          simp [e, e']
  unfold putG
  rw [am]
  by_cases c : z ∈ us
  · rw [if_pos (by simpa using c)]
    refine ⟨us, ?_, nd, fun x => ⟨.inl, fun q => q.elim id fun e => e ▸ c⟩⟩
    rw [← h, List.map_map]
    refine List.map_congr_left fun kv _ => ?_
    show (if kv.1 = .inr z then (kv.1, d) else kv).1 = kv.1
    split <;> rfl
  · rw [if_neg (by simpa using c)]
    refine ⟨us ++ [z], by rw [List.map_append, List.map_append, h]; rfl, ?_, fun x => by simp⟩
    rw [List.nodup_append]
    exact ⟨nd, by simp, fun a ha b hb e => c (by rw [List.mem_singleton] at hb; rw [← hb, ← e]; exact ha)⟩
theorem merge_keys : ∀ (zs : List Str) (kvs : List (Key × D)) (us : List Str), kvs.map Prod.fst = us.map Sum.inr → us.Nodup →
    ∃ vs : List Str, (mergeG kvs (zs.map fun z => (Sum.inr z, PyData.bool true))).map Prod.fst = vs.map Sum.inr ∧ vs.Nodup ∧ ∀ x, x ∈ vs ↔ x ∈ us ∨ x ∈ zs
  | [], kvs, us, h, nd => ⟨us, h, nd, fun x => by simp⟩
  | z :: zs, kvs, us, h, nd => by
    obtain ⟨ws, h1, n1, m1⟩ := put_keys (z := z) (d := .bool true) h nd
    obtain ⟨vs, h2, n2, m2⟩ := merge_keys zs _ ws h1 n1
    exact ⟨vs, h2, n2, fun x => by rw [m2, m1, List.mem_cons, or_assoc]⟩
theorem keys_of (zs : List Str) : ∃ vs : List Str, (toKV (mergeG [] (zs.map fun z => (Sum.inr z, PyData.bool true)))).map Prod.fst = vs.map PyData.str ∧ vs.Nodup ∧ ∀ x, x ∈ vs ↔ x ∈ zs := by
  obtain ⟨vs, h, n, m⟩ := merge_keys zs [] [] rfl List.nodup_nil
  refine ⟨vs, ?_, n, fun x => by rw [m]; simp⟩
  unfold toKV
  rw [List.map_map]
  have : (Prod.fst ∘ fun kv : Key × D => (keyD kv.1, kv.2)) = keyD ∘ Prod.fst := rfl
  rw [this, ← List.map_map, h, List.map_map]
  rfl
theorem bools_of : ∀ bs : List Bool, boolsD (bs.map PyData.bool) = some bs
  | [] => rfl
  | b :: bs => by
    show (boolsD (bs.map PyData.bool)).map (b :: ·) = _
    rw [bools_of bs]
    rfl
theorem fcomp_mapS {i : Nat} {it : Mo (List D)} {e : Mo R} {ρ : Ev} {ds : List D} (f : D → D) (li : i < ρ.length) (no : noOwn ρ [i] = true) (hi : it ρ = .ok ds ρ) (hl : ds.length ≤ sizeLine) (he : ∀ d ∈ ds, e (ρ.set i (.dat d)) = .ok (.d (f d)) (ρ.set i (.dat d))) :
    fComp it (gN i) bYes e [i] ρ = .ok (.lst (ds.map f)) ρ := by
  have := comp_pure (i := i) (t := bYes) (e := e) (ρ := ρ) (p := fun _ => true) (f := f) li ds (fun _ _ => rfl) fun d hd _ => he d hd
  rw [List.filter_eq_self.mpr fun _ _ => rfl] at this
  refine comp_eq hi hl no this ?_
  show ((ρ.set i .no).set i (ρ.getD i .no)) = ρ
  rw [set_set, set_self li]
theorem set_eq {i : Nat} {f : Mo R} {ρ ρ1 ρ2 : Ev} {x : D} (h : f ρ = .ok (.d x) ρ1) (hp : put i (.dat x) ρ1 = some ρ2) : bSet i f ρ = .ok .nx ρ2 := by
  unfold bSet
  rw [h]
  show nxt (put i (.dat x) ρ1) = _
  rw [hp]
  rfl
def allIn (w : List Str) : D → Bool
  | .tuple ds => ds.all fun x => w.contains (strOf x)
  | _ => false
def inside (ps : List (List Str)) (w : List Str) : List (List Str) := ps.filter fun p => p.all fun z => w.contains z
theorem greatest_spec {ps : List (List Str)} {w : List Str} (hp : ∀ p ∈ ps, Rows p ∧ p.length ≤ 100) (hw : Rows w) (lp : ps.length ≤ 1000) (lf : (inside ps w).flatten.length ≤ 10000) (lw : w.length < 64) :
    ∃ us : List Str, us.Nodup ∧ (∀ z, z ∈ us ↔ ∃ p ∈ ps, (∀ x ∈ p, x ∈ w) ∧ z ∈ p) ∧
      F__law_greatest [.dat (.list (ps.map verD)), .dat (verD w)] = .ok (.dat (verD (srt us))) [.dat (.list (ps.map verD)), .dat (verD w)] := by
  obtain ⟨us, ku, nu, mu⟩ := keys_of (inside ps w).flatten
  have mem : ∀ z, z ∈ us ↔ ∃ p ∈ ps, (∀ x ∈ p, x ∈ w) ∧ z ∈ p := fun z => by
    rw [mu, List.mem_flatten]
    constructor
    · rintro ⟨p, h, hz⟩
      obtain ⟨h1, h2⟩ := List.mem_filter.mp h
      exact ⟨p, h1, fun x hx => by simpa using List.all_eq_true.mp h2 x hx, hz⟩
    · rintro ⟨p, h1, h2, hz⟩
      exact ⟨p, List.mem_filter.mpr ⟨h1, List.all_eq_true.mpr fun x hx => by simpa using h2 x hx⟩, hz⟩
  refine ⟨us, nu, mem, ?_⟩
  have lu : us.length < 64 := Nat.lt_of_le_of_lt (nodup_sub_len (xs := w) nu fun z hz => by
    obtain ⟨p, _, h2, h3⟩ := (mem z).mp hz
    exact h2 z h3) lw
  have c1 := fcomp_pure (i := 3) (it := iSeq (eVar 0)) (t := asB (eN allD (eCons (eLock (fComp (iSeq (eVar 3)) (gN 4) bYes (e2 inF (eVar 4) (eVar 1)) [4])) eNil))) (e := eVar 3) (ρ := [.dat (.list (ps.map verD)), .dat (verD w), .no, .no, .no]) (ds := ps.map verD)
    (allIn w) (fun x => x) (by simp) rfl (by simp) (by rw [List.length_map]; exact lp) (fun d hd => by
      obtain ⟨p, hpm, rfl⟩ := List.mem_map.mp hd
      obtain ⟨rp, lpp⟩ := hp p hpm
      have c := fcomp_map (i := 4) (it := iSeq (eVar 3)) (e := e2 inF (eVar 4) (eVar 1)) (ρ := [.dat (.list (ps.map verD)), .dat (verD w), .no, .dat (verD p), .no]) (ds := p.map PyData.str)
        (fun x => .bool (w.contains (strOf x))) (by simp) rfl (by simp [verD]) (by rw [List.length_map]; omega) (fun x hx => by
          obtain ⟨z, hz, rfl⟩ := List.mem_map.mp hx
          have i1 := inT (rp z hz) hw
          simp [verD, i1, strOf]
          try exact decide_eq_decide.mpr Iff.rfl)
      have eb : (p.map PyData.str).map (fun x => PyData.bool (w.contains (strOf x))) = (p.map fun z => w.contains z).map PyData.bool := by
        rw [List.map_map, List.map_map]
        rfl
      rw [eb] at c
      have al : allD [.list ((p.map fun z => w.contains z).map PyData.bool)] = some (.bool (p.all fun z => w.contains z)) := by
        show (boolsD _).map _ = _
        rw [bools_of]
        show some (PyData.bool ((p.map fun z => w.contains z).all id)) = _
        rw [List.all_map]
        rfl
      have ec : (p.map PyData.str).all (fun x => w.contains (strOf x)) = p.all fun z => w.contains z := by
        rw [List.all_map]
        rfl
      have lk := lock_eq c
      show asB _ [.dat (.list (ps.map verD)), .dat (verD w), .no, .dat (verD p), .no] = .ok ((p.map PyData.str).all fun x => w.contains (strOf x)) _
      rw [ec]
      generalize eLock (fComp (iSeq (eVar 3)) (gN 4) bYes (e2 inF (eVar 4) (eVar 1)) [4]) = M at lk ⊢
      generalize (p.map fun z => w.contains z).map PyData.bool = B at lk al
      generalize (p.all fun z => w.contains z) = r at al ⊢
      have lk : M [.dat (.list (ps.map verD)), .dat (verD w), .no, .dat (verD p), .no] = .ok (.d (.list B)) [.dat (.list (ps.map verD)), .dat (verD w), .no, .dat (verD p), .no] := lk
      simp [lk, al]) (fun x hx _ => by simp)
  have em : ((ps.map verD).filter (allIn w)).map (fun x => x) = (inside ps w).map verD := by
    rw [List.map_id', List.filter_map]
    refine congrArg (List.map verD) (List.filter_congr fun p _ => ?_)
    show (p.map PyData.str).all (fun x => w.contains (strOf x)) = _
    rw [List.all_map]
    rfl
  rw [em] at c1
  refine fn_run (ρ := [.dat (.list (ps.map verD)), .dat (verD w), .dat (.list ((inside ps w).map verD)), .no, .no]) rfl ?_ (fin_rt rfl)
  refine seq_nx (ρ1 := [.dat (.list (ps.map verD)), .dat (verD w), .dat (.list ((inside ps w).map verD)), .no, .no]) (by
    exact set_eq (lock_eq c1) rfl) ?_
  refine seq_one ?_ (fun z => nomatch z)
  have fl := flat_spec lf
  have c2 := fcomp_mapS (i := 4) (it := iSeq (eLock (fCall F__law_flat (eCons (eVar 2) eNil)))) (e := eTup (eCons (eVar 4) (eCons (eC (.bool true)) eNil))) (ρ := [.dat (.list (ps.map verD)), .dat (verD w), .dat (.list ((inside ps w).map verD)), .no, .no]) (ds := (inside ps w).flatten.map PyData.str)
    (fun x => .tuple [x, .bool true]) (by simp) rfl (by
      generalize (inside ps w).map verD = A at fl ⊢
      generalize (inside ps w).flatten.map PyData.str = B at fl ⊢
      simp [fl]) (by rw [List.length_map]; exact Nat.le_trans lf (by decide)) (fun x hx => by simp [short_ok])
  have l2 := lock_eq c2
  have pq : ((inside ps w).flatten.map PyData.str).map (fun x => PyData.tuple [x, .bool true]) = (inside ps w).flatten.map fun z => .tuple [.str z, .bool true] := by
    rw [List.map_map]
    rfl
  rw [pq] at l2
  have pe := pairs_eq (inside ps w).flatten
  have so : sortedD [.dict (toKV (mergeG [] ((inside ps w).flatten.map fun z => (Sum.inr z, PyData.bool true))))] = some ((srt us).map PyData.str) := by
    show sortS ((toKV _).map Prod.fst) = _
    rw [ku]
    show (strsD (us.map PyData.str)).bind _ = _
    rw [strsD_of]
    exact if_pos lu
  generalize eLock (fComp (iSeq (eLock (fCall F__law_flat (eCons (eVar 2) eNil)))) (gN 4) bYes (eTup (eCons (eVar 4) (eCons (eC (.bool true)) eNil))) [4]) = M at l2 ⊢
  generalize ((inside ps w).flatten.map fun z => PyData.tuple [.str z, .bool true]) = B at l2 pe
  generalize ((inside ps w).flatten.map fun z => ((Sum.inr z : Key), PyData.bool true)) = G at pe so
  have l2 : M [.dat (.list (ps.map verD)), .dat (verD w), .dat (.list ((inside ps w).map verD)), .no, .no] = .ok (.d (.list B)) [.dat (.list (ps.map verD)), .dat (verD w), .dat (.list ((inside ps w).map verD)), .no, .no] := l2
  simp [l2, pe, so]
  try rfl
end Z
namespace Z
open PySem PySem.Spec PyProof.Rows L2 Gd Q
/-! ### unions of prefixes and supports -/
theorem take_find {α : Type} (p : α → Bool) : ∀ l : List α, l.take ((l.findIdx? p).getD l.length) = l.takeWhile fun x => !p x
  | [] => rfl
  | x :: l => by
    rw [List.findIdx?_cons, List.takeWhile_cons]
    cases h : p x with
    | true => rfl
    | false =>
      have ih := take_find p l
      rw [if_neg (by simp), if_pos (by rfl)]
      cases hf : l.findIdx? p with
      | none =>
        rw [hf] at ih
        show (x :: l).take (l.length + 1) = _
        rw [List.take_succ_cons]
        exact congrArg (x :: ·) ih
      | some j =>
        rw [hf] at ih
        show (x :: l).take (j + 1) = _
        rw [List.take_succ_cons]
        exact congrArg (x :: ·) ih
theorem pfx_while (v last w : List Str) : pfx v last w = v.takeWhile fun x => !(!w.contains x && last.contains x) := take_find _ v
theorem live_while (w last : List Str) : ∀ v : List Str, live last (v.takeWhile fun x => !(!w.contains x && last.contains x)) = (live last v).takeWhile fun x => w.contains x
  | [] => rfl
  | x :: v => by
    have ih := live_while w last v
    unfold live at ih ⊢
    rw [List.takeWhile_cons]
    rcases bool2 (last.contains x) with h | h <;> rcases bool2 (w.contains x) with h' | h'
    · rw [h, h', if_pos (by rfl), List.filter_cons_of_pos h, List.filter_cons_of_pos h, List.takeWhile_cons_of_pos h', ih]
    · rw [h, h', if_neg (by simp), List.filter_cons_of_pos h, List.takeWhile_cons_of_neg (by rw [h']; exact Bool.false_ne_true)]
      rfl
    · rw [h, h', if_pos (by rfl), List.filter_cons_of_neg (by rw [h]; exact Bool.false_ne_true), List.filter_cons_of_neg (by rw [h]; exact Bool.false_ne_true), ih]
    · rw [h, h', if_pos (by rfl), List.filter_cons_of_neg (by rw [h]; exact Bool.false_ne_true), List.filter_cons_of_neg (by rw [h]; exact Bool.false_ne_true), ih]
theorem mem_pfx {v last w : List Str} {z : Str} (hz : z ∈ last) : z ∈ pfx v last w ↔ z ∈ (live last v).takeWhile fun x => w.contains x := by
  rw [← live_while, ← pfx_while]
  unfold live
  rw [List.mem_filter]
  exact ⟨fun h => ⟨h, by simpa using hz⟩, fun h => h.1⟩
theorem take_in {w : List Str} {z : Str} : ∀ (u : List Str) (n : Nat), (∀ x ∈ u.take n, x ∈ w) → z ∈ u.take n → z ∈ u.takeWhile fun x => w.contains x
  | [], n, _, hz => by simp at hz
  | x :: u, 0, _, hz => by simp at hz
  | x :: u, n + 1, hw, hz => by
    rw [List.take_succ_cons] at hw hz
    rw [List.takeWhile_cons_of_pos (by simpa using hw x List.mem_cons_self)]
    rcases List.mem_cons.mp hz with e | e
    · exact e ▸ List.mem_cons_self
    · exact List.mem_cons_of_mem _ (take_in u n (fun y hy => hw y (List.mem_cons_of_mem _ hy)) e)
/-- the beginnings that lie in w cover just the longest one -/
theorem takes_in {u w : List Str} {z : Str} : (∃ p ∈ takes u, (∀ x ∈ p, x ∈ w) ∧ z ∈ p) ↔ z ∈ u.takeWhile fun x => w.contains x := by
  constructor
  · rintro ⟨p, hp, hw, hz⟩
    obtain ⟨i, _, rfl⟩ := List.mem_map.mp hp
    exact take_in u (1 + i) hw hz
  · intro hz
    have pre : u.takeWhile (fun x => w.contains x) = u.take (u.takeWhile fun x => w.contains x).length := (List.prefix_iff_eq_take.mp (List.takeWhile_prefix _))
    have lp : 0 < (u.takeWhile fun x => w.contains x).length := List.length_pos_of_mem hz
    have le : (u.takeWhile fun x => w.contains x).length ≤ u.length := (List.takeWhile_prefix _).length_le
    refine ⟨u.takeWhile fun x => w.contains x, List.mem_map.mpr ⟨(u.takeWhile fun x => w.contains x).length - 1, List.mem_range.mpr (by omega), ?_⟩, fun x hx => ?_, hz⟩
    · show u.take (1 + (_ - 1)) = _
      rw [show 1 + ((u.takeWhile fun x => w.contains x).length - 1) = (u.takeWhile fun x => w.contains x).length by omega]
      exact pre.symm
    · have := List.all_takeWhile (p := fun x => w.contains x) (l := u)
      simpa using List.all_eq_true.mp this x hx
theorem supp_some {hs : List (List Str)} {last w : List Str} {z : Str} : (supp hs last w z).isSome = true ↔ ∃ v ∈ hs, z ∈ pfx v last w := by
  unfold supp
  rw [List.findIdx?_isSome, List.any_eq_true]
  simp
theorem greatest_eq {hs : List (List Str)} {last w us : List Str} (hw : isSet last w = true) (nl : last.Nodup) (nu : us.Nodup) (hu : ∀ z, z ∈ us ↔ ∃ p ∈ prefs hs last, (∀ x ∈ p, x ∈ w) ∧ z ∈ p) :
    (srt us == w) = w.all fun z => (supp hs last w z).isSome := by
  have we : w = (srt last).filter fun z => w.contains z := by simpa [isSet] using hw
  have wl : ∀ z ∈ w, z ∈ last := fun z hz => by
    rw [we] at hz
    exact srt_mem.mp (List.mem_filter.mp hz).1
  have nw : w.Nodup := by
    rw [we]
    exact (srt_nodup nl).filter _
  have pw : w.Pairwise leS := by
    rw [we]
    exact (srt_pw last).filter _
  have mem : ∀ z, z ∈ us ↔ ∃ v ∈ hs, z ∈ (live last v).takeWhile fun x => w.contains x := fun z => by
    rw [hu]
    unfold prefs
    constructor
    · rintro ⟨p, hp, h1, h2⟩
      rcases List.mem_cons.mp hp with e | e
      · subst e
        cases h2
      · obtain ⟨v, hv, hp⟩ := List.mem_flatMap.mp e
        exact ⟨v, hv, takes_in.mp ⟨p, hp, h1, h2⟩⟩
    · rintro ⟨v, hv, h⟩
      obtain ⟨p, hp, h1, h2⟩ := takes_in.mpr h
      exact ⟨p, List.mem_cons_of_mem _ (List.mem_flatMap.mpr ⟨v, hv, hp⟩), h1, h2⟩
  have uw : ∀ z ∈ us, z ∈ w := fun z hz => by
    obtain ⟨p, _, h1, h2⟩ := (hu z).mp hz
    exact h1 z h2
  rw [Bool.eq_iff_iff, List.all_eq_true, beq_iff_eq]
  constructor
  · intro e z hz
    rw [supp_some]
    rw [← e, srt_mem, mem] at hz
    obtain ⟨v, hv, h⟩ := hz
    have hz' : z ∈ us := (mem z).mpr ⟨v, hv, h⟩
    exact ⟨v, hv, (mem_pfx (wl z (uw z hz'))).mpr h⟩
  · intro h
    refine (srt_eq (l := w) (m := us) ?_ pw).symm
    refine (List.perm_ext_iff_of_nodup nw nu).mpr fun z => ⟨fun hz => ?_, uw z⟩
    obtain ⟨v, hv, q⟩ := supp_some.mp (h z hz)
    exact (mem z).mpr ⟨v, hv, (mem_pfx (wl z hz)).mp q⟩
end Z
namespace Z
open PySem PySem.Spec PyProof.Rows L2 Gd Q
/-! ### repr of small data -/
structure Sh (B k : Nat) (d : D) : Prop where
  s : d.showable = true
  n : d.hasDict = false
  k : d.depth ≤ k
  l : d.shown.length ≤ B
theorem Sh.repr {B k : Nat} {d : D} (h : Sh B k d) (hB : B ≤ 1000000) (hk : k ≤ 60) : reprD [d] = some (.str d.shown) := if_pos ⟨h.s, h.n, Nat.le_trans h.k hk, Nat.le_trans h.l (Nat.le_trans hB (by decide))⟩
theorem Sh.all {B k : Nat} : ∀ ds : List D, (∀ d ∈ ds, Sh B k d) → PyData.showableAll ds = true ∧ PyData.hasDictAll ds = false ∧ PyData.depthAll ds ≤ k ∧ ((PyData.shownAll ds).map (·.length)).sum ≤ B * ds.length ∧ (PyData.shownAll ds).length = ds.length
  | [], _ => ⟨rfl, rfl, Nat.zero_le _, Nat.zero_le _, rfl⟩
  | d :: ds, h => by
    obtain ⟨h1, h2, h3, h4, h5⟩ := Sh.all ds fun d hd => h d (List.mem_cons_of_mem _ hd)
    have hd := h d List.mem_cons_self
    refine ⟨?_, ?_, ?_, ?_, ?_⟩
    · show (d.showable && PyData.showableAll ds) = true
      rw [hd.s, h1]
      rfl
    · show (d.hasDict || PyData.hasDictAll ds) = false
      rw [hd.n, h2]
      rfl
    · show max d.depth (PyData.depthAll ds) ≤ k
      exact Nat.max_le.mpr ⟨hd.k, h3⟩
    · show d.shown.length + ((PyData.shownAll ds).map (·.length)).sum ≤ B * (ds.length + 1)
      have := hd.l
      rw [Nat.mul_succ]
      omega
    · show (PyData.shownAll ds).length + 1 = ds.length + 1
      rw [h5]
theorem Sh.tup {B k m : Nat} {ds : List D} (h : ∀ d ∈ ds, Sh B k d) (l : ds.length ≤ m) : Sh ((B + 2) * m + 3) (k + 1) (.tuple ds) := by
  obtain ⟨h1, h2, h3, h4, h5⟩ := Sh.all ds h
  refine ⟨h1, h2, Nat.succ_le_succ h3, ?_⟩
  show (tupleText (PyData.shownAll ds)).length ≤ _
  have t := tupleText_len_le (PyData.shownAll ds)
  rw [h5] at t
  have e1 : B * ds.length ≤ B * m := Nat.mul_le_mul_left B l
  rw [Nat.add_mul]
  omega
theorem Sh.str {z : Str} (h : RowS z) : Sh 82 0 (.str z) := by
  refine ⟨rfl, rfl, Nat.le_refl _, ?_⟩
  have h2 := StrLaws.reprText_len z (fun c hc => by
    have := h.2.2 c hc
    omega)
  have h3 := h.2.1
  show (reprText z).length ≤ 82
  omega
theorem Sh.ver {v : List Str} (h : Rows v) (l : v.length ≤ 24) : Sh 2019 1 (verD v) := Sh.tup (B := 82) (m := 24) (fun d hd => by
  obtain ⟨z, hz, rfl⟩ := List.mem_map.mp hd
  exact Sh.str (h z hz)) (by rw [List.length_map]; exact l)
theorem Sh.hist {hs : List (List Str)} (hh : HOk hs) (l : hs.length ≤ 50) : Sh 101053 2 (histD hs) := Sh.tup (B := 2019) (m := 50) (fun d hd => by
  obtain ⟨v, hv, rfl⟩ := List.mem_map.mp hd
  exact Sh.ver (hh.row v hv) (hh.len v hv)) (by rw [List.length_map]; exact l)
theorem Sh.nat {n : Nat} (h : n ≤ 60) : Sh 2 0 (.int n) := by
  have go : ∀ n : Fin 61, (PyData.int ((n : Nat) : Int)).showable = true ∧ (PyData.int ((n : Nat) : Int)).shown.length ≤ 2 := by decide +kernel
  obtain ⟨h1, h2⟩ := go ⟨n, by omega⟩
  exact ⟨h1, rfl, Nat.le_refl _, h2⟩
theorem Sh.none : Sh 4 0 .none := ⟨rfl, rfl, Nat.le_refl _, by decide +kernel⟩
theorem Sh.bool (b : Bool) : Sh 5 0 (.bool b) := ⟨rfl, rfl, Nat.le_refl _, by cases b <;> decide +kernel⟩
end Z
namespace Z
open PySem PySem.Spec PyProof.Rows L2 Gd Q
/-! ### comprehensions that use the hand -/
inductive Picked (P : D → D → Prop) : List D → List D → Prop
  | nil : Picked P [] []
  | skip {d : D} {ds xs : List D} : Picked P ds xs → Picked P (d :: ds) xs
  | keep {d x : D} {ds xs : List D} : P d x → Picked P ds xs → Picked P (d :: ds) (x :: xs)
theorem Picked.mem {P : D → D → Prop} {ds xs : List D} (h : Picked P ds xs) : ∀ x ∈ xs, ∃ d ∈ ds, P d x := by
  induction h with
  | nil => exact fun x hx => nomatch hx
  | skip _ ih => exact fun x hx => (ih x hx).imp fun d h => ⟨List.mem_cons_of_mem _ h.1, h.2⟩
  | keep p _ ih =>
    intro x hx
    rcases List.mem_cons.mp hx with rfl | hx
    · exact ⟨_, List.mem_cons_self, p⟩
    · exact (ih x hx).imp fun d h => ⟨List.mem_cons_of_mem _ h.1, h.2⟩
theorem Picked.len {P : D → D → Prop} {ds xs : List D} (h : Picked P ds xs) : xs.length ≤ ds.length := by
  induction h with
  | nil => exact Nat.le_refl _
  | skip _ ih => exact Nat.le_succ_of_le ih
  | keep _ _ ih => exact Nat.succ_le_succ ih
theorem Picked.sub {ds xs : List D} (h : Picked (fun d x => x = d) ds xs) : xs.Sublist ds := by
  induction h with
  | nil => exact .slnil
  | skip _ ih => exact ih.cons _
  | keep p _ ih => rw [p]; exact ih.cons₂ _
theorem comp_hand {i c N : Nat} {t : Mo Bool} {e : Mo R} {S : List D → Ev} {P : D → D → Prop} (li : ∀ h, i < (S h).length) : ∀ (ds : List D),
    (∀ d ∈ ds, ∀ h n, HandOk h n → n < N → ∃ h', HandOk h' (n + c) ∧ (t ((S h).set i (.dat d)) = .ok false ((S h').set i (.dat d)) ∨ ∃ x h1, P d x ∧ t ((S h).set i (.dat d)) = .ok true ((S h1).set i (.dat d)) ∧ e ((S h1).set i (.dat d)) = .ok (.d x) ((S h').set i (.dat d)))) →
    ∀ (h : List D) (n : Nat), HandOk h n → n + c * ds.length < N →
    ∃ xs h', compD (gN i) t e [i] ds ((S h).set i .no) = .ok xs ((S h').set i .no) ∧ HandOk h' (n + c * ds.length) ∧ Picked P ds xs
  | [], _, h, n, hk, _ => ⟨[], h, rfl, hk, .nil⟩
  | d :: ds, st, h, n, hk, hn => by
    have ml : c * (d :: ds).length = c * ds.length + c := by rw [List.length_cons, Nat.mul_succ]
    rw [ml] at hn ⊢
    have w : ∀ h, wipeE ((S h).set i (.dat d)) [i] = (S h).set i .no := fun h => set_set (S h) i _ _
    obtain ⟨h', hk', r⟩ := st d List.mem_cons_self h n hk (by omega)
    obtain ⟨xs, h2, e2, hk2, p2⟩ := comp_hand (t := t) (e := e) (P := P) li ds (fun d hd => st d (List.mem_cons_of_mem _ hd)) h' (n + c) hk' (by omega)
    unfold compD
    rw [gN_eq (by rw [List.length_set]; exact li h), set_set]
    dsimp only
    rcases r with r | ⟨x, h1, px, r1, r2⟩
    · refine ⟨xs, h2, ?_, hk2.up (by omega), .skip p2⟩
      rw [r]
      show compD (gN i) t e [i] ds (wipeE ((S h').set i (.dat d)) [i]) = _
      rw [w, e2]
    · refine ⟨x :: xs, h2, ?_, hk2.up (by omega), .keep px p2⟩
      rw [r1]
      show (e ((S h1).set i (.dat d))).bnd _ = _
      rw [r2]
      show (compD (gN i) t e [i] ds (wipeE ((S h').set i (.dat d)) [i])).bnd _ = _
      rw [w, e2]
      rfl
end Z
namespace Z
open PySem PySem.Spec PyProof.Rows L2 Gd Q
theorem ne_bool (a b : Bool) : neF (.bool a) (.bool b) = some (.bool (a != b)) := by
  unfold neF eqD
  rw [if_pos ⟨rfl, rfl⟩]
  cases a <;> cases b <;> rfl
theorem eq_bool (a b : Bool) : eqF (.bool a) (.bool b) = some (.bool (a == b)) := by
  unfold eqF eqD
  rw [if_pos ⟨rfl, rfl⟩]
  cases a <;> cases b <;> rfl
theorem eq_strs (a b : Str) : eqF (.str a) (.str b) = some (.bool (a == b)) := by
  unfold eqF eqD
  split
  · rfl
  · rfl
theorem ne_strs (a b : Str) : neF (.str a) (.str b) = some (.bool (!(a == b))) := by
  unfold neF eqD
  split
  · rfl
  · rfl
theorem flat_len {B : Nat} : ∀ xs : List (List Str), (∀ p ∈ xs, p.length ≤ B) → xs.flatten.length ≤ B * xs.length
  | [], _ => Nat.zero_le _
  | p :: xs, h => by
    have h1 := h p List.mem_cons_self
    have h2 := flat_len xs fun p hp => h p (List.mem_cons_of_mem _ hp)
    rw [List.flatten_cons, List.length_append, List.length_cons, Nat.mul_succ]
    omega
/-- data that are picked from a list of versions are a list of versions -/
theorem unmap {ps : List (List Str)} : ∀ {xs : List D}, (∀ x ∈ xs, ∃ p ∈ ps, x = verD p) → ∃ qs : List (List Str), xs = qs.map verD ∧ ∀ q ∈ qs, q ∈ ps
  | [], _ => ⟨[], rfl, fun q hq => nomatch hq⟩
  | x :: xs, h => by
    obtain ⟨p, hp, rfl⟩ := h x List.mem_cons_self
    obtain ⟨qs, rfl, hq⟩ := unmap (xs := xs) fun x hx => h x (List.mem_cons_of_mem _ hx)
    exact ⟨p :: qs, rfl, fun q hq' => by
      rcases List.mem_cons.mp hq' with rfl | hq'
      · exact hp
      · exact hq q hq'⟩
theorem sub_unmap {v : List Str} {xs : List D} (h : xs.Sublist (v.map PyData.str)) : ∃ w : List Str, xs = w.map PyData.str ∧ w.Sublist v := by
  obtain ⟨w, hw, e⟩ := List.sublist_map_iff.mp h
  exact ⟨w, e, hw⟩
theorem inL_ls {x : Str} {ys : List Str} (hx : RowS x) (hy : ∀ z ∈ ys, RowS z) : inF (.str x) (.list (ys.map PyData.str)) = some (.bool (ys.contains x)) := inLs hx hy
theorem gt_int (a b : Int) : gtD (.int a) (.int b) = some (.bool (decide (b < a))) := rfl
theorem some_set_spec {hs : List (List Str)} {last : List Str} {ps : List (List Str)} {h : List D} {n : Nat} (hh : HOk hs) (hl : hs.getLast? = some last) (hk : HandOk h n) (hn : n + 100 < 900000) (np : ps ≠ []) (lp : ps.length ≤ 1000) (hp : ∀ p ∈ ps, Rows p ∧ p.length ≤ 24) :
    ∃ (w : List Str) (h' : List D), F__law_some_set [.own (.lst h), .dat (histD hs), .dat (.list (ps.map verD))] = .ok (.dat (verD w)) [.own (.lst h'), .dat (histD hs), .dat (.list (ps.map verD))] ∧ w.Sublist (srt last) ∧ HandOk h' (n + 100) := by
  have ml := List.mem_of_getLast? hl
  have hr := hh.row last ml
  have lv := hh.len last ml
  have rs : Rows (srt last) := fun z hz => hr z (srt_mem.mp hz)
  have ls : (srt last).length ≤ 24 := by rw [srt_len]; exact lv
  obtain ⟨way, h1, e1, w0, w1, hk1⟩ := take_spec hk (by omega) (m := 4) (by decide) (by decide)
  obtain ⟨tc, h2, e2, t0, t1, hk2⟩ := take_spec hk1 (by omega) (m := 3) (by decide) (by decide)
  obtain ⟨c, rfl⟩ := Int.eq_ofNat_of_zero_le t0
  -- the chosen prefixes
  obtain ⟨xs, h3, e3, hk3, p3⟩ := comp_hand (i := 8) (c := 1) (N := 900000) (t := bYes) (e := eCall F__law_pick (eCons (eVar 0) (eCons (eVar 2) eNil))) (S := fun h => [.own (.lst h), .dat (histD hs), .dat (.list (ps.map verD)), .dat (.list ((srt last).map PyData.str)), .no, .no, .no, .no, .no, .no]) (P := fun _ x => ∃ p ∈ ps, x = verD p) (fun _ => by simp)
    ((List.range (1 + c)).map fun i => .int (i : Nat)) (fun d _ h n hk hn => by
      obtain ⟨y, h', e, hy, hk'⟩ := pick_spec (Its.list (xs := ps.map verD)) hk (by omega) (by simpa using np) (by rw [List.length_map]; omega)
      obtain ⟨p, hp, rfl⟩ := List.mem_map.mp hy
      exact ⟨h', hk', .inr ⟨verD p, h, ⟨p, hp, rfl⟩, rfl, by simp [e]⟩⟩) h2 (n + 1 + 1) hk2 (by rw [List.length_map, List.length_range]; omega)
  rw [List.length_map, List.length_range] at hk3
  obtain ⟨qs, rfl, hq⟩ := unmap fun x hx => (p3.mem x hx).elim fun _ q => q.2
  have lq : qs.length ≤ 3 := by
    have := p3.len
    rw [List.length_map, List.length_map, List.length_range] at this
    omega
  have lf : qs.flatten.length ≤ 24 * qs.length := flat_len qs fun q h => (hp q (hq q h)).2
  have fs := flat_spec (xs := qs) (by omega)
  have rf : Rows qs.flatten := fun z hz => by
    obtain ⟨q, h1, h2⟩ := List.mem_flatten.mp hz
    exact (hp q (hq q h1)).1 z h2
  -- the rows among them
  have c7 := fcomp_pure (i := 6) (it := iSeq (eVar 3)) (t := asB (Q.e2 inF (eVar 6) (eLock (fCall F__law_flat (eCons (eVar 5) eNil))))) (e := eVar 6) (ρ := [.own (.lst h3), .dat (histD hs), .dat (.list (ps.map verD)), .dat (.list ((srt last).map PyData.str)), .dat (.int way), .dat (.list (qs.map verD)), .no, .no, .no, .no]) (ds := (srt last).map PyData.str)
    (fun x => qs.flatten.contains (strOf x)) (fun x => x) (by simp) rfl (by simp) (by rw [List.length_map]; omega) (fun x hx => by
      obtain ⟨z, hz, rfl⟩ := List.mem_map.mp hx
      have i1 := inLs (rs z hz) rf
      generalize qs.map verD = A at fs ⊢
      generalize qs.flatten = B at fs i1 ⊢
      simp [fs, i1, strOf]) (fun x hx _ => by simp)
  have em : (((srt last).map PyData.str).filter fun x => qs.flatten.contains (strOf x)).map (fun x => x) = ((srt last).filter fun z => qs.flatten.contains z).map PyData.str := by
    rw [List.map_id', List.filter_map]
    rfl
  rw [em] at c7
  generalize hf0 : ((srt last).filter fun z => qs.flatten.contains z) = f0 at c7
  have sub0 : f0.Sublist (srt last) := by rw [← hf0]; exact List.filter_sublist
  -- way 0: rows by the hand
  have st4 : ∃ (f : List Str) (h4 : List D) , bIf (asB (Q.e2 eqF (eVar 4) (eC (.int 0)))) (bSeq (bSet 7 (eLock (fComp (iSeq (eVar 3)) (gN 6) (asB (Q.e2 eqF (eCall F__law_take (eCons (eVar 0) (eCons (eC (.int 2)) eNil))) (eC (.int 0)))) (eVar 6) [6]))) bNil) bNil
      [.own (.lst h3), .dat (histD hs), .dat (.list (ps.map verD)), .dat (.list ((srt last).map PyData.str)), .dat (.int way), .dat (.list (qs.map verD)), .no, .dat (.list (f0.map PyData.str)), .no, .no] = .ok .nx
      [.own (.lst h4), .dat (histD hs), .dat (.list (ps.map verD)), .dat (.list ((srt last).map PyData.str)), .dat (.int way), .dat (.list (qs.map verD)), .no, .dat (.list (f.map PyData.str)), .no, .no] ∧ f.Sublist (srt last) ∧ HandOk h4 (n + 40) := by
    have w3 := eq_int way 0
    by_cases hw : way = 0
    · subst hw
      obtain ⟨xs, h4, e4, hk4, p4⟩ := comp_hand (i := 6) (c := 1) (N := 900000) (t := asB (Q.e2 eqF (eCall F__law_take (eCons (eVar 0) (eCons (eC (.int 2)) eNil))) (eC (.int 0)))) (e := eVar 6) (S := fun h => [.own (.lst h), .dat (histD hs), .dat (.list (ps.map verD)), .dat (.list ((srt last).map PyData.str)), .dat (.int 0), .dat (.list (qs.map verD)), .no, .dat (.list (f0.map PyData.str)), .no, .no]) (P := fun d x => x = d) (fun _ => by simp)
        ((srt last).map PyData.str) (fun d _ h n hk hn => by
          obtain ⟨v, h', e, v0, v1, hk'⟩ := take_spec hk (by omega) (m := 2) (by decide) (by decide)
          have ev := eq_int v 0
          refine ⟨h', hk', ?_⟩
          by_cases hv : v = 0
          · subst hv
            exact .inr ⟨d, h', rfl, by simp [e, ev], by simp⟩
          · exact .inl (by simp [e, ev, hv])) h3 _ hk3 (by rw [List.length_map]; omega)
      rw [List.length_map] at hk4
      obtain ⟨f, rfl, sf⟩ := sub_unmap p4.sub
      refine ⟨f, h4, ?_, sf, hk4.up (by omega)⟩
      refine if_t (by simp [w3]) (seq_nx (set_eq (lock_eq (comp_eq (ds := (srt last).map PyData.str) (by simp) (by rw [List.length_map]; exact sz1000 (by omega)) rfl e4 rfl)) rfl) rfl)
    · exact ⟨f0, h3, if_f (by simp [w3, hw]) rfl, sub0, hk3.up (by omega)⟩
  obtain ⟨f1, h4, e4, sub1, hk4⟩ := st4
  -- more ways: one row exchanged
  have st5 : ∃ (f : List Str) (h5 : List D) (s6 : Sl), bIf (bAnd (asB (Q.e2 gtD (eVar 4) (eC (.int 1)))) (asB (Q.e2 neF (eVar 3) (eLock (fLst eNil))))) (bSeq (bSet 6 (eCall F__law_pick (eCons (eVar 0) (eCons (eVar 3) eNil)))) (bSeq (bSet 7 (eLock (fComp (iSeq (eVar 3)) (gN 9) (asB (Q.e2 neF (Q.e2 inF (eVar 9) (eVar 7)) (Q.e2 eqF (eVar 9) (eVar 6)))) (eVar 9) [9]))) bNil)) bNil
      [.own (.lst h4), .dat (histD hs), .dat (.list (ps.map verD)), .dat (.list ((srt last).map PyData.str)), .dat (.int way), .dat (.list (qs.map verD)), .no, .dat (.list (f1.map PyData.str)), .no, .no] = .ok .nx
      [.own (.lst h5), .dat (histD hs), .dat (.list (ps.map verD)), .dat (.list ((srt last).map PyData.str)), .dat (.int way), .dat (.list (qs.map verD)), s6, .dat (.list (f.map PyData.str)), .no, .no] ∧ f.Sublist (srt last) ∧ HandOk h5 (n + 100) := by
    have nn := ne_nil rs
    have gt := gt_int way 1
    have sh0 := short_ok (ds := ([] : List D)) (by decide)
    by_cases hw : 1 < way ∧ srt last ≠ []
    · obtain ⟨hw, hn0⟩ := hw
      obtain ⟨y, h5, e5, hy, hk5⟩ := pick_spec (Its.list (xs := (srt last).map PyData.str)) hk4 (by omega) (by simpa using hn0) (by rw [List.length_map]; omega)
      obtain ⟨r, hr', rfl⟩ := List.mem_map.mp hy
      have c9 := fcomp_pure (i := 9) (it := iSeq (eVar 3)) (t := asB (Q.e2 neF (Q.e2 inF (eVar 9) (eVar 7)) (Q.e2 eqF (eVar 9) (eVar 6)))) (e := eVar 9) (ρ := [.own (.lst h5), .dat (histD hs), .dat (.list (ps.map verD)), .dat (.list ((srt last).map PyData.str)), .dat (.int way), .dat (.list (qs.map verD)), .dat (.str r), .dat (.list (f1.map PyData.str)), .no, .no]) (ds := (srt last).map PyData.str)
        (fun x => f1.contains (strOf x) != (strOf x == r)) (fun x => x) (by simp) rfl (by simp) (by rw [List.length_map]; omega) (fun x hx => by
          obtain ⟨z, hz, rfl⟩ := List.mem_map.mp hx
          have i1 := inLs (rs z hz) (fun z hz => rs z (sub1.subset hz))
          have i2 := eq_strs z r
          have i3 := ne_bool (f1.contains z) (z == r)
          show _ = Rt.ok (f1.contains z != (z == r)) _
          generalize f1.contains z = A at i1 i3 ⊢
          generalize (z == r) = B at i2 i3 ⊢
          generalize f1.map PyData.str = C at i1 ⊢
          generalize (A != B) = E at i3 ⊢
          simp [i1, i2, i3]) (fun x hx _ => by simp)
      have em : (((srt last).map PyData.str).filter fun x => f1.contains (strOf x) != (strOf x == r)).map (fun x => x) = ((srt last).filter fun z => f1.contains z != (z == r)).map PyData.str := by
        rw [List.map_id', List.filter_map]
        rfl
      rw [em] at c9
      refine ⟨_, h5, .dat (.str r), if_t ?_ (seq_nx (ρ1 := [.own (.lst h5), .dat (histD hs), .dat (.list (ps.map verD)), .dat (.list ((srt last).map PyData.str)), .dat (.int way), .dat (.list (qs.map verD)), .dat (.str r), .dat (.list (f1.map PyData.str)), .no, .no]) (by simp [e5]) (seq_nx (set_eq (lock_eq c9) rfl) rfl)), List.filter_sublist, hk5.up (by omega)⟩
      have : (srt last).isEmpty = false := by simpa using hn0
      rw [this] at nn
      simp [gt, nn, hw, sh0]
    · refine ⟨f1, h4, .no, if_f ?_ rfl, sub1, hk4.up (by omega)⟩
      by_cases hw1 : 1 < way
      · have h0 : srt last = [] := Classical.not_not.mp fun q => hw ⟨hw1, q⟩
        rw [h0] at nn ⊢
        have nn : neF (.list []) (.list []) = some (.bool false) := nn
        simp [gt, nn, hw1, sh0]
      · simp [gt, hw1]
  obtain ⟨f2, h5, s6, e5, sub2, hk5⟩ := st5
  refine ⟨f2, h5, ?_, sub2, hk5⟩
  refine fn_run (ρ := [.own (.lst h5), .dat (histD hs), .dat (.list (ps.map verD)), .dat (.list ((srt last).map PyData.str)), .dat (.int way), .dat (.list (qs.map verD)), s6, .dat (.list (f2.map PyData.str)), .no, .no]) rfl ?_ (fin_rt rfl)
  have la := last_at hl
  have sv := sort_ver (v := last) (by omega)
  refine seq_nx (ρ1 := [.own (.lst h), .dat (histD hs), .dat (.list (ps.map verD)), .dat (.list ((srt last).map PyData.str)), .no, .no, .no, .no, .no, .no]) (by simp [histD, ixD, la, sv]) ?_
  refine seq_nx (ρ1 := [.own (.lst h3), .dat (histD hs), .dat (.list (ps.map verD)), .dat (.list ((srt last).map PyData.str)), .dat (.int way), .dat (.list (qs.map verD)), .no, .no, .no, .no]) ?_ ?_
  · have ec : eLock (fComp (iN range1D (eCons (Q.e2 addD (eC (.int 1)) (eCall F__law_take (eCons (eVar 0) (eCons (eC (.int 3)) eNil)))) eNil)) (gN 8) bYes (eCall F__law_pick (eCons (eVar 0) (eCons (eVar 2) eNil))) [8]) [.own (.lst h1), .dat (histD hs), .dat (.list (ps.map verD)), .dat (.list ((srt last).map PyData.str)), .no, .no, .no, .no, .no, .no] = .ok (.d (.list (qs.map verD))) [.own (.lst h3), .dat (histD hs), .dat (.list (ps.map verD)), .dat (.list ((srt last).map PyData.str)), .no, .no, .no, .no, .no, .no] := by
      refine lock_eq (comp_eq (ρ1 := [.own (.lst h2), .dat (histD hs), .dat (.list (ps.map verD)), .dat (.list ((srt last).map PyData.str)), .no, .no, .no, .no, .no, .no]) (ds := (List.range (1 + c)).map fun i => .int (i : Nat)) ?_ (by rw [List.length_map, List.length_range]; exact sz1000 (by omega)) rfl e3 rfl)
      have r1 := range1_eq (c := 1 + c) (by omega)
      have r1 : range1D [.int (1 + (c : Int))] = some ((List.range (1 + c)).map fun i => .int (i : Nat)) := by
        rw [← r1, Int.natCast_add]
        rfl
      simp [e2, r1]
    generalize eLock (fComp (iN range1D (eCons (Q.e2 addD (eC (.int 1)) (eCall F__law_take (eCons (eVar 0) (eCons (eC (.int 3)) eNil)))) eNil)) (gN 8) bYes (eCall F__law_pick (eCons (eVar 0) (eCons (eVar 2) eNil))) [8]) = M at ec ⊢
    have sh2 := short_ok (ds := [.int way, .list (qs.map verD)]) (by simp)
    simp [e1, ec, sh2]
  refine seq_nx (ρ1 := [.own (.lst h3), .dat (histD hs), .dat (.list (ps.map verD)), .dat (.list ((srt last).map PyData.str)), .dat (.int way), .dat (.list (qs.map verD)), .no, .dat (.list (f0.map PyData.str)), .no, .no]) (set_eq (lock_eq c7) rfl) ?_
  refine seq_nx e4 (seq_nx e5 (seq_one (by simp [verD]) (fun z => nomatch z)))
end Z
namespace Z
open PySem PySem.Spec PyProof.Rows L2 Gd Q
theorem in_noneT (l : List (Option Nat)) : inF .none (.tuple (l.map natD)) = some (.bool (l.any fun o => o.isNone)) := by
  show Option.map PyData.bool (if SeqAt.shaped PyData.none = true ∧ PyData.canLayAll0 (l.map natD) = true then some ((l.map natD).any fun z => PyData.eqv z .none) else none) = _
  rw [if_pos ⟨rfl, lay_nat l⟩, any_none]
  rfl
theorem sub_filter {w l : List Str} (h : w.Sublist l) : l.Nodup → w = l.filter fun z => w.contains z := by
  induction h with
  | slnil => intro _; rfl
  | @cons w l a h ih =>
    intro nd
    obtain ⟨na, nd⟩ := List.nodup_cons.mp nd
    have : w.contains a = false := by
      rw [List.contains_eq_mem, decide_eq_false_iff_not]
      exact fun q => na (h.subset q)
    rw [List.filter_cons, this, if_neg Bool.false_ne_true]
    exact ih nd
  | @cons_cons w l a h ih =>
    intro nd
    obtain ⟨na, nd⟩ := List.nodup_cons.mp nd
    have h1 : (a :: w).contains a = true := by simp
    rw [List.filter_cons, h1, if_pos rfl]
    congr 1
    refine (ih nd).trans (List.filter_congr fun z hz => ?_)
    have : z ≠ a := fun q => na (q ▸ hz)
    simp [this]
theorem sub_set {last w : List Str} (nl : last.Nodup) (h : w.Sublist (srt last)) : isSet last w = true := by
  unfold isSet
  rw [beq_iff_eq]
  exact sub_filter h (srt_nodup nl)
def nowS : Str := "nowhere"
theorem now_row : RowS nowS := by
  refine ⟨by decide +kernel, by decide +kernel, by decide +kernel⟩
theorem now_len : nowS.length = 7 := by decide +kernel
theorem set_now {last w : List Str} (h7 : ∀ z ∈ last, z.length ≠ 7) : isSet last (w ++ [nowS]) = false := by
  rw [Bool.eq_false_iff]
  intro h
  unfold isSet at h
  rw [beq_iff_eq] at h
  have m : nowS ∈ w ++ [nowS] := by simp
  rw [h] at m
  exact h7 nowS (srt_mem.mp (List.mem_filter.mp m).1) now_len
theorem rev_ne {w : List Str} (nd : w.Nodup) (l : 1 < w.length) : w.reverse ≠ w := by
  intro h
  have l0 : 0 < w.length := by omega
  have l1 : w.length - 1 < w.length := by omega
  have e0 : w[0] = w[w.length - 1] := by
    have e1 : w.reverse[0]'(by rw [List.length_reverse]; exact l0) = w[w.length - 1 - 0]'(by omega) := List.getElem_reverse (by rw [List.length_reverse]; exact l0)
    have e2 : w.reverse[0]'(by rw [List.length_reverse]; exact l0) = w[0] := by
      congr 1
    rw [← e2, e1]
    rfl
  have := (List.getElem_inj (h₀ := l0) (h₁ := l1) nd).mp e0
  omega
theorem set_rev {last w : List Str} (nl : last.Nodup) (h : isSet last w = true) (l : 1 < w.length) : isSet last w.reverse = false := by
  rw [Bool.eq_false_iff]
  intro h'
  unfold isSet at h h'
  rw [beq_iff_eq] at h h'
  have e : (fun z => w.reverse.contains z) = fun z => w.contains z := by
    funext z
    simp
  rw [e, ← h] at h'
  refine rev_ne ?_ l h'
  rw [h]
  exact (srt_nodup nl).filter _
theorem lim_le (v last w : List Str) : lim v last w ≤ v.length := by
  unfold lim
  cases h : v.findIdx? fun z => !w.contains z && last.contains z with
  | none => exact Nat.le_refl _
  | some j =>
    have := List.findIdx?_eq_some_iff_getElem.mp h
    obtain ⟨q, _⟩ := this
    exact Nat.le_of_lt q
theorem Sh.lims {hs : List (List Str)} {last w : List Str} (hh : HOk hs) (l : hs.length ≤ 50) : Sh 203 1 (.tuple (limsD hs last w)) := Sh.tup (B := 2) (m := 50) (fun d hd => by
  obtain ⟨v, hv, rfl⟩ := List.mem_map.mp hd
  exact Sh.nat (Nat.le_trans (lim_le v last w) (Nat.le_trans (hh.len v hv) (by decide)))) (by unfold limsD; rw [List.length_map]; exact l)
theorem supp_le {hs : List (List Str)} {last w : List Str} {z : Str} {j : Nat} (h : supp hs last w z = some j) : j < hs.length := by
  unfold supp at h
  obtain ⟨q, _⟩ := List.findIdx?_eq_some_iff_getElem.mp h
  exact q
theorem Sh.natD {hs : List (List Str)} {last w : List Str} {z : Str} (l : hs.length ≤ 50) : Sh 4 0 (natD (supp hs last w z)) := by
  cases h : supp hs last w z with
  | none => exact Sh.none
  | some j =>
    have := supp_le h
    have s := Sh.nat (n := j) (by omega)
    exact ⟨s.s, s.n, s.k, Nat.le_trans s.l (by decide)⟩
theorem Sh.supps {hs : List (List Str)} {last w u : List Str} (l : hs.length ≤ 50) (lu : u.length ≤ 50) : Sh 303 1 (.tuple (u.map fun z => Z.natD (supp hs last w z))) := Sh.tup (B := 4) (m := 50) (fun d hd => by
  obtain ⟨z, hz, rfl⟩ := List.mem_map.mp hd
  exact Sh.natD l) (by rw [List.length_map]; exact lu)
theorem inside_len {hs : List (List Str)} {last w : List Str} (l8 : hs.length ≤ 8) (lr : ∀ v ∈ hs, v.length ≤ 12) : (prefs hs last).length ≤ 97 ∧ (∀ p ∈ prefs hs last, p.length ≤ 12) ∧ (inside (prefs hs last) w).flatten.length ≤ 10000 := by
  have a : ∀ hs : List (List Str), (∀ v ∈ hs, v.length ≤ 12) → (hs.flatMap fun v => takes (live last v)).length ≤ 12 * hs.length := by
    intro hs
    induction hs with
    | nil => intro _; exact Nat.zero_le _
    | cons v hs ih =>
      intro lr
      have h1 := lr v List.mem_cons_self
      have h2 := ih fun v hv => lr v (List.mem_cons_of_mem _ hv)
      have h3 : (live last v).length ≤ v.length := List.length_filter_le _ _
      rw [List.flatMap_cons, List.length_append, takes_len, List.length_cons]
      omega
  have b : ∀ p ∈ prefs hs last, p.length ≤ 12 := by
    intro p hp
    rcases List.mem_cons.mp hp with rfl | hp
    · exact Nat.zero_le _
    · obtain ⟨v, hv, hp⟩ := List.mem_flatMap.mp hp
      obtain ⟨i, _, rfl⟩ := List.mem_map.mp hp
      have h3 : (live last v).length ≤ v.length := List.length_filter_le _ _
      have h1 := lr v hv
      have : ((live last v).take (1 + i)).length ≤ (live last v).length := (List.take_sublist _ _).length_le
      omega
  have c : (prefs hs last).length ≤ 97 := by
    have := a hs lr
    show (hs.flatMap fun v => takes (live last v)).length + 1 ≤ 97
    omega
  refine ⟨c, b, ?_⟩
  have d := flat_len (B := 12) (inside (prefs hs last) w) fun p hp => b p (List.mem_filter.mp hp).1
  have e : (inside (prefs hs last) w).length ≤ (prefs hs last).length := List.length_filter_le _ _
  omega
theorem prefs_rows {hs : List (List Str)} {last : List Str} (hh : HOk hs) : ∀ p ∈ prefs hs last, Rows p := by
  intro p hp z hz
  rcases List.mem_cons.mp hp with rfl | hp
  · cases hz
  · obtain ⟨v, hv, hp⟩ := List.mem_flatMap.mp hp
    obtain ⟨i, _, rfl⟩ := List.mem_map.mp hp
    exact hh.row v hv z (List.mem_filter.mp (List.mem_of_mem_take hz)).1
end Z
namespace Z
open PySem PySem.Spec PyProof.Rows L2 Gd Q
/-! ### unions -/
theorem strs_map : ∀ ns : List Str, strsD (ns.map PyData.str) = some ns
  | [] => rfl
  | n :: ns => by
    show (strsD (ns.map PyData.str)).map (n :: ·) = _
    rw [strs_map ns]
    rfl
theorem mem_add (l : List Str) (x z : Str) : z ∈ SetS.add l x ↔ z ∈ l ∨ z = x := by
  unfold SetS.add
  split
  · next c => exact ⟨.inl, fun h => h.elim id fun e => e ▸ List.contains_iff_mem.mp c⟩
  · rw [List.mem_cons]
    exact Or.comm
theorem mem_addAll : ∀ (xs l : List Str) (z : Str), z ∈ addAll l xs ↔ z ∈ l ∨ z ∈ xs
  | [], l, z => by simp [addAll]
  | x :: xs, l, z => by
    show z ∈ addAll (SetS.add l x) xs ↔ _
    rw [mem_addAll xs, mem_add, List.mem_cons, or_assoc]
theorem nodup_add {l : List Str} (h : l.Nodup) (x : Str) : (SetS.add l x).Nodup := by
  unfold SetS.add
  split
  · exact h
  · next c => exact List.nodup_cons.mpr ⟨fun z => c (List.contains_iff_mem.mpr z), h⟩
theorem nodup_addAll : ∀ (xs l : List Str), l.Nodup → (addAll l xs).Nodup
  | [], _, h => h
  | x :: xs, l, h => nodup_addAll xs _ (nodup_add h x)
/-- a union of texts that are, as a set, the list S -/
theorem addAll_perm {xs S : List Str} (nd : S.Nodup) (h : ∀ z, z ∈ xs ↔ z ∈ S) : (addAll [] xs).Perm S :=
  (List.perm_ext_iff_of_nodup (nodup_addAll xs [] List.nodup_nil) nd).mpr fun z => by
    rw [mem_addAll, h]
    simp
theorem srt_same {a b : List Str} (h : a.Perm b) : srt a = srt b := srt_eq ((srt_perm a).trans h) (srt_pw a)
theorem union_comp {L : D} : ∀ (xs : List (List Str)), comp2D (gN 1) (iSeq (eVar 1)) (gN 2) (eVar 2) [1, 2] [2] (xs.map verD) [.dat L, .no, .no] = .ok (xs.flatten.map PyData.str) [.dat L, .no, .no]
  | [] => rfl
  | v :: xs => by
    have c : compD (gN 2) bYes (eVar 2) [2] (v.map PyData.str) [.dat L, .dat (verD v), .no] = .ok (v.map PyData.str) [.dat L, .dat (verD v), .no] := by
      have := comp_pure (i := 2) (t := bYes) (e := eVar 2) (ρ := [.dat L, .dat (verD v), .no]) (p := fun _ => true) (f := id) (by show 2 < 3; decide) (v.map PyData.str) (fun _ _ => rfl) fun _ _ _ => rfl
      rw [List.filter_eq_self.mpr fun _ _ => rfl, List.map_id] at this
      exact this
    have ih := union_comp (L := L) xs
    rw [List.map_cons]
    unfold comp2D
    show ((Rt.ok (v.map PyData.str) [.dat L, .dat (verD v), .no] : Rt (List D)).bnd fun ds2 ρ2 => (compD (gN 2) bYes (eVar 2) [2] ds2 (wipeE ρ2 [2])).bnd fun ys ρ3 => (comp2D (gN 1) (iSeq (eVar 1)) (gN 2) (eVar 2) [1, 2] [2] (xs.map verD) (wipeE ρ3 [1, 2])).bnd fun zs ρ4 => .ok (ys ++ zs) ρ4) = _
    show ((compD (gN 2) bYes (eVar 2) [2] (v.map PyData.str) [.dat L, .dat (verD v), .no]).bnd fun ys ρ3 => (comp2D (gN 1) (iSeq (eVar 1)) (gN 2) (eVar 2) [1, 2] [2] (xs.map verD) (wipeE ρ3 [1, 2])).bnd fun zs ρ4 => .ok (ys ++ zs) ρ4) = _
    rw [c]
    show ((comp2D (gN 1) (iSeq (eVar 1)) (gN 2) (eVar 2) [1, 2] [2] (xs.map verD) [.dat L, .no, .no]).bnd fun zs ρ4 => .ok (v.map PyData.str ++ zs) ρ4) = _
    rw [ih]
    show Rt.ok (v.map PyData.str ++ xs.flatten.map PyData.str) _ = _
    rw [List.flatten_cons, List.map_append]
theorem union_spec {xs : List (List Str)} {S : List Str} (nd : S.Nodup) (h : ∀ z, z ∈ xs.flatten ↔ z ∈ S) (lx : xs.flatten.length ≤ 4000) (ls : S.length < 64) :
    F_union_of [.dat (.list (xs.map verD))] = .ok (.dat (verD (srt S))) [.dat (.list (xs.map verD))] := by
  have pm := addAll_perm nd h
  have fc : fSc2 (iSeq (eVar 0)) (gN 1) (iSeq (eVar 1)) (gN 2) (eVar 2) [1, 2] [2] [.dat (.list (xs.map verD)), .no, .no] = .ok (.lst ((srt S).map PyData.str)) [.dat (.list (xs.map verD)), .no, .no] := by
    unfold fSc2
    show (comp2D (gN 1) (iSeq (eVar 1)) (gN 2) (eVar 2) [1, 2] [2] (xs.map verD) [.dat (.list (xs.map verD)), .no, .no]).bnd (fun ys ρ2 => setOut [.dat (.list (xs.map verD)), .no, .no] [1, 2] ys ρ2) = _
    rw [union_comp]
    show setOut [.dat (.list (xs.map verD)), .no, .no] [1, 2] (xs.flatten.map PyData.str) [.dat (.list (xs.map verD)), .no, .no] = _
    unfold setOut
    rw [strs_map]
    dsimp only
    rw [if_pos ⟨lx, by rw [pm.length_eq]; exact ls⟩, srt_same pm]
    rfl
  have sh := lock_eq fc
  generalize xs.map verD = L at *
  refine fn_run (n := 1) (N := 3) (b := b_union_of) (ρ := [.dat (.list L), .no, .no]) rfl ?_ (fin_rt rfl)
  show b_union_of [.dat (.list L), .no, .no] = Rt.ok (Out.rt (.d (.tuple ((srt S).map PyData.str)))) _
  unfold b_union_of
  generalize fSc2 (iSeq (eVar 0)) (gN 1) (iSeq (eVar 1)) (gN 2) (eVar 2) [1, 2] [2] = FC at sh ⊢
  generalize (srt S).map PyData.str = T at sh ⊢
  refine seq_one ?_ (fun z => nomatch z)
  simp only [bRet, eN, eCons, eNil]
  rw [sh]
  rfl
end Z
namespace Z
open PySem PySem.Spec PyProof.Rows L2 Gd Q
/-! ### tokens -/
theorem len_verD (v : List Str) : lenD [verD v] = some (.int (v.length : Nat)) := by
  show some (PyData.int ((v.map PyData.str).length : Nat)) = _
  rw [List.length_map]
def tokD (os : List (List Str)) (S : List Str) : D := .tuple (os.map fun o => .int (lim o o S : Nat))
theorem lim_congr {o l S S' : List Str} (h : ∀ z, z ∈ S ↔ z ∈ S') : lim o l S = lim o l S' := by
  unfold lim
  congr 2
  funext z
  congr 2
  rw [Bool.eq_iff_iff, List.contains_iff_mem, List.contains_iff_mem]
  exact h z
theorem tok_congr {os : List (List Str)} {S S' : List Str} (h : ∀ z, z ∈ S ↔ z ∈ S') : tokD os S = tokD os S' := by
  unfold tokD
  congr 1
  exact List.map_congr_left fun o _ => by rw [lim_congr h]
theorem enc_spec {os : List (List Str)} {S : List Str} (ho : ∀ o ∈ os, Rows o) (hS : Rows S) (ll : os.length ≤ 1000) :
    F_encode_state [.dat (histD os), .dat (verD S)] = .ok (.dat (tokD os S)) [.dat (histD os), .dat (verD S)] := by
  have c := fcomp_map (i := 2) (it := iSeq (eVar 0)) (e := eCall F_prefix_length (eCons (eVar 2) (eCons (eVar 2) (eCons (eVar 1) eNil)))) (ρ := [.dat (histD os), .dat (verD S), .no]) (ds := os.map verD)
    (fun d => match d with
      | .tuple ds => .int (lim (ds.map strOf) (ds.map strOf) S : Nat)
      | d => d) (by simp) rfl (by simp [histD]) (by rw [List.length_map]; exact ll) (fun d hd => by
      obtain ⟨v, hv, rfl⟩ := List.mem_map.mp hd
      have e := prefix_length_spec (v := v) (live := v) (w := S) (ho v hv) (ho v hv) hS
      have es : (v.map PyData.str).map strOf = v := by
        rw [List.map_map]
        exact List.map_id v
      simp [histD, e]
      simp [verD, es])
  have em : (os.map verD).map (fun d => match d with
      | .tuple ds => PyData.int (lim (ds.map strOf) (ds.map strOf) S : Nat)
      | d => d) = os.map fun o => PyData.int (lim o o S : Nat) := by
    rw [List.map_map]
    refine List.map_congr_left fun v hv => ?_
    have es : (v.map PyData.str).map strOf = v := by
      rw [List.map_map]
      exact List.map_id v
    show PyData.int (lim ((v.map PyData.str).map strOf) ((v.map PyData.str).map strOf) S : Nat) = _
    rw [es]
  rw [em] at c
  refine fn_run (n := 2) (N := 3) (b := b_encode_state) (ρ := [.dat (histD os), .dat (verD S), .no]) rfl ?_ (fin_rt rfl)
  refine seq_one ?_ (fun z => nomatch z)
  simp only [bRet, eN, eCons, eNil, eLock]
  rw [show ([Sl.dat (histD os), .dat (verD S)] ++ List.replicate (3 - 2) Sl.no) = [.dat (histD os), .dat (verD S), .no] from rfl, c]
  rfl
/-- a comprehension over pairs, in slots 2 and 3 -/
theorem comp_pair {A B : Sl} {e : Mo R} (f : D → D → D) : ∀ ps : List (D × D), (∀ p ∈ ps, e [A, B, .dat p.1, .dat p.2] = .ok (.d (f p.1 p.2)) [A, B, .dat p.1, .dat p.2]) →
    compD (g2 2 3) bYes e [2, 3] (ps.map fun p => Q.pairD p.1 p.2) [A, B, .no, .no] = .ok (ps.map fun p => f p.1 p.2) [A, B, .no, .no]
  | [], _ => rfl
  | p :: ps, h => by
    have ih := comp_pair (A := A) (B := B) (e := e) f ps fun q hq => h q (List.mem_cons_of_mem _ hq)
    have h1 := h p List.mem_cons_self
    rw [List.map_cons]
    unfold compD
    show (e [A, B, .dat p.1, .dat p.2]).bnd (fun r ρ3 => match r with
      | .d x => (compD (g2 2 3) bYes e [2, 3] (ps.map fun p => Q.pairD p.1 p.2) (wipeE ρ3 [2, 3])).bnd fun xs ρ4 => Rt.ok (x :: xs) ρ4
      | .v _ => .no) = _
    rw [h1]
    show (compD (g2 2 3) bYes e [2, 3] (ps.map fun p => Q.pairD p.1 p.2) [A, B, .no, .no]).bnd (fun xs ρ4 => Rt.ok (f p.1 p.2 :: xs) ρ4) = _
    rw [ih]
    rfl
def ordP (os : List (List Str)) (S : List Str) : List (D × D) := os.map fun o => (verD o, .int (lim o o S : Nat))
theorem zip_ord (S : List Str) : ∀ os : List (List Str), zipD (os.map verD) (os.map fun o => .int (lim o o S : Nat)) = (ordP os S).map fun p => Q.pairD p.1 p.2
  | [] => rfl
  | o :: os => by
    have ih := zip_ord S os
    show Q.pairD (verD o) (.int (lim o o S : Nat)) :: zipD (os.map verD) (os.map fun o => .int (lim o o S : Nat)) = _
    rw [ih]
    rfl
theorem pair_comp {os : List (List Str)} {S : List Str} {e : Mo R} (f : D → D → D) (ll : os.length ≤ 1000) (h : ∀ o ∈ os, e [.dat (histD os), .dat (tokD os S), .dat (verD o), .dat (.int (lim o o S : Nat))] = .ok (.d (f (verD o) (.int (lim o o S : Nat)))) [.dat (histD os), .dat (tokD os S), .dat (verD o), .dat (.int (lim o o S : Nat))]) :
    fComp (iMap zipF (eCons (eVar 0) (eCons (eVar 1) eNil))) (g2 2 3) bYes e [2, 3] [.dat (histD os), .dat (tokD os S), .no, .no] = .ok (.lst (os.map fun o => f (verD o) (.int (lim o o S : Nat)))) [.dat (histD os), .dat (tokD os S), .no, .no] := by
  have c := comp_pair (A := .dat (histD os)) (B := .dat (tokD os S)) (e := e) f (ordP os S) fun p hp => by
    obtain ⟨o, ho, rfl⟩ := List.mem_map.mp hp
    exact h o ho
  have em : (ordP os S).map (fun p => f p.1 p.2) = os.map fun o => f (verD o) (.int (lim o o S : Nat)) := by
    unfold ordP
    rw [List.map_map]
    rfl
  rw [em] at c
  refine comp_eq (ρ1 := [.dat (histD os), .dat (tokD os S), .no, .no]) (ρ2 := [.dat (histD os), .dat (tokD os S), .no, .no]) (ds := (ordP os S).map fun p => Q.pairD p.1 p.2) ?_ (by rw [List.length_map]; unfold ordP; rw [List.length_map]; exact sz1000 ll) rfl c ?_
  · rw [← zip_ord]
    rfl
  · rfl
theorem within_nat {n m : Nat} (h : n ≤ m) : F_is_integer_within [.dat (.int n), .dat (.int 0), .dat (.int m)] = .ok (.dat (.bool true)) [.dat (.int n), .dat (.int 0), .dat (.int m)] := by
  have e1 : isiD "bool" (.int (n : Nat)) = some (.bool false) := rfl
  have e2 : isiD "int" (.int (n : Nat)) = some (.bool true) := rfl
  have e3 : leD (.int 0) (.int (n : Nat)) = some (.bool true) := congrArg (fun b => some (PyData.bool b)) (decide_eq_true (by omega))
  have e4 : leD (.int (n : Nat)) (.int (m : Nat)) = some (.bool true) := congrArg (fun b => some (PyData.bool b)) (decide_eq_true (by omega))
  simp [F_is_integer_within, b_is_integer_within, bSeq, bNil, e1, e2, e3, e4, eChain, chainK]
theorem all_true : ∀ n : Nat, allD [.list (List.replicate n (.bool true))] = some (.bool true) := fun n => by
  have h : boolsD (List.replicate n (.bool true)) = some (List.replicate n true) := by
    have := bools_of (List.replicate n true)
    rw [List.map_replicate] at this
    exact this
  show Option.map (fun bs : List Bool => PyData.bool (bs.all id)) (boolsD (List.replicate n (.bool true))) = _
  rw [h]
  show some (PyData.bool ((List.replicate n true).all id)) = _
  rw [show (List.replicate n true).all id = true from List.all_eq_true.mpr fun x hx => (List.mem_replicate.mp hx).2]
theorem istok_spec {os : List (List Str)} {S : List Str} (ho : ∀ o ∈ os, o.length ≤ 24) (ll : os.length ≤ 1000) : F_is_token [.dat (histD os), .dat (tokD os S)] = .ok (.dat (.bool true)) [.dat (histD os), .dat (tokD os S)] := by
  have c := pair_comp (os := os) (S := S) (e := eCall F_is_integer_within (eCons (eVar 3) (eCons (eC (.int 0)) (eCons (eN lenD (eCons (eVar 2) eNil)) eNil)))) (fun _ _ => .bool true) ll fun o h => by
    have e1 := len_verD o
    have e2 := within_nat (lim_le o o S)
    generalize histD os = A
    generalize tokD os S = B
    generalize verD o = C at e1 ⊢
    generalize lim o o S = m at e2 ⊢
    simp [-Q.lenD, e1, e2]
  have l1 : lenD [tokD os S] = some (.int (os.length : Nat)) := by
    show some (PyData.int ((os.map fun o => PyData.int (lim o o S : Nat)).length : Nat)) = _
    rw [List.length_map]
  have l2 : lenD [histD os] = some (.int (os.length : Nat)) := by
    show some (PyData.int ((os.map verD).length : Nat)) = _
    rw [List.length_map]
  have ne : neF (.int (os.length : Nat)) (.int (os.length : Nat)) = some (.bool false) := by
    have z : ∀ a : Int, neF (.int a) (.int a) = some (.bool (!(a == a))) := fun a => rfl
    rw [z, beq_self_eq_true]
    rfl
  have it : isiD "tuple" (tokD os S) = some (.bool true) := rfl
  have ae := all_true os.length
  rw [List.map_const'] at c
  have sh := lock_eq c
  generalize List.replicate os.length (PyData.bool true) = T at sh ae
  have b1 : (bIf (bOr (bNot (asB (e1 (isiD "tuple") (eVar 1)))) (asB (e2 neF (eN lenD (eCons (eVar 1) eNil)) (eN lenD (eCons (eVar 0) eNil))))) (bSeq (bRet (eC (.bool false))) bNil) bNil) [.dat (histD os), .dat (tokD os S), .no, .no] = .ok .nx [.dat (histD os), .dat (tokD os S), .no, .no] := by
    generalize histD os = A at *
    generalize tokD os S = B at *
    exact if_f (by simp [-Q.lenD, it, l1, l2, ne]) rfl
  refine fn_run (n := 2) (N := 4) (b := b_is_token) (ρ := [.dat (histD os), .dat (tokD os S), .no, .no]) rfl ?_ (fin_rt rfl)
  generalize histD os = A at *
  generalize tokD os S = B at *
  refine seq_nx b1 (seq_one ?_ (fun z => nomatch z))
  simp only [bRet, eN, eCons, eNil]
  rw [sh]
  show (lift (allD [.list T]) [.dat A, .dat B, .no, .no]).bind (fun r ρ => Rt.ok (Out.rt r) ρ) = _
  rw [ae]
  rfl
end Z
namespace Z
open PySem PySem.Spec PyProof.Rows L2 Gd Q
theorem fnX_run {n N : Nat} {b : Mo Out} {as : List Sl} {o : Out} {ρ : Ev} {r : Rt Sl} (h : as.length = n) (hb : b (as ++ List.replicate (N - n) .no) = .ok o ρ) (hf : fin n ρ o = r) : fnX n N b as = r := by
  unfold fnX
  rw [if_pos h, hb]
  exact hf
theorem fnX_ex {n N : Nat} {b : Mo Out} {as : List Sl} {c : Str} {d : D} {ρ : Ev} (h : as.length = n) (hb : b (as ++ List.replicate (N - n) .no) = .ex c d ρ) : fnX n N b as = .ex c d ρ := by
  unfold fnX
  rw [if_pos h, hb]
  rfl
theorem seq_ex {f g : Mo Out} {ρ ρ1 : Ev} {c : Str} {d : D} (h : f ρ = .ex c d ρ1) : bSeq f g ρ = .ex c d ρ1 := by
  unfold bSeq
  rw [h]
  rfl
theorem rows_app {a b : List Str} (ha : Rows a) (hb : Rows b) : Rows (a ++ b) := fun z hz => (List.mem_append.mp hz).elim (ha z) (hb z)
theorem add_ver {a b : List Str} (h : a.length + b.length ≤ 100000) : addD (verD a) (verD b) = some (verD (a ++ b)) := by
  show (if (a.map PyData.str).length + (b.map PyData.str).length ≤ sizeLine then some (PyData.tuple (a.map PyData.str ++ b.map PyData.str)) else none) = _
  rw [if_pos (by rw [List.length_map, List.length_map]; exact Nat.le_trans h (by decide)), ← List.map_append]
  rfl
theorem flat_len24 : ∀ xs : List (List Str), (∀ p ∈ xs, p.length ≤ 24) → xs.flatten.length ≤ 24 * xs.length
  | [], _ => Nat.le_refl _
  | x :: xs, h => by
    have a := h x List.mem_cons_self
    have b := flat_len24 xs fun p hp => h p (List.mem_cons_of_mem _ hp)
    rw [List.flatten_cons, List.length_append, List.length_cons]
    omega
def cutP : D → D → D
  | .tuple ds, .int i => .tuple (ds.take i.toNat)
  | _, _ => .none
structure Ords (os : List (List Str)) : Prop where
  rows : ∀ o ∈ os, Rows o
  len : ∀ o ∈ os, o.length ≤ 24
  few : os.length ≤ 100
theorem rows_srt {S : List Str} (h : Rows S) : Rows (srt S) := fun z hz => h z (srt_mem.mp hz)
theorem lim_in {o S : List Str} {z : Str} (h : z ∈ o.take (lim o o S)) : z ∈ S := by
  have ho := List.mem_of_mem_take h
  have e : o.take (lim o o S) = o.takeWhile fun x => !(!S.contains x && o.contains x) := take_find _ o
  rw [e] at h
  have q := List.all_takeWhile (p := fun x => !(!S.contains x && o.contains x)) (l := o)
  have q := List.all_eq_true.mp q z h
  rw [List.contains_iff_mem.mpr ho, Bool.and_true, Bool.not_not] at q
  exact List.contains_iff_mem.mp q
theorem lim_most {o S : List Str} {k : Nat} (hk : k ≤ o.length) (h : ∀ z ∈ o.take k, z ∈ S) : k ≤ lim o o S := by
  unfold lim
  cases hf : o.findIdx? fun z => !S.contains z && o.contains z with
  | none => exact hk
  | some j =>
    obtain ⟨hj, pj, _⟩ := List.findIdx?_eq_some_iff_getElem.mp hf
    show k ≤ j
    refine Nat.le_of_not_lt fun lt => ?_
    have m : o[j] ∈ o.take k := by
      have : (o.take k)[j]'(by rw [List.length_take]; omega) = o[j] := List.getElem_take
      rw [← this]
      exact List.getElem_mem _
    have c := List.contains_iff_mem.mpr (h _ m)
    rw [c] at pj
    simp at pj
theorem all_bools {bs : List Bool} : allD [.list (bs.map PyData.bool)] = some (.bool (bs.all id)) := by
  show Option.map (fun bs : List Bool => PyData.bool (bs.all id)) (boolsD (bs.map PyData.bool)) = _
  rw [bools_of]
  rfl
def fitB (o S : List Str) : D → Bool
  | .int i => (o.take i.toNat).all S.contains
  | _ => false
theorem fit_max {o S : List Str} : max1D [.list ((((List.range (o.length + 1)).map fun i => PyData.int (i : Nat)).filter (fitB o S)).map fun x => x)] = some (.int (lim o o S : Nat)) := by
  have e : ((((List.range (o.length + 1)).map fun i => PyData.int (i : Nat)).filter (fitB o S)).map fun x => x) = (((List.range (o.length + 1)).filter fun k => (o.take k).all S.contains).map fun k => ((k : Nat) : Int)).map PyData.int := by
    rw [List.map_id', List.filter_map, List.map_map]
    rfl
  rw [e]
  show (intsD _).bind (fun ns => ns.max?.map PyData.int) = _
  rw [intsD_map]
  have m : (((List.range (o.length + 1)).filter fun k => (o.take k).all S.contains).map fun k => ((k : Nat) : Int)).max? = some ((lim o o S : Nat) : Int) := by
    refine List.max?_eq_some_iff.mpr ⟨List.mem_map.mpr ⟨lim o o S, List.mem_filter.mpr ⟨List.mem_range.mpr ?_, List.all_eq_true.mpr fun z hz => List.contains_iff_mem.mpr (lim_in hz)⟩, rfl⟩, fun b hb => ?_⟩
    · have := lim_le o o S
      omega
    · obtain ⟨k, hk, rfl⟩ := List.mem_map.mp hb
      obtain ⟨h1, h2⟩ := List.mem_filter.mp hk
      have := lim_most (S := S) (k := k) (by have := List.mem_range.mp h1; omega) fun z hz => List.contains_iff_mem.mp (List.all_eq_true.mp h2 z hz)
      omega
  show Option.map PyData.int _ = _
  rw [m]
  rfl
theorem take_more {v : List Str} {k m : Nat} {z : Str} (h : z ∈ v.take k) (le : k ≤ m) : z ∈ v.take m := by
  have e : v.take k = (v.take m).take k := by rw [List.take_take, Nat.min_eq_left le]
  rw [e] at h
  exact List.mem_of_mem_take h
theorem lim_mono {o S S' : List Str} (h : ∀ z ∈ S, z ∈ S') : lim o o S ≤ lim o o S' := lim_most (lim_le o o S) fun z hz => h z (lim_in hz)
def goneD (s : List Str) : List (D × D) := s.map fun z => (.str z, .bool true)
theorem gone_un : ∀ s : List Str, unKV (goneD s) = some (s.map fun z => (Sum.inr z, PyData.bool true))
  | [] => rfl
  | z :: s => by
    show (match keyOf (.str z), unKV (goneD s) with
      | some k, some r => some ((k, PyData.bool true) :: r)
      | _, _ => none) = _
    rw [gone_un s]
    rfl
theorem gone_put {s : List Str} {z : Str} (h : s.contains z = false) : toKV (putG (s.map fun z => (Sum.inr z, PyData.bool true)) (.inr z) (.bool true)) = goneD (s ++ [z]) := by
  have na : ((s.map fun z => ((Sum.inr z : Key), PyData.bool true)).any fun kv => decide (kv.1 = .inr z)) = false := by
    rw [List.any_map, Bool.eq_false_iff]
    intro q
    obtain ⟨x, hx, e⟩ := List.any_eq_true.mp q
    have e : decide ((Sum.inr x : Key) = .inr z) = true := e
    have e := of_decide_eq_true e
    cases e
    rw [List.contains_iff_mem.mpr hx] at h
    cases h
  unfold putG
  rw [na, if_neg Bool.false_ne_true]
  unfold toKV goneD
  rw [List.map_append, List.map_map, List.map_append]
  rfl
theorem keys_gone (s : List Str) : (goneD s).map Prod.fst = s.map PyData.str := by
  unfold goneD
  rw [List.map_map]
  rfl
theorem strsD_strs : ∀ s : List Str, strsD (s.map PyData.str) = some s
  | [] => rfl
  | z :: s => by
    show (strsD (s.map PyData.str)).map (z :: ·) = _
    rw [strsD_strs s]
    rfl
theorem sort_gone {s : List Str} (l : s.length < 64) : sortedD [.dict (goneD s)] = some ((srt s).map PyData.str) := by
  show sortS ((goneD s).map Prod.fst) = _
  rw [keys_gone]
  unfold sortS
  rw [strsD_strs]
  exact if_pos l
theorem ne_vers {a b : List Str} (ha : Rows a) (hb : Rows b) : neF (verD a) (verD b) = some (.bool (!(a == b))) := by
  have e : eqD (verD a) (verD b) = some (a == b) := by
    unfold eqD
    rw [if_pos ⟨shaped_tup ha, shaped_tup hb⟩, eqv_vers]
  unfold neF
  rw [e]
  rfl
end Z
namespace Z
open PySem PySem.Spec PyProof.Rows L2 Gd Q
def tokL (ls : List Nat) : D := .tuple (ls.map fun n => .int (n : Nat))
structure Fit (os : List (List Str)) (ls : List Nat) : Prop where
  len : ls.length = os.length
  le : ∀ p ∈ os.zip ls, p.2 ≤ p.1.length
def cutsL (os : List (List Str)) (ls : List Nat) : List (List Str) := (os.zip ls).map fun p => p.1.take p.2
def uni (os : List (List Str)) (ls : List Nat) : List Str := addAll [] (cutsL os ls).flatten
def limL (os : List (List Str)) (S : List Str) : List Nat := os.map fun o => lim o o S
theorem tok_lim (os : List (List Str)) (S : List Str) : tokD os S = tokL (limL os S) := by
  unfold tokD tokL limL
  rw [List.map_map]
  rfl
theorem zip_lim (S : List Str) : ∀ os : List (List Str), os.zip (limL os S) = os.map fun o => (o, lim o o S)
  | [] => rfl
  | o :: os => by
    show (o, lim o o S) :: os.zip (limL os S) = _
    rw [zip_lim S os]
    rfl
theorem fit_lim (os : List (List Str)) (S : List Str) : Fit os (limL os S) := ⟨List.length_map _, fun p hp => by
  rw [zip_lim] at hp
  obtain ⟨o, _, rfl⟩ := List.mem_map.mp hp
  exact lim_le o o S⟩
def prs (os : List (List Str)) (ls : List Nat) : List (D × D) := (os.zip ls).map fun p => (verD p.1, .int (p.2 : Nat))
theorem zip_prs : ∀ (os : List (List Str)) (ls : List Nat), zipD (os.map verD) (ls.map fun n => .int (n : Nat)) = (prs os ls).map fun p => Q.pairD p.1 p.2
  | [], _ => rfl
  | _ :: _, [] => rfl
  | o :: os, n :: ls => by
    have ih := zip_prs os ls
    show Q.pairD (verD o) (.int (n : Nat)) :: zipD (os.map verD) (ls.map fun n => .int (n : Nat)) = _
    rw [ih]
    rfl
theorem pair_compL {os : List (List Str)} {ls : List Nat} {e : Mo R} (f : D → D → D) (ll : os.length ≤ 1000) (h : ∀ p ∈ os.zip ls, e [.dat (histD os), .dat (tokL ls), .dat (verD p.1), .dat (.int (p.2 : Nat))] = .ok (.d (f (verD p.1) (.int (p.2 : Nat)))) [.dat (histD os), .dat (tokL ls), .dat (verD p.1), .dat (.int (p.2 : Nat))]) :
    fComp (iMap zipF (eCons (eVar 0) (eCons (eVar 1) eNil))) (g2 2 3) bYes e [2, 3] [.dat (histD os), .dat (tokL ls), .no, .no] = .ok (.lst ((os.zip ls).map fun p => f (verD p.1) (.int (p.2 : Nat)))) [.dat (histD os), .dat (tokL ls), .no, .no] := by
  have c := comp_pair (A := .dat (histD os)) (B := .dat (tokL ls)) (e := e) f (prs os ls) fun p hp => by
    obtain ⟨q, hq, rfl⟩ := List.mem_map.mp hp
    exact h q hq
  have em : (prs os ls).map (fun p => f p.1 p.2) = (os.zip ls).map fun p => f (verD p.1) (.int (p.2 : Nat)) := by
    unfold prs
    rw [List.map_map]
    rfl
  rw [em] at c
  refine comp_eq (ρ1 := [.dat (histD os), .dat (tokL ls), .no, .no]) (ρ2 := [.dat (histD os), .dat (tokL ls), .no, .no]) (ds := (prs os ls).map fun p => Q.pairD p.1 p.2) ?_ (by
    rw [List.length_map]
    unfold prs
    rw [List.length_map, List.length_zip]
    exact sz1000 (Nat.le_trans (Nat.min_le_left _ _) ll)) rfl c ?_
  · rw [← zip_prs]
    rfl
  · rfl
theorem istokL_spec {os : List (List Str)} {ls : List Nat} (hf : Fit os ls) (ll : os.length ≤ 1000) : F_is_token [.dat (histD os), .dat (tokL ls)] = .ok (.dat (.bool true)) [.dat (histD os), .dat (tokL ls)] := by
  have c := pair_compL (os := os) (ls := ls) (e := eCall F_is_integer_within (eCons (eVar 3) (eCons (eC (.int 0)) (eCons (eN lenD (eCons (eVar 2) eNil)) eNil)))) (fun _ _ => .bool true) ll fun p h => by
    have a1 := len_verD p.1
    have a2 := within_nat (hf.le p h)
    generalize histD os = A
    generalize tokL ls = B
    generalize verD p.1 = C at a1 ⊢
    generalize p.2 = m at a2 ⊢
    simp [-Q.lenD, a1, a2]
  have l1 : lenD [tokL ls] = some (.int (os.length : Nat)) := by
    show some (PyData.int ((ls.map fun n => PyData.int (n : Nat)).length : Nat)) = _
    rw [List.length_map, hf.len]
  have l2 : lenD [histD os] = some (.int (os.length : Nat)) := by
    show some (PyData.int ((os.map verD).length : Nat)) = _
    rw [List.length_map]
  have ne : neF (.int (os.length : Nat)) (.int (os.length : Nat)) = some (.bool false) := by
    have z : ∀ a : Int, neF (.int a) (.int a) = some (.bool (!(a == a))) := fun a => rfl
    rw [z, beq_self_eq_true]
    rfl
  have it : isiD "tuple" (tokL ls) = some (.bool true) := rfl
  have ae := all_true (os.zip ls).length
  rw [List.map_const'] at c
  have sh := lock_eq c
  generalize List.replicate (os.zip ls).length (PyData.bool true) = T at sh ae
  have b1 : (bIf (bOr (bNot (asB (e1 (isiD "tuple") (eVar 1)))) (asB (e2 neF (eN lenD (eCons (eVar 1) eNil)) (eN lenD (eCons (eVar 0) eNil))))) (bSeq (bRet (eC (.bool false))) bNil) bNil) [.dat (histD os), .dat (tokL ls), .no, .no] = .ok .nx [.dat (histD os), .dat (tokL ls), .no, .no] := by
    generalize histD os = A at *
    generalize tokL ls = B at *
    exact if_f (by simp [-Q.lenD, it, l1, l2, ne]) rfl
  refine fn_run (n := 2) (N := 4) (b := b_is_token) (ρ := [.dat (histD os), .dat (tokL ls), .no, .no]) rfl ?_ (fin_rt rfl)
  generalize histD os = A at *
  generalize tokL ls = B at *
  refine seq_nx b1 (seq_one ?_ (fun z => nomatch z))
  simp only [bRet, eN, eCons, eNil]
  rw [sh]
  show (lift (allD [.list T]) [.dat A, .dat B, .no, .no]).bind (fun r ρ => Rt.ok (Out.rt r) ρ) = _
  rw [ae]
  rfl
theorem mem_cutsL {os : List (List Str)} {ls : List Nat} {z : Str} : z ∈ (cutsL os ls).flatten ↔ ∃ p ∈ os.zip ls, z ∈ p.1.take p.2 := by
  unfold cutsL
  rw [List.mem_flatten]
  constructor
  · rintro ⟨l, hl, hz⟩
    obtain ⟨o, ho, rfl⟩ := List.mem_map.mp hl
    exact ⟨o, ho, hz⟩
  · rintro ⟨o, ho, hz⟩
    exact ⟨_, List.mem_map.mpr ⟨o, ho, rfl⟩, hz⟩
theorem mem_uni {os : List (List Str)} {ls : List Nat} {z : Str} : z ∈ uni os ls ↔ ∃ p ∈ os.zip ls, z ∈ p.1.take p.2 := by
  unfold uni
  rw [mem_addAll, mem_cutsL]
  simp
theorem uni_nodup (os : List (List Str)) (ls : List Nat) : (uni os ls).Nodup := nodup_addAll _ _ List.nodup_nil
structure Few (os : List (List Str)) (names : List Str) : Prop where
  rows : ∀ o ∈ os, Rows o
  nd : ∀ o ∈ os, o.Nodup
  sub : ∀ o ∈ os, ∀ z ∈ o, z ∈ names
  few : names.length ≤ 24
  len : os.length ≤ 100
theorem Few.olen {os : List (List Str)} {names : List Str} (F : Few os names) {o : List Str} (h : o ∈ os) : o.length ≤ 24 := Nat.le_trans (nodup_sub_len (F.nd o h) (F.sub o h)) F.few
theorem Few.ords {os : List (List Str)} {names : List Str} (F : Few os names) : Ords os := ⟨F.rows, fun _ h => F.olen h, F.len⟩
theorem zip_fst {os : List (List Str)} {ls : List Nat} {p : List Str × Nat} (h : p ∈ os.zip ls) : p.1 ∈ os := (List.of_mem_zip (show (p.1, p.2) ∈ os.zip ls from h)).1
theorem uni_in {os : List (List Str)} {names : List Str} (F : Few os names) {ls : List Nat} : ∀ z ∈ uni os ls, z ∈ names := fun z hz => by
  obtain ⟨p, hp, h⟩ := mem_uni.mp hz
  exact F.sub _ (zip_fst hp) z (List.mem_of_mem_take h)
theorem uni_rows {os : List (List Str)} {names : List Str} (F : Few os names) {ls : List Nat} : Rows (uni os ls) := fun z hz => by
  obtain ⟨p, hp, h⟩ := mem_uni.mp hz
  exact F.rows _ (zip_fst hp) z (List.mem_of_mem_take h)
theorem few64 {S names : List Str} (nd : S.Nodup) (h : ∀ z ∈ S, z ∈ names) (ln : names.length ≤ 24) : S.length ≤ 24 := Nat.le_trans (nodup_sub_len nd h) ln
theorem decodeL_spec {os : List (List Str)} {names : List Str} {ls : List Nat} (F : Few os names) (hf : Fit os ls) : F_decode_token [.dat (histD os), .dat (tokL ls)] = .ok (.dat (verD (srt (uni os ls)))) [.dat (histD os), .dat (tokL ls)] := by
  have g1 := istokL_spec hf (Nat.le_trans F.len (by decide))
  have c := pair_compL (os := os) (ls := ls) (e := eSl (eVar 2) pNo (pSo (eVar 3))) cutP (Nat.le_trans F.len (by decide)) fun p h => by
    have a1 : cutD (verD p.1) none (some (p.2 : Nat)) = some (.tuple ((p.1.map PyData.str).take p.2)) := by
      show some (PyData.tuple (cutL (p.1.map PyData.str) none (some ((p.2 : Nat) : Int)))) = _
      rw [cutL_to]
    show _ = Rt.ok (R.d (.tuple ((p.1.map PyData.str).take p.2))) _
    generalize histD os = A
    generalize tokL ls = B
    generalize verD p.1 = C at a1 ⊢
    generalize (p.1.map PyData.str).take p.2 = T at a1 ⊢
    generalize p.2 = m at a1 ⊢
    simp [-Q.cutD, a1]
  have ec : ((os.zip ls).map fun p => cutP (verD p.1) (.int (p.2 : Nat))) = (cutsL os ls).map verD := by
    unfold cutsL
    rw [List.map_map]
    refine List.map_congr_left fun p _ => ?_
    show PyData.tuple ((p.1.map PyData.str).take p.2) = PyData.tuple ((p.1.take p.2).map PyData.str)
    rw [List.map_take]
  rw [ec] at c
  have lx : (cutsL os ls).flatten.length ≤ 4000 := by
    have := flat_len24 (cutsL os ls) fun p hp => by
      obtain ⟨q, hq, rfl⟩ := List.mem_map.mp hp
      rw [List.length_take]
      have := F.olen (zip_fst hq)
      omega
    have l2 : (cutsL os ls).length ≤ os.length := by
      unfold cutsL
      rw [List.length_map, List.length_zip]
      exact Nat.min_le_left _ _
    have := F.len
    omega
  have u := union_spec (uni_nodup os ls) (fun z => by rw [mem_cutsL, mem_uni]) lx (by have := few64 (uni_nodup os ls) (uni_in F) F.few; omega)
  have sh := lock_eq c
  refine fnX_run (n := 2) (N := 4) (b := b_decode_token) (o := .rt (.d (verD (srt (uni os ls))))) (ρ := [.dat (histD os), .dat (tokL ls), .no, .no]) rfl ?_ (fin_rt rfl)
  generalize verD (srt (uni os ls)) = T at *
  have b1 : (bIf (bNot (asB (eCall F_is_token (eCons (eVar 0) (eCons (eVar 1) eNil))))) (bSeq (bRaise "BadToken" "token" (eCons (eVar 1) eNil)) bNil) bNil) [.dat (histD os), .dat (tokL ls), .no, .no] = .ok .nx [.dat (histD os), .dat (tokL ls), .no, .no] := by
    generalize histD os = A at *
    generalize tokL ls = B at *
    exact if_f (by simp [g1]) rfl
  refine seq_nx b1 (seq_one ?_ (fun z => nomatch z))
  generalize histD os = A at *
  generalize tokL ls = B at *
  simp only [Ob.d] at sh
  generalize (cutsL os ls).map verD = L at *
  generalize eLock (fComp (iMap zipF (eCons (eVar 0) (eCons (eVar 1) eNil))) (g2 2 3) bYes (eSl (eVar 2) pNo (pSo (eVar 3))) [2, 3]) = M at sh ⊢
  simp [sh, u]
theorem norm_spec {os : List (List Str)} {names : List Str} {a : List Nat} (F : Few os names) (ha : Fit os a) : F_normalize_token [.dat (histD os), .dat (tokL a)] = .ok (.dat (tokD os (uni os a))) [.dat (histD os), .dat (tokL a)] := by
  have g1 := decodeL_spec F ha
  have g4 := enc_spec (os := os) (S := srt (uni os a)) F.rows (rows_srt (uni_rows F)) (Nat.le_trans F.len (by decide))
  rw [tok_congr (S' := uni os a) fun z => by rw [srt_mem]] at g4
  refine fnX_run (n := 2) (N := 2) (b := b_normalize_token) (o := .rt (.d (tokD os (uni os a)))) (ρ := [.dat (histD os), .dat (tokL a)]) rfl ?_ (fin_rt rfl)
  generalize tokD os (uni os a) = T2 at *
  generalize verD (srt (uni os a)) = UA at *
  generalize tokL a = A at *
  generalize histD os = O at *
  exact seq_one (by simp [g1, g4]) (fun z => nomatch z)
theorem gone_same {s : List Str} {z : Str} (h : s.contains z = true) : toKV (putG (s.map fun z => (Sum.inr z, PyData.bool true)) (.inr z) (.bool true)) = goneD s := by
  have na : ((s.map fun z => ((Sum.inr z : Key), PyData.bool true)).any fun kv => decide (kv.1 = .inr z)) = true := by
    rw [List.any_map]
    exact List.any_eq_true.mpr ⟨z, List.contains_iff_mem.mp h, decide_eq_true rfl⟩
  unfold putG
  rw [na, if_pos rfl]
  unfold toKV goneD
  rw [List.map_map, List.map_map]
  refine List.map_congr_left fun x _ => ?_
  show (fun p : Key × D => (keyD p.1, p.2)) (if (Sum.inr x : Key) = .inr z then ((Sum.inr x : Key), PyData.bool true) else ((Sum.inr x : Key), PyData.bool true)) = _
  split <;> rfl
def ins (s : List Str) (z : Str) : List Str := if s.contains z = true then s else s ++ [z]
theorem mem_ins (s : List Str) (z x : Str) : x ∈ ins s z ↔ x ∈ s ∨ x = z := by
  unfold ins
  split
  · next c => exact ⟨.inl, fun h => h.elim id fun e => e ▸ List.contains_iff_mem.mp c⟩
  · rw [List.mem_append, List.mem_singleton]
theorem nodup_ins {s : List Str} (h : s.Nodup) (z : Str) : (ins s z).Nodup := by
  unfold ins
  split
  · exact h
  · next c => exact List.nodup_append.mpr ⟨h, by simp, fun a ha b hb e => c (List.contains_iff_mem.mpr (by rw [List.mem_singleton.mp hb] at e; rw [← e]; exact ha))⟩
def rowB : Mo Out := bSeq (bSetK 2 (eC (.bool true)) (eVar 5)) bNil
theorem put_one {A B s3 s4 : Sl} {s : List Str} {z : Str} (l : s.length ≤ 100) : rowB [A, B, .own (.dk (goneD s)), s3, s4, .dat (.str z)] = .ok .nx [A, B, .own (.dk (goneD (ins s z))), s3, s4, .dat (.str z)] := by
  have su := gone_un s
  have ll : (goneD s).length < sizeLine := by
    unfold goneD
    rw [List.length_map]
    exact Nat.lt_of_le_of_lt l (by decide)
  have ep : toKV (putG (s.map fun z => (Sum.inr z, PyData.bool true)) (.inr z) (.bool true)) = goneD (ins s z) := by
    unfold ins
    split
    · next c => exact gone_same c
    · next c => exact gone_put (by simpa using c)
  have ek : keyOf (.str z) = some (.inr z) := rfl
  generalize goneD (ins s z) = G2 at *
  generalize goneD s = G1 at *
  exact seq_nx (by simp [su, ll, ek, ep]) rfl
theorem row_loop {A B s3 s4 : Sl} : ∀ (zs : List Str) (s : List Str) (s5 : Sl), s.length + zs.length ≤ 100 → ∃ t5, loopD (gN 5) rowB (zs.map PyData.str) [A, B, .own (.dk (goneD s)), s3, s4, s5] = .ok .nx [A, B, .own (.dk (goneD (zs.foldl ins s))), s3, s4, t5]
  | [], s, s5, _ => ⟨s5, rfl⟩
  | z :: zs, s, s5, l => by
    rw [List.length_cons] at l
    have li : (ins s z).length ≤ s.length + 1 := by
      unfold ins
      split
      · omega
      · rw [List.length_append]
        exact Nat.le_refl _
    obtain ⟨t5, ih⟩ := row_loop (A := A) (B := B) (s3 := s3) (s4 := s4) zs (ins s z) (.dat (.str z)) (by omega)
    exact ⟨t5, loop_cons rfl (put_one (by omega)) ih⟩
theorem mem_foldi : ∀ (zs s : List Str) (x : Str), x ∈ zs.foldl ins s ↔ x ∈ s ∨ x ∈ zs
  | [], s, x => by simp
  | z :: zs, s, x => by
    show x ∈ zs.foldl ins (ins s z) ↔ _
    rw [mem_foldi zs, mem_ins, List.mem_cons, or_assoc]
theorem nodup_foldi : ∀ (zs s : List Str), s.Nodup → (zs.foldl ins s).Nodup
  | [], _, h => h
  | z :: zs, s, h => nodup_foldi zs _ (nodup_ins h z)
noncomputable def pairB : Mo Out := bSeq (bFor (iSeq (eSl (eVar 3) pNo (pSo (eVar 4)))) (gN 5) rowB) bNil
theorem pairs_loop {A B : Sl} {names : List Str} (ln : names.length ≤ 24) : ∀ (ps : List (List Str × Nat)) (s : List Str) (s3 s4 s5 : Sl), s.Nodup → (∀ z ∈ s, z ∈ names) → (∀ p ∈ ps, p.1.length ≤ 24 ∧ ∀ z ∈ p.1, z ∈ names) →
    ∃ s' t3 t4 t5, loopD (g2 3 4) pairB ((ps.map fun p => (verD p.1, PyData.int (p.2 : Nat))).map fun p => Q.pairD p.1 p.2) [A, B, .own (.dk (goneD s)), s3, s4, s5] = .ok .nx [A, B, .own (.dk (goneD s')), t3, t4, t5] ∧ s'.Nodup ∧ ∀ x, x ∈ s' ↔ x ∈ s ∨ ∃ p ∈ ps, x ∈ p.1.take p.2
  | [], s, s3, s4, s5, nd, _, _ => ⟨s, s3, s4, s5, rfl, nd, fun x => by simp⟩
  | p :: ps, s, s3, s4, s5, nd, sub, h => by
    obtain ⟨lp, sp⟩ := h p List.mem_cons_self
    have ls := few64 nd sub ln
    obtain ⟨u5, f⟩ := row_loop (A := A) (B := B) (s3 := .dat (verD p.1)) (s4 := .dat (.int (p.2 : Nat))) (p.1.take p.2) s s5 (by rw [List.length_take]; omega)
    have nd1 := nodup_foldi (p.1.take p.2) s nd
    have sub1 : ∀ z ∈ (p.1.take p.2).foldl ins s, z ∈ names := fun z hz => ((mem_foldi _ _ z).mp hz).elim (sub z) fun q => sp z (List.mem_of_mem_take q)
    obtain ⟨s', t3, t4, t5, ih, nd2, m2⟩ := pairs_loop (A := A) (B := B) ln ps _ (.dat (verD p.1)) (.dat (.int (p.2 : Nat))) u5 nd1 sub1 fun q hq => h q (List.mem_cons_of_mem _ hq)
    refine ⟨s', t3, t4, t5, loop_cons (ρ1 := [A, B, .own (.dk (goneD s)), .dat (verD p.1), .dat (.int (p.2 : Nat)), s5]) rfl ?_ ih, nd2, fun x => ?_⟩
    · have a1 : cutD (verD p.1) none (some (p.2 : Nat)) = some (.tuple ((p.1.take p.2).map PyData.str)) := by
        show some (PyData.tuple (cutL (p.1.map PyData.str) none (some ((p.2 : Nat) : Int)))) = _
        rw [cutL_to, List.map_take]
      refine seq_nx (for_eq (ds := (p.1.take p.2).map PyData.str) ?_ f) rfl
      generalize (p.1.take p.2).map PyData.str = T at a1 ⊢
      generalize verD p.1 = C at a1 ⊢
      generalize p.2 = m at a1 ⊢
      generalize goneD s = G1
      simp [-Q.cutD, a1]
    · rw [m2, mem_foldi]
      constructor
      · rintro ((q | q) | ⟨y, hy, q⟩)
        · exact .inl q
        · exact .inr ⟨p, List.mem_cons_self, q⟩
        · exact .inr ⟨y, List.mem_cons_of_mem _ hy, q⟩
      · rintro (q | ⟨y, hy, q⟩)
        · exact .inl (.inl q)
        · rcases List.mem_cons.mp hy with e | hy
          · rw [e] at q
            exact .inl (.inr q)
          · exact .inr ⟨y, hy, q⟩
theorem lunion_spec {os : List (List Str)} {names : List Str} {ls : List Nat} (F : Few os names) : F__law_union [.dat (histD os), .dat (tokL ls)] = .ok (.dat (verD (srt (uni os ls)))) [.dat (histD os), .dat (tokL ls)] := by
  obtain ⟨s, t3, t4, t5, f, nd, m⟩ := pairs_loop (A := .dat (histD os)) (B := .dat (tokL ls)) F.few (os.zip ls) [] .no .no .no List.nodup_nil (fun z hz => nomatch hz) fun p hp => ⟨F.olen (zip_fst hp), F.sub _ (zip_fst hp)⟩
  have es : srt s = srt (uni os ls) := srt_same ((List.perm_ext_iff_of_nodup nd (uni_nodup os ls)).mpr fun z => by rw [m, mem_uni]; simp)
  have l64 : s.length < 64 := by
    have := few64 nd (fun z hz => uni_in F z (mem_uni.mpr (((m z).mp hz).elim (fun q => nomatch q) id))) F.few
    omega
  have so := sort_gone l64
  rw [es] at so
  have tv : tupleD [.list ((srt (uni os ls)).map PyData.str)] = some (verD (srt (uni os ls))) := rfl
  have iz : zipF [histD os, tokL ls] = some (((os.zip ls).map fun p => (verD p.1, PyData.int (p.2 : Nat))).map fun p => Q.pairD p.1 p.2) := congrArg some (zip_prs os ls)
  refine fn_run (n := 2) (N := 6) (b := b__law_union) (ρ := [.dat (histD os), .dat (tokL ls), .own (.dk (goneD s)), t3, t4, t5]) rfl ?_ (fin_rt rfl)
  generalize verD (srt (uni os ls)) = V at *
  generalize (srt (uni os ls)).map PyData.str = L at *
  generalize (((os.zip ls).map fun p => (verD p.1, PyData.int (p.2 : Nat))).map fun p => Q.pairD p.1 p.2) = Z at *
  generalize histD os = A at *
  generalize tokL ls = B at *
  generalize goneD s = G1 at *
  refine seq_nx (ρ1 := [.dat A, .dat B, .own (.dk []), .no, .no, .no]) (by simp) ?_
  refine seq_nx (for_eq (ds := Z) (ρ1 := [.dat A, .dat B, .own (.dk []), .no, .no, .no]) (by simp [-Q.zipF, iz]) f) ?_
  exact seq_one (by simp [-Q.tupleD, so, tv]) (fun z => nomatch z)
theorem lay_toks (S : List Str) : ∀ os : List (List Str), PyData.canLayAll0 (os.map fun o => PyData.int (lim o o S : Nat)) = true
  | [] => rfl
  | o :: os => by
    show (true && PyData.canLayAll0 (os.map fun o => PyData.int (lim o o S : Nat))) = true
    rw [lay_toks S os]
    rfl
theorem deep_toks (S : List Str) : ∀ os : List (List Str), PyData.depthAll (os.map fun o => PyData.int (lim o o S : Nat)) = 0
  | [] => rfl
  | o :: os => by
    show max 0 (PyData.depthAll (os.map fun o => PyData.int (lim o o S : Nat))) = 0
    rw [deep_toks S os]
    rfl
theorem eqv_toks (S : List Str) : ∀ os : List (List Str), PyData.eqvAll (os.map fun o => PyData.int (lim o o S : Nat)) (os.map fun o => PyData.int (lim o o S : Nat)) = true
  | [] => rfl
  | o :: os => by
    show (((lim o o S : Nat) : Int) == ((lim o o S : Nat) : Int) && PyData.eqvAll (os.map fun o => PyData.int (lim o o S : Nat)) (os.map fun o => PyData.int (lim o o S : Nat))) = true
    rw [eqv_toks S os, beq_self_eq_true]
    rfl
theorem tok_eqD (os : List (List Str)) (S : List Str) : eqD (tokD os S) (tokD os S) = some true := by
  have sh : SeqAt.shaped (tokD os S) = true := by
    unfold SeqAt.shaped
    rw [Bool.and_eq_true]
    refine ⟨lay_toks S os, decide_eq_true ?_⟩
    show PyData.depthAll (os.map fun o => PyData.int (lim o o S : Nat)) + 1 ≤ 64
    rw [deep_toks]
    decide
  have ev : PyData.eqv (tokD os S) (tokD os S) = true := eqv_toks S os
  unfold eqD
  rw [if_pos ⟨sh, sh⟩, ev]
theorem tok_ne (os : List (List Str)) (S : List Str) : neF (tokD os S) (tokD os S) = some (.bool false) := by
  unfold neF
  rw [tok_eqD]
  rfl
theorem tok_eq (os : List (List Str)) (S : List Str) : eqF (tokD os S) (tokD os S) = some (.bool true) := by
  unfold eqF
  rw [tok_eqD]
  rfl
theorem sh_tok {os : List (List Str)} (hO : Ords os) (S : List Str) : Sh 403 1 (tokD os S) := Sh.tup (B := 2) (m := 100) (fun d hd => by
  obtain ⟨v, hv, rfl⟩ := List.mem_map.mp hd
  exact Sh.nat (Nat.le_trans (lim_le v v S) (Nat.le_trans (hO.len v hv) (by decide)))) (by rw [List.length_map]; exact hO.few)
theorem fit_nil : Fit [] [] := ⟨rfl, fun p hp => nomatch hp⟩
theorem fit_cons {o : List Str} {os : List (List Str)} {n : Nat} {ls : List Nat} (h : n ≤ o.length) (f : Fit os ls) : Fit (o :: os) (n :: ls) := ⟨by rw [List.length_cons, List.length_cons, f.len], fun p hp => by
  rw [List.zip_cons_cons] at hp
  rcases List.mem_cons.mp hp with e | hp
  · rw [e]
    exact h
  · exact f.le p hp⟩
theorem fit_head {o : List Str} {os : List (List Str)} {n : Nat} {ls : List Nat} (f : Fit (o :: os) (n :: ls)) : n ≤ o.length ∧ Fit os ls :=
  ⟨f.le (o, n) (by rw [List.zip_cons_cons]; exact List.mem_cons_self), ⟨by have := f.len; rw [List.length_cons, List.length_cons] at this; omega, fun p hp => f.le p (by rw [List.zip_cons_cons]; exact List.mem_cons_of_mem _ hp)⟩⟩
def Cov (os : List (List Str)) (S : List Str) : Prop := ∀ z ∈ S, ∃ o ∈ os, ∃ k, k ≤ o.length ∧ z ∈ o.take k ∧ ∀ x ∈ o.take k, x ∈ S
theorem cov_uni {os : List (List Str)} {ls : List Nat} (f : Fit os ls) : Cov os (uni os ls) := fun z hz => by
  obtain ⟨p, hp, h⟩ := mem_uni.mp hz
  exact ⟨p.1, zip_fst hp, p.2, f.le p hp, h, fun x hx => mem_uni.mpr ⟨p, hp, hx⟩⟩
theorem uni_lim {os : List (List Str)} {S : List Str} (c : Cov os S) (z : Str) : z ∈ uni os (limL os S) ↔ z ∈ S := by
  rw [mem_uni, zip_lim]
  constructor
  · rintro ⟨p, hp, h⟩
    obtain ⟨o, _, rfl⟩ := List.mem_map.mp hp
    exact lim_in h
  · intro h
    obtain ⟨o, ho, k, h1, h2, h3⟩ := c z h
    exact ⟨_, List.mem_map.mpr ⟨o, ho, rfl⟩, take_more h2 (lim_most h1 h3)⟩
noncomputable def ordB : Mo Out := (bSeq (bSet 5 (eLock (fCall F__law_shuffled (eCons (eVar 0) (eCons (eVar 2) eNil))))) (bSeq (bEx (eMut appF 3 (eCons (eN tupleD (eCons (eLock (fSl (eVar 5) pNo (pSo (eCall F__law_take (eCons (eVar 0) (eCons (e2 addD (eN lenD (eCons (eVar 5) eNil)) (eC (.int 1))) eNil)))))) eNil)) eNil))) bNil))
theorem few_more {os : List (List Str)} {names v : List Str} (F : Few os names) (rv : Rows v) (nv : v.Nodup) (sv : ∀ z ∈ v, z ∈ names) (l : os.length + 1 ≤ 100) : Few (os ++ [v]) names :=
  ⟨fun o ho => (List.mem_append.mp ho).elim (F.rows o) fun q => by rw [List.mem_singleton.mp q]; exact rv, fun o ho => (List.mem_append.mp ho).elim (F.nd o) fun q => by rw [List.mem_singleton.mp q]; exact nv,
   fun o ho => (List.mem_append.mp ho).elim (F.sub o) fun q => by rw [List.mem_singleton.mp q]; exact sv, F.few, by rw [List.length_append]; exact l⟩
theorem ord_step {os : List (List Str)} {names : List Str} {h : List D} {n : Nat} {s1 s4 s5 : Sl} (F : Few os names) (rn : Rows names) (nn : names.Nodup) (l : os.length + 1 ≤ 100) (hk : HandOk h n) (hn : n + 100 < 800000) :
    ∃ v h' t5, ordB [.own (.lst h), s1, .dat (.list (names.map PyData.str)), .own (.lst (os.map verD)), s4, s5] = .ok .nx [.own (.lst h'), s1, .dat (.list (names.map PyData.str)), .own (.lst ((os ++ [v]).map verD)), s4, t5] ∧ Few (os ++ [v]) names ∧ HandOk h' (n + 40) := by
  have ln := F.few
  obtain ⟨o, h1, g1, pm, hk1⟩ := shuffled_spec (Its.list (xs := names.map PyData.str)) rn hk (by omega) (by omega)
  have lo : o.length = names.length := pm.length_eq
  obtain ⟨v, h2, g2, v0, v1, hk2⟩ := take_spec hk1 (by omega) (m := ((o.length + 1 : Nat) : Int)) (by omega) (by omega)
  obtain ⟨k, rfl⟩ := Int.eq_ofNat_of_zero_le v0
  refine ⟨o.take k, h2, .dat (.list (o.map PyData.str)), ?_, few_more F (fun z hz => rn z (pm.mem_iff.mp (List.mem_of_mem_take hz))) ((pm.nodup_iff.mpr nn).sublist (List.take_sublist _ _)) (fun z hz => pm.mem_iff.mp (List.mem_of_mem_take hz)) l, hk2.up (by omega)⟩
  have a1 : lenD [.list (o.map PyData.str)] = some (.int (o.length : Nat)) := by
    show some (PyData.int ((o.map PyData.str).length : Nat)) = _
    rw [List.length_map]
  have a2 : addD (.int (o.length : Nat)) (.int 1) = some (.int ((o.length + 1 : Nat) : Int)) := by
    show some (PyData.int ((o.length : Int) + 1)) = _
    rw [Int.natCast_add]
    rfl
  have ct : cutL (o.map PyData.str) none (some ((k : Nat) : Int)) = (o.take k).map PyData.str := by rw [cutL_to, List.map_take]
  have tv : tupleD [.list ((o.take k).map PyData.str)] = some (verD (o.take k)) := rfl
  have ap := app_eq (ds := os.map verD) (x := verD (o.take k)) (by rw [List.length_map]; omega)
  have em : (os ++ [o.take k]).map verD = os.map verD ++ [verD (o.take k)] := by rw [List.map_append]; rfl
  rw [em]
  have g2 : F__law_take [.own (.lst h1), .dat (.int ((o.length + 1 : Nat) : Int))] = .ok (.dat (.int ((k : Nat) : Int))) [.own (.lst h2), .dat (.int ((o.length + 1 : Nat) : Int))] := g2
  generalize ((o.length + 1 : Nat) : Int) = J at *
  generalize ((o.length : Nat) : Int) = J0 at *
  generalize ((k : Nat) : Int) = kk at *
  generalize (o.take k).map PyData.str = T at *
  generalize verD (o.take k) = V at *
  generalize o.map PyData.str = OL at *
  generalize names.map PyData.str = NL at *
  generalize os.map verD = AC at *
  unfold ordB
  refine seq_nx (ρ1 := [.own (.lst h1), s1, .dat (.list NL), .own (.lst AC), s4, .dat (.list OL)]) (by simp [g1]) ?_
  exact seq_nx (by simp [-Q.lenD, -Q.addD, -Q.tupleD, a1, a2, g2, ct, tv, ap]) rfl
theorem if_ff {c : Mo Bool} {f g : Mo Out} {ρ ρ1 : Ev} {r : Rt Out} (h : c ρ = .ok false ρ1) (h' : g ρ1 = r) : bIf c f g ρ = r := by
  unfold bIf
  rw [h]
  exact h'
theorem ord_loop3 {names : List Str} {s1 : Sl} (rn : Rows names) (nn : names.Nodup) : ∀ (ds : List D) (os : List (List Str)) (h : List D) (n : Nat) (s4 s5 : Sl), Few os names → os.length + ds.length ≤ 100 → HandOk h n → n + 100 * (ds.length + 1) < 800000 →
    ∃ os' h' t4 t5, loopD (gN 4) ordB ds [.own (.lst h), s1, .dat (.list (names.map PyData.str)), .own (.lst (os.map verD)), s4, s5] = .ok .nx [.own (.lst h'), s1, .dat (.list (names.map PyData.str)), .own (.lst (os'.map verD)), t4, t5] ∧ Few os' names ∧ HandOk h' (n + 40 * ds.length) ∧ os'.length = os.length + ds.length
  | [], os, h, n, s4, s5, F, _, hk, _ => ⟨os, h, s4, s5, rfl, F, hk, rfl⟩
  | d :: ds, os, h, n, s4, s5, F, l, hk, hn => by
    rw [List.length_cons] at l hn ⊢
    obtain ⟨v, h1, u5, g1, F1, hk1⟩ := ord_step (s1 := s1) (s4 := .dat d) (s5 := s5) F rn nn (by omega) hk (by omega)
    obtain ⟨os', h', t4, t5, g2, F2, hk2, l2⟩ := ord_loop3 (s1 := s1) rn nn ds (os ++ [v]) h1 (n + 40) (.dat d) u5 F1 (by rw [List.length_append, List.length_singleton]; omega) hk1 (by omega)
    exact ⟨os', h', t4, t5, loop_cons rfl g1 g2, F2, hk2.up (by omega), by rw [l2, List.length_append, List.length_singleton]; omega⟩
theorem orders_spec3 {names : List Str} {h : List D} {n : Nat} (rn : Rows names) (nn : names.Nodup) (ln : names.length ≤ 24) (hk : HandOk h n) (hn : n + 2000 < 800000) :
    ∃ os h', F__law_orders [.own (.lst h), .dat (.int 3), .dat (.list (names.map PyData.str))] = .ok (.dat (histD os)) [.own (.lst h'), .dat (.int 3), .dat (.list (names.map PyData.str))] ∧ Few os names ∧ HandOk h' (n + 300) ∧ os.length ≤ 3 := by
  obtain ⟨v, h1, g1, v0, v1, hk1⟩ := take_spec hk (by omega) (m := 4) (by decide) (by decide)
  obtain ⟨k, rfl⟩ := Int.eq_ofNat_of_zero_le v0
  have lk : k < 4 := by omega
  obtain ⟨os, h', t4, t5, g2, F, hk2, los⟩ := ord_loop3 (s1 := .dat (.int 3)) rn nn ((List.range k).map fun i => .int (i : Nat)) [] h1 (n + 1) .no .no ⟨(fun o ho => nomatch ho), (fun o ho => nomatch ho), (fun o ho => nomatch ho), ln, by decide⟩ (by rw [List.length_map, List.length_range, List.length_nil]; omega) hk1 (by rw [List.length_map, List.length_range]; omega)
  rw [List.length_map, List.length_range] at hk2 los
  refine ⟨os, h', fn_run (n := 3) (N := 6) (b := b__law_orders) (ρ := [.own (.lst h'), .dat (.int 3), .dat (.list (names.map PyData.str)), .own (.lst (os.map verD)), t4, t5]) rfl ?_ (fin_rt rfl), F, hk2.up (by omega), by rw [los, List.length_nil]; omega⟩
  have r1 := range1_eq (c := k) (by omega)
  have tv : tupleD [.list (os.map verD)] = some (histD os) := rfl
  have g2 : loopD (gN 4) ordB ((List.range k).map fun i => .int (i : Nat)) [.own (.lst h1), .dat (.int 3), .dat (.list (names.map PyData.str)), .own (.lst []), .no, .no] = .ok .nx [.own (.lst h'), .dat (.int 3), .dat (.list (names.map PyData.str)), .own (.lst (os.map verD)), t4, t5] := g2
  have g1 : F__law_take [.own (.lst h), .dat (.int 4)] = .ok (.dat (.int ((k : Nat) : Int))) [.own (.lst h1), .dat (.int 4)] := g1
  generalize ((k : Nat) : Int) = kk at r1 g1
  generalize histD os = H at *
  generalize os.map verD = OV at *
  generalize names.map PyData.str = NL at *
  have sh0 := short_ok (ds := ([] : List D)) (by decide)
  refine seq_nx (ρ1 := [.own (.lst h), .dat (.int 3), .dat (.list NL), .own (.lst []), .no, .no]) (by simp [sh0]) ?_
  refine seq_nx (for_eq (ds := (List.range k).map fun i => .int (i : Nat)) (ρ1 := [.own (.lst h1), .dat (.int 3), .dat (.list NL), .own (.lst []), .no, .no]) (by simp [g1, r1]) g2) ?_
  exact seq_one (by simp [-Q.tupleD, tv]) (fun z => nomatch z)
def extL (o : List Str) (t : List Nat) : List (List Nat) := (List.range (o.length + 1)).map fun k => t ++ [k]
def allL : List (List Str) → List (List Nat) → List (List Nat)
  | [], ts => ts
  | o :: os, ts => allL os (ts.flatMap (extL o))
noncomputable def extB : Mo Out := (bSeq (bEx (eExt 3 (eLock (fComp (iN range1D (eCons (e2 addD (eN lenD (eCons (eVar 2) eNil)) (eC (.int 1))) eNil)) (gN 5) bYes (e2 addD (eVar 4) (eTup (eCons (eVar 5) eNil))) [5])))) bNil)
theorem ext_one {s0 s1 : Sl} {o : List Str} {t : List Nat} {acc : List D} (lo : o.length ≤ 24) (lt : t.length ≤ 100) (la : acc.length ≤ 60000) :
    extB [s0, s1, .dat (verD o), .own (.lst acc), .dat (tokL t), .no] = .ok .nx [s0, s1, .dat (verD o), .own (.lst (acc ++ (extL o t).map tokL)), .dat (tokL t), .no] := by
  have a1 := len_verD o
  have a2 : addD (.int (o.length : Nat)) (.int 1) = some (.int ((o.length + 1 : Nat) : Int)) := by
    show some (PyData.int ((o.length : Int) + 1)) = _
    rw [Int.natCast_add]
    rfl
  have a3 := range1_eq (c := o.length + 1) (by omega)
  have c := lock_eq (fcomp_map (i := 5) (it := iN range1D (eCons (e2 addD (eN lenD (eCons (eVar 2) eNil)) (eC (.int 1))) eNil)) (e := e2 addD (eVar 4) (eTup (eCons (eVar 5) eNil))) (ρ := [s0, s1, .dat (verD o), .own (.lst acc), .dat (tokL t), .no]) (ds := (List.range (o.length + 1)).map fun i => PyData.int (i : Nat))
    (fun d => .tuple ((t.map fun n => PyData.int (n : Nat)) ++ [d])) (by show 5 < 6; decide) rfl (by
        generalize ((List.range (o.length + 1)).map fun i => PyData.int (i : Nat)) = RG at a3 ⊢
        generalize ((o.length + 1 : Nat) : Int) = J at a2 a3
        generalize ((o.length : Nat) : Int) = J0 at a1 a2
        generalize verD o = C at a1 ⊢
        generalize tokL t = T
        simp [-Q.lenD, -Q.addD, a1, a2, a3]) (by rw [List.length_map, List.length_range]; omega) fun d hd => by
      have ad : addD (tokL t) (.tuple [d]) = some (.tuple ((t.map fun n => PyData.int (n : Nat)) ++ [d])) := by
        show (if (t.map fun n => PyData.int (n : Nat)).length + 1 ≤ sizeLine then some (PyData.tuple ((t.map fun n => PyData.int (n : Nat)) ++ [d])) else none) = _
        rw [if_pos (by rw [List.length_map]; exact Nat.le_trans (show t.length + 1 ≤ 1000 by omega) (by decide))]
      have s1 := short_ok (ds := [d]) (by show 1 ≤ 1000; decide)
      generalize (PyData.tuple ((t.map fun n => PyData.int (n : Nat)) ++ [d])) = R at *
      generalize tokL t = T at *
      generalize verD o = C at *
      simp [-Q.addD, s1, ad])
  have em : ((List.range (o.length + 1)).map fun i => PyData.int (i : Nat)).map (fun d => PyData.tuple ((t.map fun n => PyData.int (n : Nat)) ++ [d])) = (extL o t).map tokL := by
    unfold extL
    rw [List.map_map, List.map_map]
    refine List.map_congr_left fun k _ => ?_
    show PyData.tuple ((t.map fun n => PyData.int (n : Nat)) ++ [.int (k : Nat)]) = PyData.tuple ((t ++ [k]).map fun n => PyData.int (n : Nat))
    rw [List.map_append]
    rfl
  rw [em] at c
  simp only [Ob.d] at c
  have itm : itemsD (.list ((extL o t).map tokL)) = some ((extL o t).map tokL) := rfl
  have lx : acc.length + ((extL o t).map tokL).length ≤ sizeLine := by
    rw [List.length_map]
    unfold extL
    rw [List.length_map, List.length_range]
    exact Nat.le_trans (show acc.length + (o.length + 1) ≤ 100000 by omega) (by decide)
  unfold extB
  generalize eLock (fComp (iN range1D (eCons (e2 addD (eN lenD (eCons (eVar 2) eNil)) (eC (.int 1))) eNil)) (gN 5) bYes (e2 addD (eVar 4) (eTup (eCons (eVar 5) eNil))) [5]) = M at c ⊢
  generalize (extL o t).map tokL = L at *
  generalize tokL t = T at *
  generalize verD o = C at *
  exact seq_nx (by simp [-Q.itemsD, c, itm, lx]) rfl
theorem ext_loop {s0 s1 : Sl} {o : List Str} (lo : o.length ≤ 24) : ∀ (ts : List (List Nat)) (acc : List D) (s4 : Sl), (∀ t ∈ ts, t.length ≤ 100) → acc.length + 25 * ts.length ≤ 60000 →
    ∃ t4, loopD (gN 4) extB (ts.map tokL) [s0, s1, .dat (verD o), .own (.lst acc), s4, .no] = .ok .nx [s0, s1, .dat (verD o), .own (.lst (acc ++ (ts.flatMap (extL o)).map tokL)), t4, .no]
  | [], acc, s4, _, _ => ⟨s4, by
    show Rt.ok Out.nx _ = Rt.ok Out.nx [s0, s1, .dat (verD o), .own (.lst (acc ++ [])), s4, .no]
    rw [List.append_nil]⟩
  | t :: ts, acc, s4, h, l => by
    rw [List.length_cons] at l
    have le : (extL o t).length = o.length + 1 := by
      unfold extL
      rw [List.length_map, List.length_range]
    obtain ⟨t4, ih⟩ := ext_loop (s0 := s0) (s1 := s1) lo ts (acc ++ (extL o t).map tokL) (.dat (tokL t)) (fun t ht => h t (List.mem_cons_of_mem _ ht)) (by rw [List.length_append, List.length_map, le]; omega)
    refine ⟨t4, loop_cons rfl (ext_one lo (h t List.mem_cons_self) (by omega)) ?_⟩
    rw [ih, List.flatMap_cons, List.map_append, List.append_assoc]
theorem ext_fit {os0 : List (List Str)} {o : List Str} {ts : List (List Nat)} (h : ∀ t ∈ ts, Fit os0 t) : ∀ t ∈ ts.flatMap (extL o), Fit (os0 ++ [o]) t := by
  have snoc : ∀ (os : List (List Str)) (ls : List Nat) (m : Nat), m ≤ o.length → Fit os ls → Fit (os ++ [o]) (ls ++ [m]) := by
    intro os ls m hm f
    refine ⟨by rw [List.length_append, List.length_append, f.len]; rfl, fun p hp => ?_⟩
    rw [List.zip_append f.len.symm] at hp
    rcases List.mem_append.mp hp with q | q
    · exact f.le p q
    · have q : p ∈ [(o, m)] := q
      rw [List.mem_singleton.mp q]
      exact hm
  intro t ht
  obtain ⟨t0, h0, ht⟩ := List.mem_flatMap.mp ht
  obtain ⟨k, hk, rfl⟩ := List.mem_map.mp ht
  exact snoc os0 t0 k (by have := List.mem_range.mp hk; omega) (h t0 h0)
noncomputable def growB : Mo Out := (bSeq (bSetF 3 (fLst eNil)) (bSeq (bFor (iSeq (eVar 1)) (gN 4) extB) (bSeq (bSet 1 (eVarL 3)) bNil)))
theorem flat_ext (o : List Str) : ∀ ts : List (List Nat), (ts.flatMap (extL o)).length = (o.length + 1) * ts.length
  | [] => rfl
  | t :: ts => by
    rw [List.flatMap_cons, List.length_append, flat_ext o ts, List.length_cons]
    have le : (extL o t).length = o.length + 1 := by
      unfold extL
      rw [List.length_map, List.length_range]
    rw [le, Nat.mul_succ]
    omega
end Z
namespace Z
open PySem PySem.Spec PyProof.Rows L2 Gd Q
/-! ### all tokens of few orders -/
theorem grow_loopX {O : D} : ∀ (os : List (List Str)) (ts : List (List Nat)) (s2 s3 s4 : Sl), (∀ o ∈ os, o.length ≤ 4) → (∀ t ∈ ts, t.length + os.length ≤ 100) → ts.length * 5 ^ os.length ≤ 125 →
    ∃ (t2 t3 t4 : Sl), loopD (gN 2) growB (os.map verD) [.dat O, .dat (.list (ts.map tokL)), s2, s3, s4, .no] = .ok .nx [.dat O, .dat (.list ((allL os ts).map tokL)), t2, t3, t4, .no] ∧ (allL os ts).length ≤ 125
  | [], ts, s2, s3, s4, _, h, l => ⟨s2, s3, s4, rfl, by rw [List.length_nil, Nat.pow_zero, Nat.mul_one] at l; exact l⟩
  | o :: os, ts, s2, s3, s4, ho, h, l => by
    rw [List.length_cons] at l
    have lo := ho o List.mem_cons_self
    have lt : ts.length ≤ 125 := Nat.le_trans (Nat.le_mul_of_pos_right _ (Nat.pow_pos (by decide))) l
    have fe := flat_ext o ts
    have f5 : (ts.flatMap (extL o)).length ≤ 5 * ts.length := by
      rw [fe]
      exact Nat.mul_le_mul_right _ (by omega)
    obtain ⟨u4, g⟩ := ext_loop (s0 := .dat O) (s1 := .dat (.list (ts.map tokL))) (o := o) (by omega) ts [] s4 (fun t ht => by have := h t ht; omega) (by rw [List.length_nil]; omega)
    rw [List.nil_append] at g
    obtain ⟨t2, t3, t4, ih, ll⟩ := grow_loopX (O := O) os (ts.flatMap (extL o)) (.dat (verD o)) (.dat (.list ((ts.flatMap (extL o)).map tokL))) u4 (fun x hx => ho x (List.mem_cons_of_mem _ hx)) (fun x hx => by
      obtain ⟨t0, h0, ht⟩ := List.mem_flatMap.mp hx
      obtain ⟨k, hk, rfl⟩ := List.mem_map.mp ht
      have := h t0 h0
      rw [List.length_cons] at this
      rw [List.length_append, List.length_singleton]
      omega) (by
      have e : ts.length * 5 ^ (os.length + 1) = 5 * ts.length * 5 ^ os.length := by rw [Nat.pow_succ, ← Nat.mul_assoc, Nat.mul_comm, ← Nat.mul_assoc]
      rw [e] at l
      exact Nat.le_trans (Nat.mul_le_mul_right _ f5) l)
    refine ⟨t2, t3, t4, loop_cons (ρ1 := [.dat O, .dat (.list (ts.map tokL)), .dat (verD o), s3, s4, .no]) rfl ?_ ih, ll⟩
    have sh0 := short_ok (ds := ([] : List D)) (by decide)
    unfold growB
    refine seq_nx (ρ1 := [.dat O, .dat (.list (ts.map tokL)), .dat (verD o), .own (.lst []), s4, .no]) (by
      generalize verD o = C
      generalize ts.map tokL = L
      simp [sh0]) ?_
    refine seq_nx (for_eq (ds := ts.map tokL) (ρ1 := [.dat O, .dat (.list (ts.map tokL)), .dat (verD o), .own (.lst []), s4, .no]) rfl g) ?_
    generalize (ts.flatMap (extL o)).map tokL = L2
    generalize ts.map tokL = L
    generalize verD o = C
    exact seq_nx (by simp [eVarL]) rfl
theorem all_lengthsX {os : List (List Str)} (lo : ∀ o ∈ os, o.length ≤ 4) (l : os.length ≤ 3) : F__law_all_lengths [.dat (histD os)] = .ok (.dat (.list ((allL os [[]]).map tokL))) [.dat (histD os)] ∧ (allL os [[]]).length ≤ 125 := by
  obtain ⟨t2, t3, t4, g, l2⟩ := grow_loopX (O := histD os) os [[]] .no .no .no lo (fun t ht => by rw [List.mem_singleton.mp ht, List.length_nil]; omega) (by
    rw [List.length_singleton, Nat.one_mul]
    exact Nat.pow_le_pow_right (n := 5) (by decide) l)
  refine ⟨fn_run (n := 1) (N := 6) (b := b__law_all_lengths) (ρ := [.dat (histD os), .dat (.list ((allL os [[]]).map tokL)), t2, t3, t4, .no]) rfl ?_ (fin_rt rfl), l2⟩
  have sh0 := short_ok (ds := ([] : List D)) (by decide)
  have sh1 := short_ok (ds := [PyData.tuple []]) (by show 1 ≤ 1000; decide)
  generalize hts : allL os [[]] = ts at *
  have g : loopD (gN 2) growB (os.map verD) [.dat (histD os), .dat (.list [.tuple []]), .no, .no, .no, .no] = .ok .nx [.dat (histD os), .dat (.list (ts.map tokL)), t2, t3, t4, .no] := g
  refine seq_nx (ρ1 := [.dat (histD os), .dat (.list [.tuple []]), .no, .no, .no, .no]) (by
    generalize histD os = O
    simp [sh0, sh1]) ?_
  refine seq_nx (for_eq (ds := os.map verD) (ρ1 := [.dat (histD os), .dat (.list [.tuple []]), .no, .no, .no, .no]) rfl g) ?_
  generalize ts.map tokL = L
  generalize histD os = O
  exact seq_one (by simp) (fun z => nomatch z)
theorem mem_allL : ∀ (os : List (List Str)) (ts : List (List Nat)) (x : List Nat), x ∈ allL os ts ↔ ∃ t ∈ ts, ∃ m, Fit os m ∧ x = t ++ m
  | [], ts, x => by
    show x ∈ ts ↔ _
    constructor
    · intro h
      exact ⟨x, h, [], fit_nil, (List.append_nil x).symm⟩
    · rintro ⟨t, ht, m, f, rfl⟩
      have : m = [] := List.length_eq_zero_iff.mp f.len
      rw [this, List.append_nil]
      exact ht
  | o :: os, ts, x => by
    show x ∈ allL os (ts.flatMap (extL o)) ↔ _
    rw [mem_allL os]
    constructor
    · rintro ⟨t', ht', m, f, rfl⟩
      obtain ⟨t, ht, q⟩ := List.mem_flatMap.mp ht'
      obtain ⟨k, hk, rfl⟩ := List.mem_map.mp q
      have := List.mem_range.mp hk
      exact ⟨t, ht, k :: m, fit_cons (by omega) f, by simp⟩
    · rintro ⟨t, ht, m, f, rfl⟩
      cases m with
      | nil =>
        have := f.len
        cases this
      | cons k m =>
        have fh := fit_head f
        exact ⟨t ++ [k], List.mem_flatMap.mpr ⟨t, ht, List.mem_map.mpr ⟨k, List.mem_range.mpr (by have := fh.1; omega), rfl⟩⟩, m, fh.2, by simp⟩
theorem mem_all {os : List (List Str)} {x : List Nat} : x ∈ allL os [[]] ↔ Fit os x := by
  rw [mem_allL]
  constructor
  · rintro ⟨t, ht, m, f, rfl⟩
    rw [List.mem_singleton.mp ht]
    exact f
  · intro f
    exact ⟨[], List.mem_singleton.mpr rfl, x, f, rfl⟩
theorem nodup_allL : ∀ (os : List (List Str)) (ts : List (List Nat)), ts.Nodup → (allL os ts).Nodup
  | [], _, h => h
  | o :: os, ts, h => by
    show (allL os (ts.flatMap (extL o))).Nodup
    refine nodup_allL os _ ?_
    unfold List.Nodup
    rw [List.pairwise_flatMap]
    refine ⟨fun t _ => ?_, h.imp fun {a b} ne x hx y hy e => ?_⟩
    · unfold extL
      refine List.Pairwise.map _ (fun a b ne e => ne ?_) List.nodup_range
      have := List.append_cancel_left e
      exact (List.cons.inj this).1
    · obtain ⟨k, _, rfl⟩ := List.mem_map.mp hx
      obtain ⟨m, _, rfl⟩ := List.mem_map.mp hy
      exact ne (List.append_inj' e rfl).1
end Z
namespace Z
open PySem PySem.Spec PyProof.Rows L2 Gd Q
/-! ### _law_is_normal -/
theorem mem_uniI {os : List (List Str)} {ls : List Nat} {z : Str} : z ∈ uni os ls ↔ ∃ (j : Nat) (o : List Str) (n : Nat), os[j]? = some o ∧ ls[j]? = some n ∧ z ∈ o.take n := by
  rw [mem_uni]
  constructor
  · rintro ⟨p, hp, hz⟩
    obtain ⟨j, hj⟩ := List.mem_iff_getElem?.mp hp
    obtain ⟨a, b⟩ := List.getElem?_zip_eq_some.mp hj
    exact ⟨j, p.1, p.2, a, b, hz⟩
  · rintro ⟨j, o, n, a, b, hz⟩
    exact ⟨(o, n), List.mem_iff_getElem?.mpr ⟨j, List.getElem?_zip_eq_some.mpr ⟨a, b⟩⟩, hz⟩
theorem srt_uni {os : List (List Str)} {a b : List Nat} : srt (uni os a) = srt (uni os b) ↔ ∀ z, z ∈ uni os a ↔ z ∈ uni os b := by
  constructor
  · intro e z
    rw [← srt_mem (l := uni os a), e, srt_mem]
  · intro h
    exact srt_same ((List.perm_ext_iff_of_nodup (uni_nodup _ _) (uni_nodup _ _)).mpr h)
theorem uni_put {os : List (List Str)} {ls : List Nat} {i n k : Nat} {o : List Str} (ho : os[i]? = some o) (hn : ls[i]? = some n) (nk : n ≤ k) (hk : k ≤ o.length) : srt (uni os (ls.set i k)) = srt (uni os ls) ↔ k ≤ lim o o (uni os ls) := by
  have li : i < ls.length := (List.getElem?_eq_some_iff.mp hn).1
  have gi : (ls.set i k)[i]? = some k := by rw [List.getElem?_set, if_pos rfl, if_pos li]
  rw [srt_uni]
  constructor
  · intro h
    exact lim_most hk fun z hz => (h z).mp (mem_uniI.mpr ⟨i, o, k, ho, gi, hz⟩)
  · intro h z
    rw [mem_uniI]
    constructor
    · rintro ⟨j, o', n', a, b, hz⟩
      by_cases e : i = j
      · subst e
        rw [gi] at b
        rw [ho] at a
        cases a
        cases b
        exact lim_in (take_more hz h)
      · rw [List.getElem?_set, if_neg e] at b
        exact mem_uniI.mpr ⟨j, o', n', a, b, hz⟩
    · intro hz
      obtain ⟨j, o', n', a, b, hz⟩ := mem_uniI.mp hz
      by_cases e : i = j
      · subst e
        rw [ho] at a
        rw [hn] at b
        cases a
        cases b
        exact ⟨i, o, k, ho, gi, take_more hz nk⟩
      · exact ⟨j, o', n', a, by rw [List.getElem?_set, if_neg e]; exact b, hz⟩
theorem fit_at {os : List (List Str)} {ls : List Nat} (f : Fit os ls) {i n : Nat} {o : List Str} (ho : os[i]? = some o) (hn : ls[i]? = some n) : n ≤ o.length := f.le (o, n) (List.mem_iff_getElem?.mpr ⟨i, List.getElem?_zip_eq_some.mpr ⟨ho, hn⟩⟩)
noncomputable def inB : Mo Out := (bSeq (bIf (asB (e2 eqF (eCall F__law_union (eCons (eVar 0) (eCons (e2 addD (e2 addD (eSl (eVar 1) pNo (pSo (eVar 3))) (eTup (eCons (eVar 5) eNil))) (eSl (eVar 1) (pSo (e2 addD (eVar 3) (eC (.int 1)))) pNo)) eNil))) (eVar 2))) (bSeq (bRet (eC (.bool false))) bNil) bNil) bNil)
theorem in_one {os : List (List Str)} {names : List Str} {ls : List Nat} {V : List Str} {i k : Nat} {s4 : Sl} (F : Few os names) (rv : Rows V) (li : i < ls.length) (ll : ls.length ≤ 100) :
    inB [.dat (histD os), .dat (tokL ls), .dat (verD V), .dat (.int (i : Nat)), s4, .dat (.int (k : Nat))] = .ok (if (srt (uni os (ls.set i k)) == V) = true then .rt (.d (.bool false)) else .nx) [.dat (histD os), .dat (tokL ls), .dat (verD V), .dat (.int (i : Nat)), s4, .dat (.int (k : Nat))] := by
  have c1 : cutD (tokL ls) none (some ((i : Nat) : Int)) = some (.tuple ((ls.take i).map fun n => .int (n : Nat))) := by
    show some (PyData.tuple (cutL (ls.map fun n => PyData.int (n : Nat)) none (some ((i : Nat) : Int)))) = _
    rw [cutL_to, List.map_take]
  have c2 : cutD (tokL ls) (some ((i + 1 : Nat) : Int)) none = some (.tuple ((ls.drop (i + 1)).map fun n => .int (n : Nat))) := by
    show some (PyData.tuple (cutL (ls.map fun n => PyData.int (n : Nat)) (some ((i + 1 : Nat) : Int)) none)) = _
    rw [cutL_from, List.map_drop]
  have a1 : addD (.int (i : Nat)) (.int 1) = some (.int ((i + 1 : Nat) : Int)) := by
    show some (PyData.int ((i : Int) + 1)) = _
    rw [Int.natCast_add]
    rfl
  have s1 := short_ok (ds := [PyData.int (k : Nat)]) (by show 1 ≤ 1000; decide)
  have a2 : addD (.tuple ((ls.take i).map fun n => .int (n : Nat))) (.tuple [.int (k : Nat)]) = some (.tuple (((ls.take i) ++ [k]).map fun n => .int (n : Nat))) := by
    rw [List.map_append]
    show (if ((ls.take i).map fun n => PyData.int (n : Nat)).length + 1 ≤ sizeLine then some (PyData.tuple (((ls.take i).map fun n => PyData.int (n : Nat)) ++ [.int (k : Nat)])) else none) = _
    rw [if_pos]
    · rfl
    · rw [List.length_map, List.length_take]
      exact Nat.le_trans (show _ ≤ 1000 by omega) (by decide)
  have a3 : addD (.tuple (((ls.take i) ++ [k]).map fun n => .int (n : Nat))) (.tuple ((ls.drop (i + 1)).map fun n => .int (n : Nat))) = some (tokL (ls.set i k)) := by
    have e : ls.set i k = (ls.take i ++ [k]) ++ ls.drop (i + 1) := by
      rw [List.set_eq_take_append_cons_drop, if_pos li, List.append_assoc]
      rfl
    rw [e]
    unfold tokL
    rw [List.map_append (l₁ := ls.take i ++ [k])]
    show (if (((ls.take i) ++ [k]).map fun n => PyData.int (n : Nat)).length + ((ls.drop (i + 1)).map fun n => PyData.int (n : Nat)).length ≤ sizeLine then some (PyData.tuple ((((ls.take i) ++ [k]).map fun n => PyData.int (n : Nat)) ++ ((ls.drop (i + 1)).map fun n => PyData.int (n : Nat)))) else none) = _
    rw [if_pos]
    rw [List.length_map, List.length_map, List.length_append, List.length_take, List.length_drop, List.length_singleton]
    exact Nat.le_trans (show _ ≤ 1000 by omega) (by decide)
  have g := lunion_spec (ls := ls.set i k) F
  have eq := eq_vers (a := srt (uni os (ls.set i k))) (b := V) (fun z hz => uni_rows F z (srt_mem.mp hz)) rv
  generalize (srt (uni os (ls.set i k)) == V) = B at eq ⊢
  generalize verD (srt (uni os (ls.set i k))) = U at *
  generalize verD V = VV at *
  generalize tokL (ls.set i k) = T2 at *
  generalize tokL ls = T at *
  generalize ((ls.take i) ++ [k]).map (fun n => PyData.int (n : Nat)) = L1 at *
  generalize (ls.take i).map (fun n => PyData.int (n : Nat)) = L2 at *
  generalize (ls.drop (i + 1)).map (fun n => PyData.int (n : Nat)) = L3 at *
  generalize ((i + 1 : Nat) : Int) = J at *
  generalize ((i : Nat) : Int) = I at *
  generalize ((k : Nat) : Int) = KK at *
  generalize histD os = O at *
  unfold inB
  cases B with
  | true => exact seq_one (if_t (by simp [-Q.addD, -Q.cutD, -Q.eqF, c1, c2, a1, s1, a2, a3, g, eq]) (seq_one rfl fun z => nomatch z)) fun z => nomatch z
  | false => exact seq_nx (if_f (by simp [-Q.addD, -Q.cutD, -Q.eqF, c1, c2, a1, s1, a2, a3, g, eq]) rfl) rfl
theorem loop_rt {g : Tg} {b : Mo Out} {d : D} {ds : List D} {ρ ρ1 ρ2 : Ev} {r : R} (hg : g d ρ = some ρ1) (hb : b ρ1 = .ok (.rt r) ρ2) : loopD g b (d :: ds) ρ = .ok (.rt r) ρ2 := by
  unfold loopD
  rw [hg]
  show (b ρ1).bind _ = _
  rw [hb]
  rfl
theorem in_loopN {os : List (List Str)} {names : List Str} {ls : List Nat} {V : List Str} {i : Nat} {s4 : Sl} (F : Few os names) (rv : Rows V) (li : i < ls.length) (ll : ls.length ≤ 100) : ∀ (ks : List Nat) (s5 : Sl),
    ∃ t5, loopD (gN 5) inB (ks.map fun k => .int (k : Nat)) [.dat (histD os), .dat (tokL ls), .dat (verD V), .dat (.int (i : Nat)), s4, s5] = .ok (if (ks.any fun k => srt (uni os (ls.set i k)) == V) = true then .rt (.d (.bool false)) else .nx) [.dat (histD os), .dat (tokL ls), .dat (verD V), .dat (.int (i : Nat)), s4, t5]
  | [], s5 => ⟨s5, rfl⟩
  | k :: ks, s5 => by
    have h1 := in_one (k := k) (s4 := s4) F rv li ll
    rw [List.any_cons]
    cases e : (srt (uni os (ls.set i k)) == V) with
    | true =>
      rw [e] at h1
      exact ⟨.dat (.int (k : Nat)), loop_rt rfl h1⟩
    | false =>
      rw [e] at h1
      obtain ⟨t5, ih⟩ := in_loopN (s4 := s4) F rv li ll ks (.dat (.int (k : Nat)))
      exact ⟨t5, loop_cons rfl h1 ih⟩
/-- each number is the length of the longest prefix inside -/
def nrmB (os : List (List Str)) (ls : List Nat) : Bool := (os.zip ls).all fun p => decide (p.2 = lim p.1 p.1 (uni os ls))
theorem nrm_iff {os : List (List Str)} {ls : List Nat} (f : Fit os ls) : nrmB os ls = true ↔ ls = limL os (uni os ls) := by
  unfold nrmB
  rw [List.all_eq_true]
  constructor
  · intro h
    apply List.ext_getElem?
    intro j
    unfold limL
    rw [List.getElem?_map]
    cases ho : os[j]? with
    | none =>
      rw [List.getElem?_eq_none_iff] at ho
      rw [Option.map_none, List.getElem?_eq_none_iff, f.len]
      exact ho
    | some o =>
      have lj : j < ls.length := by rw [f.len]; exact (List.getElem?_eq_some_iff.mp ho).1
      obtain ⟨n, hn⟩ : ∃ n, ls[j]? = some n := ⟨_, List.getElem?_eq_getElem lj⟩
      have := of_decide_eq_true (h (o, n) (List.mem_iff_getElem?.mpr ⟨j, List.getElem?_zip_eq_some.mpr ⟨ho, hn⟩⟩))
      rw [hn, Option.map_some]
      exact congrArg some this
  · intro h p hp
    obtain ⟨j, hj⟩ := List.mem_iff_getElem?.mp hp
    obtain ⟨a, b⟩ := List.getElem?_zip_eq_some.mp hj
    refine decide_eq_true ?_
    have b2 : (limL os (uni os ls))[j]? = some p.2 := by rw [← h]; exact b
    unfold limL at b2
    rw [List.getElem?_map, a] at b2
    exact (Option.some.inj b2).symm
/-- the inner walk finds a longer one just where the number is too small -/
theorem any_put {os : List (List Str)} {ls : List Nat} (f : Fit os ls) {i n : Nat} {o : List Str} (ho : os[i]? = some o) (hn : ls[i]? = some n) :
    (((List.range (o.length + 1 - (n + 1))).map fun j => n + 1 + j).any fun k => srt (uni os (ls.set i k)) == srt (uni os ls)) = !(decide (n = lim o o (uni os ls))) := by
  have nl := fit_at f ho hn
  have l1 := lim_le o o (uni os ls)
  have l2 : n ≤ lim o o (uni os ls) := lim_most nl fun z hz => mem_uniI.mpr ⟨i, o, n, ho, hn, hz⟩
  rw [Bool.eq_iff_iff, List.any_eq_true, Bool.not_eq_true', decide_eq_false_iff_not]
  constructor
  · rintro ⟨k, hk, e⟩ q
    obtain ⟨j, hj, rfl⟩ := List.mem_map.mp hk
    have := List.mem_range.mp hj
    have := (uni_put (k := n + 1 + j) ho hn (by omega) (by omega)).mp (eq_of_beq e)
    omega
  · intro ne
    refine ⟨lim o o (uni os ls), List.mem_map.mpr ⟨lim o o (uni os ls) - (n + 1), List.mem_range.mpr (by omega), by omega⟩, ?_⟩
    exact beq_iff_eq.mpr ((uni_put ho hn l2 l1).mpr (Nat.le_refl _))
noncomputable def outB : Mo Out := (bSeq (bFor (iN range2D (eCons (e2 addD (e2 ixD (eVar 1) (eVar 3)) (eC (.int 1))) (eCons (e2 addD (eN lenD (eCons (eVar 4) eNil)) (eC (.int 1))) eNil))) (gN 5) inB) bNil)
theorem out_one {os : List (List Str)} {names : List Str} {ls : List Nat} {i n : Nat} {o : List Str} {s5 : Sl} (F : Few os names) (f : Fit os ls) (ho : os[i]? = some o) (hn : ls[i]? = some n) :
    ∃ t5, outB [.dat (histD os), .dat (tokL ls), .dat (verD (srt (uni os ls))), .dat (.int (i : Nat)), .dat (verD o), s5] = .ok (if (decide (n = lim o o (uni os ls))) = true then .nx else .rt (.d (.bool false))) [.dat (histD os), .dat (tokL ls), .dat (verD (srt (uni os ls))), .dat (.int (i : Nat)), .dat (verD o), t5] := by
  have li : i < ls.length := (List.getElem?_eq_some_iff.mp hn).1
  have ll : ls.length ≤ 100 := by rw [f.len]; exact F.len
  have lo := F.olen (List.mem_of_getElem? ho)
  have nl := fit_at f ho hn
  obtain ⟨t5, g⟩ := in_loopN (s4 := .dat (verD o)) (V := srt (uni os ls)) F (fun z hz => uni_rows F z (srt_mem.mp hz)) li ll ((List.range (o.length + 1 - (n + 1))).map fun j => n + 1 + j) s5
  rw [any_put f ho hn] at g
  refine ⟨t5, ?_⟩
  have a0 : ixD (tokL ls) (.int (i : Nat)) = some (.int (n : Nat)) := by
    show atI (ls.map fun n => PyData.int (n : Nat)) ((i : Nat) : Int) = _
    have en : ixN ls.length ((i : Nat) : Int) = some i := by
      unfold ixN
      rw [if_pos (by omega), if_pos (by omega)]
      rfl
    unfold atI
    rw [List.length_map, en]
    show (ls.map fun n => PyData.int (n : Nat))[i]? = _
    rw [List.getElem?_map, hn]
    rfl
  have a1 : addD (.int (n : Nat)) (.int 1) = some (.int ((n + 1 : Nat) : Int)) := by
    show some (PyData.int ((n : Int) + 1)) = _
    rw [Int.natCast_add]
    rfl
  have a2 := len_verD o
  have a3 : addD (.int (o.length : Nat)) (.int 1) = some (.int ((o.length + 1 : Nat) : Int)) := by
    show some (PyData.int ((o.length : Int) + 1)) = _
    rw [Int.natCast_add]
    rfl
  have r2 := range2_eq (a := n + 1) (b := o.length + 1) (by omega) (by omega)
  have em : ((List.range (o.length + 1 - (n + 1))).map fun i => PyData.int ((n + 1 + i : Nat))) = ((List.range (o.length + 1 - (n + 1))).map fun j => n + 1 + j).map fun k => PyData.int (k : Nat) := by
    rw [List.map_map]
    rfl
  rw [em] at r2
  generalize (((List.range (o.length + 1 - (n + 1))).map fun j => n + 1 + j).map fun k => PyData.int (k : Nat)) = RG at *
  generalize decide (n = lim o o (uni os ls)) = B at *
  generalize verD (srt (uni os ls)) = U at *
  generalize verD o = C at *
  generalize tokL ls = T at *
  generalize histD os = O at *
  generalize ((n + 1 : Nat) : Int) = J at *
  generalize ((n : Nat) : Int) = J0 at *
  generalize ((o.length + 1 : Nat) : Int) = J1 at *
  generalize ((o.length : Nat) : Int) = J2 at *
  generalize ((i : Nat) : Int) = I at *
  have hi : (iN range2D (eCons (e2 addD (e2 ixD (eVar 1) (eVar 3)) (eC (.int 1))) (eCons (e2 addD (eN lenD (eCons (eVar 4) eNil)) (eC (.int 1))) eNil))) [.dat O, .dat T, .dat U, .dat (.int I), .dat C, s5] = .ok RG [.dat O, .dat T, .dat U, .dat (.int I), .dat C, s5] := by
    simp [-Q.lenD, -Q.addD, -Q.ixD, a0, a1, a2, a3, r2]
  unfold outB
  cases B with
  | true => exact seq_nx (for_eq hi g) rfl
  | false => exact seq_one (for_eq hi g) fun z => nomatch z
theorem out_loopN {os : List (List Str)} {names : List Str} {ls : List Nat} (F : Few os names) (f : Fit os ls) : ∀ (rest : List (List Str)) (rl : List Nat) (k : Nat) (s3 s4 s5 : Sl), os.drop k = rest → ls.drop k = rl →
    ∃ t3 t4 t5, loopD (g2 3 4) outB (enumFrom k (rest.map verD)) [.dat (histD os), .dat (tokL ls), .dat (verD (srt (uni os ls))), s3, s4, s5] = .ok (if ((rest.zip rl).all fun p => decide (p.2 = lim p.1 p.1 (uni os ls))) = true then .nx else .rt (.d (.bool false))) [.dat (histD os), .dat (tokL ls), .dat (verD (srt (uni os ls))), t3, t4, t5]
  | [], rl, k, s3, s4, s5, _, _ => ⟨s3, s4, s5, rfl⟩
  | o :: rest, rl, k, s3, s4, s5, e1, e2 => by
    have lk : k < os.length := by
      have := congrArg List.length e1
      rw [List.length_drop, List.length_cons] at this
      omega
    have ho : os[k]? = some o := by
      have := congrArg (fun l => l[0]?) e1
      simpa using this
    cases rl with
    | nil =>
      have := congrArg List.length e2
      rw [List.length_drop, List.length_nil, f.len] at this
      omega
    | cons n rl =>
      have hn : ls[k]? = some n := by
        have := congrArg (fun l => l[0]?) e2
        simpa using this
      have e1' : os.drop (k + 1) = rest := by
        have := congrArg List.tail e1
        rwa [List.tail_drop] at this
      have e2' : ls.drop (k + 1) = rl := by
        have := congrArg List.tail e2
        rwa [List.tail_drop] at this
      obtain ⟨u5, h1⟩ := out_one (s5 := s5) F f ho hn
      rw [List.zip_cons_cons, List.all_cons]
      have en : enumFrom k ((o :: rest).map verD) = Q.pairD (.int (k : Nat)) (verD o) :: enumFrom (k + 1) (rest.map verD) := rfl
      rw [en]
      cases e : decide (n = lim o o (uni os ls)) with
      | false =>
        rw [e] at h1
        exact ⟨.dat (.int (k : Nat)), .dat (verD o), u5, loop_rt rfl h1⟩
      | true =>
        rw [e] at h1
        obtain ⟨t3, t4, t5, ih⟩ := out_loopN F f rest rl (k + 1) (.dat (.int (k : Nat))) (.dat (verD o)) u5 e1' e2'
        exact ⟨t3, t4, t5, loop_cons rfl h1 ih⟩
theorem isnormal_spec {os : List (List Str)} {names : List Str} {ls : List Nat} (F : Few os names) (f : Fit os ls) : F__law_is_normal [.dat (histD os), .dat (tokL ls)] = .ok (.dat (.bool (nrmB os ls))) [.dat (histD os), .dat (tokL ls)] := by
  obtain ⟨t3, t4, t5, g⟩ := out_loopN F f os ls 0 .no .no .no rfl rfl
  have gu := lunion_spec (ls := ls) F
  have en : enF [histD os] = some (enumFrom 0 (os.map verD)) := rfl
  have g : loopD (g2 3 4) outB (enumFrom 0 (os.map verD)) [.dat (histD os), .dat (tokL ls), .dat (verD (srt (uni os ls))), .no, .no, .no] = .ok (if nrmB os ls = true then .nx else .rt (.d (.bool false))) [.dat (histD os), .dat (tokL ls), .dat (verD (srt (uni os ls))), t3, t4, t5] := g
  refine fn_run (n := 2) (N := 6) (b := b__law_is_normal) (ρ := [.dat (histD os), .dat (tokL ls), .dat (verD (srt (uni os ls))), t3, t4, t5]) (o := .rt (.d (.bool (nrmB os ls)))) rfl ?_ (fin_rt rfl)
  generalize nrmB os ls = B at *
  generalize enumFrom 0 (os.map verD) = EN at *
  generalize verD (srt (uni os ls)) = U at *
  generalize tokL ls = T at *
  generalize histD os = O at *
  refine seq_nx (ρ1 := [.dat O, .dat T, .dat U, .no, .no, .no]) (by simp [gu]) ?_
  have hi : (iMap enF (eCons (eVar 0) eNil)) [.dat O, .dat T, .dat U, .no, .no, .no] = .ok EN [.dat O, .dat T, .dat U, .no, .no, .no] := by
    simp [-Q.enF, en]
  cases B with
  | true => exact seq_nx (for_eq hi g) (seq_one rfl fun z => nomatch z)
  | false => exact seq_one (for_eq hi g) fun z => nomatch z
end Z
namespace Z
open PySem PySem.Spec PyProof.Rows L2 Gd Q
/-! ### the dict of the normal tokens; _law_right -/
theorem ne_int (a b : Int) : neF (.int a) (.int b) = some (.bool (!(a == b))) := by
  have := eq_int a b
  unfold eqF at this
  unfold neF
  cases h : (eqD (PyData.int a) (PyData.int b)).or (twoS (PyData.int a) (PyData.int b)) with
  | none =>
    rw [h] at this
    cases this
  | some r =>
    rw [h] at this
    have e : r = (a == b) := by
      have := Option.some.inj this
      injection this
    rw [e]
    rfl
theorem keysT_ver (v : List Str) : keysT (verD v) = some (v.map Sum.inr) := by
  have e : verD v = .tuple ((v.map Sum.inr).map keyD) := by
    unfold verD
    rw [List.map_map]
    rfl
  rw [e]
  exact keysT_D _
theorem ver_key (v : List Str) : PyData.tuple ((v.map Sum.inr).map keyD) = verD v := by
  unfold verD
  rw [List.map_map]
  rfl
theorem inr_inj : ∀ {a b : List Str}, a.map (Sum.inr : Str → Key) = b.map Sum.inr → a = b
  | [], [], _ => rfl
  | [], _ :: _, h => by cases h
  | _ :: _, [], h => by cases h
  | x :: a, y :: b, h => by
    rw [List.map_cons, List.map_cons] at h
    injection h with h1 h2
    injection h1 with h1
    rw [h1, inr_inj h2]
def dicN (os : List (List Str)) (P : List (List Nat)) : List (D × D) := P.map fun l => (verD (srt (uni os l)), .list [tokL l])
theorem find_dicN {os : List (List Str)} {v : List Str} : ∀ P : List (List Nat), findT (dicN os P) (v.map Sum.inr) = (P.find? fun l => decide (srt (uni os l) = v)).map fun l => .list [tokL l]
  | [] => rfl
  | l :: P => by
    have ih := find_dicN (os := os) (v := v) P
    unfold findT dicN at ih ⊢
    rw [List.map_cons, List.find?_cons, List.find?_cons]
    dsimp only
    rw [keysT_ver]
    by_cases e : srt (uni os l) = v
    · rw [decide_eq_true e, decide_eq_true (by rw [e])]
      rfl
    · rw [decide_eq_false e, decide_eq_false fun z => e (inr_inj (Option.some.inj z))]
      exact ih
theorem limL_congr {os : List (List Str)} {S S' : List Str} (h : ∀ z, z ∈ S ↔ z ∈ S') : limL os S = limL os S' := by
  unfold limL
  exact List.map_congr_left fun o _ => lim_congr h
theorem nrm_one {os : List (List Str)} {a b : List Nat} (fa : Fit os a) (na : nrmB os a = true) (e : srt (uni os a) = srt (uni os b)) : a = limL os (uni os b) := by
  exact ((nrm_iff fa).mp na).trans (limL_congr (srt_uni.mp e))
theorem nrm_lim {os : List (List Str)} {b : List Nat} (f : Fit os b) : nrmB os (limL os (uni os b)) = true ∧ srt (uni os (limL os (uni os b))) = srt (uni os b) := by
  have h : ∀ z, z ∈ uni os (limL os (uni os b)) ↔ z ∈ uni os b := uni_lim (cov_uni f)
  refine ⟨(nrm_iff (fit_lim os _)).mpr ?_, srt_uni.mpr h⟩
  exact (limL_congr h).symm
noncomputable def addB : Mo Out := (bSeq (bIf (asB (eCall F__law_is_normal (eCons (eVar 0) (eCons (eVar 3) eNil)))) (bSeq (bEx (eSdA 2 (eCall F__law_union (eCons (eVar 0) (eCons (eVar 3) eNil))) 3)) bNil) bNil) bNil)
theorem add_loop {os : List (List Str)} {names : List Str} {TL : D} {s4 s5 : Sl} (F : Few os names) : ∀ (ls P : List (List Nat)) (s3 : Sl), (P ++ ls).Nodup → (∀ l ∈ P, Fit os l ∧ nrmB os l = true) → (∀ l ∈ ls, Fit os l) → P.length + ls.length ≤ 200 →
    ∃ t3, loopD (gN 3) addB (ls.map tokL) [.dat (histD os), .dat TL, .own (.dt (dicN os P)), s3, s4, s5] = .ok .nx [.dat (histD os), .dat TL, .own (.dt (dicN os (P ++ ls.filter (nrmB os)))), t3, s4, s5]
  | [], P, s3, _, _, _, _ => ⟨s3, by rw [List.filter_nil, List.append_nil]; rfl⟩
  | l :: ls, P, s3, nd, hP, hl, lz => by
    have fl := hl l List.mem_cons_self
    have g1 := isnormal_spec F fl
    have g2 := lunion_spec (ls := l) F
    rw [List.length_cons] at lz
    rw [List.filter_cons]
    cases e : nrmB os l with
    | false =>
      rw [e] at g1
      obtain ⟨t3, ih⟩ := add_loop (TL := TL) (s4 := s4) (s5 := s5) F ls P (.dat (tokL l)) (nd.sublist (List.Sublist.append_left (List.sublist_cons_self l ls) P)) hP (fun x hx => hl x (List.mem_cons_of_mem _ hx)) (by omega)
      refine ⟨t3, loop_cons (ρ1 := [.dat (histD os), .dat TL, .own (.dt (dicN os P)), .dat (tokL l), s4, s5]) rfl ?_ ih⟩
      generalize dicN os P = DN
      generalize tokL l = T at *
      generalize histD os = O at *
      unfold addB
      exact seq_nx (if_f (by simp [g1]) rfl) rfl
    | true =>
      rw [e] at g1
      have hno : findT (dicN os P) ((srt (uni os l)).map Sum.inr) = none := by
        rw [find_dicN]
        have : (P.find? fun a => decide (srt (uni os a) = srt (uni os l))) = none := by
          rw [List.find?_eq_none]
          intro a ha q
          have q := of_decide_eq_true q
          have e1 := nrm_one (hP a ha).1 (hP a ha).2 q
          have e2 := (nrm_iff fl).mp e
          have : a = l := e1.trans e2.symm
          subst this
          exact (List.nodup_append.mp nd).2.2 a ha a List.mem_cons_self rfl
        rw [this]
        rfl
      have ld : (dicN os P).length < sizeLine := by
        unfold dicN
        rw [List.length_map]
        exact Nat.lt_of_lt_of_le (show P.length < 1000 by omega) (by decide)
      have ek := keysT_ver (srt (uni os l))
      have ev := ver_key (srt (uni os l))
      have en : dicN os (P ++ [l]) = dicN os P ++ [(verD (srt (uni os l)), .list [tokL l])] := by
        unfold dicN
        rw [List.map_append]
        rfl
      obtain ⟨t3, ih⟩ := add_loop (TL := TL) (s4 := s4) (s5 := s5) F ls (P ++ [l]) (.dat (tokL l)) (by rw [List.append_assoc]; exact nd) (fun x hx => (List.mem_append.mp hx).elim (hP x) fun q => by rw [List.mem_singleton.mp q]; exact ⟨fl, e⟩) (fun x hx => hl x (List.mem_cons_of_mem _ hx)) (by rw [List.length_append, List.length_singleton]; omega)
      rw [if_pos rfl, List.append_cons]
      refine ⟨t3, loop_cons (ρ1 := [.dat (histD os), .dat TL, .own (.dt (dicN os P)), .dat (tokL l), s4, s5]) rfl ?_ ih⟩
      rw [en]
      generalize dicN os P = DN at *
      generalize (srt (uni os l)).map (Sum.inr : Str → Key) = KS at *
      generalize verD (srt (uni os l)) = U at *
      generalize tokL l = T at *
      generalize histD os = O at *
      unfold addB
      refine seq_nx (if_t (by simp [g1]) (seq_nx ?_ rfl)) rfl
      simp [-Q.keysT, g2, ek, hno, ld, ev]
noncomputable def lookB : Mo Out := (bSeq (bSet 4 (eCall F__law_union (eCons (eVar 0) (eCons (eVar 3) eNil)))) (bSeq (bSet 5 (eGetT 2 (eVar 4))) (bSeq (bIf (bOr (asB (e2 neF (eN lenD (eCons (eVar 5) eNil)) (eC (.int 1)))) (asB (e2 neF (eN reprD (eCons (eCallX F_normalize_token (eCons (eVar 0) (eCons (eVar 3) eNil))) eNil)) (eN reprD (eCons (e2 ixD (eVar 5) (eC (.int 0))) eNil))))) (bSeq (bRet (eC (.bool false))) bNil) bNil) (bSeq (bIf (bOr (asB (e2 neF (eCall F_encode_state (eCons (eVar 0) (eCons (eVar 4) eNil))) (e2 ixD (eVar 5) (eC (.int 0))))) (asB (e2 neF (eCallX F_normalize_token (eCons (eVar 0) (eCons (e2 ixD (eVar 5) (eC (.int 0))) eNil))) (e2 ixD (eVar 5) (eC (.int 0)))))) (bSeq (bRet (eC (.bool false))) bNil) bNil) bNil))))
theorem find_due {os : List (List Str)} {N : List (List Nat)} {l : List Nat} (f : Fit os l) (hN : ∀ a, a ∈ N ↔ Fit os a ∧ nrmB os a = true) : findT (dicN os N) ((srt (uni os l)).map Sum.inr) = some (.list [tokL (limL os (uni os l))]) := by
  rw [find_dicN]
  obtain ⟨n1, n2⟩ := nrm_lim f
  have hm : limL os (uni os l) ∈ N := (hN _).mpr ⟨fit_lim os _, n1⟩
  cases e : N.find? fun a => decide (srt (uni os a) = srt (uni os l)) with
  | none =>
    rw [List.find?_eq_none] at e
    exact absurd (decide_eq_true n2) (e _ hm)
  | some a =>
    have ma := List.mem_of_find?_eq_some e
    have q := of_decide_eq_true (List.find?_some (p := fun a => decide (srt (uni os a) = srt (uni os l))) e)
    rw [nrm_one ((hN a).mp ma).1 ((hN a).mp ma).2 q]
    rfl
theorem look_one {os : List (List Str)} {names : List Str} {TL : D} {N : List (List Nat)} {l : List Nat} {s4 s5 : Sl} (F : Few os names) (f : Fit os l) (hN : ∀ a, a ∈ N ↔ Fit os a ∧ nrmB os a = true) :
    ∃ t4 t5, lookB [.dat (histD os), .dat TL, .own (.dt (dicN os N)), .dat (tokL l), s4, s5] = .ok .nx [.dat (histD os), .dat TL, .own (.dt (dicN os N)), .dat (tokL l), t4, t5] := by
  have g1 := lunion_spec (ls := l) F
  have g2 := find_due f hN
  have ek := keysT_ver (srt (uni os l))
  have g3 := norm_spec F f
  have g4 := enc_spec (os := os) (S := srt (uni os l)) F.rows (fun z hz => uni_rows F z (srt_mem.mp hz)) (Nat.le_trans F.len (by decide))
  have g5 := norm_spec F (fit_lim os (uni os l))
  rw [tok_congr (S' := uni os l) fun z => srt_mem] at g4
  rw [tok_congr (S' := uni os l) fun z => uni_lim (cov_uni f) z] at g5
  have ne := tok_ne os (uni os l)
  have sr := (sh_tok F.ords (uni os l)).repr (by decide) (by decide)
  rw [tok_lim] at g3 g4 g5 ne sr
  have nq := ne_strs (tokL (limL os (uni os l))).shown (tokL (limL os (uni os l))).shown
  rw [beq_self_eq_true] at nq
  have ln : lenD [.list [tokL (limL os (uni os l))]] = some (.int 1) := rfl
  have n1 : neF (.int 1) (.int 1) = some (.bool false) := ne_int 1 1
  have ix : ixD (.list [tokL (limL os (uni os l))]) (.int 0) = some (tokL (limL os (uni os l))) := rfl
  refine ⟨.dat (verD (srt (uni os l))), .dat (.list [tokL (limL os (uni os l))]), ?_⟩
  generalize (tokL (limL os (uni os l))).shown = SH at *
  generalize tokL (limL os (uni os l)) = TN at *
  generalize (srt (uni os l)).map (Sum.inr : Str → Key) = KS at *
  generalize verD (srt (uni os l)) = U at *
  generalize dicN os N = DN at *
  generalize tokL l = T at *
  generalize histD os = O at *
  unfold lookB
  refine seq_nx (ρ1 := [.dat O, .dat TL, .own (.dt DN), .dat T, .dat U, s5]) (by simp [g1]) ?_
  refine seq_nx (ρ1 := [.dat O, .dat TL, .own (.dt DN), .dat T, .dat U, .dat (.list [TN])]) (by simp [-Q.keysT, ek, g2]) ?_
  refine seq_nx (if_f (by simp [-Q.lenD, -Q.neF, -Q.ixD, ln, n1, ix, g3, sr, nq]) rfl) ?_
  exact seq_nx (if_f (by simp [-Q.neF, -Q.ixD, ix, g4, g5, ne]) rfl) rfl
theorem look_loop {os : List (List Str)} {names : List Str} {TL : D} {N : List (List Nat)} (F : Few os names) (hN : ∀ a, a ∈ N ↔ Fit os a ∧ nrmB os a = true) : ∀ (ls : List (List Nat)) (s3 s4 s5 : Sl), (∀ l ∈ ls, Fit os l) →
    ∃ t3 t4 t5, loopD (gN 3) lookB (ls.map tokL) [.dat (histD os), .dat TL, .own (.dt (dicN os N)), s3, s4, s5] = .ok .nx [.dat (histD os), .dat TL, .own (.dt (dicN os N)), t3, t4, t5]
  | [], s3, s4, s5, _ => ⟨s3, s4, s5, rfl⟩
  | l :: ls, s3, s4, s5, h => by
    obtain ⟨u4, u5, g⟩ := look_one (TL := TL) (s4 := s4) (s5 := s5) F (h l List.mem_cons_self) hN
    obtain ⟨t3, t4, t5, ih⟩ := look_loop (TL := TL) F hN ls (.dat (tokL l)) u4 u5 fun x hx => h x (List.mem_cons_of_mem _ hx)
    exact ⟨t3, t4, t5, loop_cons rfl g ih⟩
theorem right_spec {os : List (List Str)} {names : List Str} (F : Few os names) (l4 : ∀ o ∈ os, o.length ≤ 4) (l3 : os.length ≤ 3) : F__law_right [.dat (histD os)] = .ok (.dat (.bool true)) [.dat (histD os)] := by
  obtain ⟨g1, lz⟩ := all_lengthsX l4 l3
  have nd := nodup_allL os [[]] (List.pairwise_singleton _ _)
  have fa : ∀ l ∈ allL os [[]], Fit os l := fun l hl => mem_all.mp hl
  obtain ⟨u3, g2⟩ := add_loop (TL := .list ((allL os [[]]).map tokL)) (s4 := .no) (s5 := .no) F (allL os [[]]) [] .no nd (fun l hl => nomatch hl) fa (by rw [List.length_nil]; omega)
  rw [List.nil_append] at g2
  obtain ⟨t3, t4, t5, g3⟩ := look_loop (TL := .list ((allL os [[]]).map tokL)) (N := (allL os [[]]).filter (nrmB os)) F (fun a => by rw [List.mem_filter, mem_all]) (allL os [[]]) u3 .no .no fa
  refine fn_run (n := 1) (N := 6) (b := b__law_right) (ρ := [.dat (histD os), .dat (.list ((allL os [[]]).map tokL)), .own (.dt (dicN os ((allL os [[]]).filter (nrmB os)))), t3, t4, t5]) rfl ?_ (fin_rt rfl)
  have g2 : loopD (gN 3) addB ((allL os [[]]).map tokL) [.dat (histD os), .dat (.list ((allL os [[]]).map tokL)), .own (.dt []), .no, .no, .no] = .ok .nx [.dat (histD os), .dat (.list ((allL os [[]]).map tokL)), .own (.dt (dicN os ((allL os [[]]).filter (nrmB os)))), u3, .no, .no] := g2
  generalize dicN os ((allL os [[]]).filter (nrmB os)) = DN at *
  generalize (allL os [[]]).map tokL = TL at *
  have it : iterD (.list TL) = some TL := rfl
  generalize histD os = O at *
  refine seq_nx (ρ1 := [.dat O, .dat (.list TL), .no, .no, .no, .no]) (by simp [g1]) ?_
  refine seq_nx (ρ1 := [.dat O, .dat (.list TL), .own (.dt []), .no, .no, .no]) (by simp) ?_
  refine seq_nx (for_eq (ds := TL) (ρ1 := [.dat O, .dat (.list TL), .own (.dt []), .no, .no, .no]) (by simp [-Q.iterD, it]) g2) ?_
  refine seq_nx (for_eq (ds := TL) (ρ1 := [.dat O, .dat (.list TL), .own (.dt DN), u3, .no, .no]) (by simp [-Q.iterD, it]) g3) ?_
  exact seq_one (by simp) (fun z => nomatch z)
end Z
namespace Z
open PySem PySem.Spec PyProof.Rows L2 Gd Q
/-! ### the law -/
noncomputable def turn36 : Mo Out := (bSeq (bIf (bNot (asB (eCall F__law_right (eCons (eCall F__law_orders (eCons (eVar 2) (eCons (eC (.int 3)) (eCons (eLock (fCall F__law_names (eCons (eVar 2) (eCons (e2 addD (eC (.int 1)) (eCall F__law_take (eCons (eVar 2) (eCons (eC (.int 4)) eNil)))) eNil)))) eNil)))) eNil)))) (bSeq (bRet (eC (.bool false))) bNil) bNil) bNil)
theorem turn36_spec {A a1 s3 : Sl} {h : List D} {n : Nat} (hk : HandOk h n) (hn : n + 3000 < 200000) :
    ∃ h', turn36 [A, a1, .own (.lst h), s3] = .ok .nx [A, a1, .own (.lst h'), s3] ∧ HandOk h' (n + 400) := by
  obtain ⟨v, h2, g2, v0, v1, hk2⟩ := take_spec hk (by omega) (m := 4) (by decide) (by decide)
  obtain ⟨k, rfl⟩ := Int.eq_ofNat_of_zero_le v0
  have lk : 1 + k ≤ 4 := by omega
  obtain ⟨ns, h3, g3, ln, nn, rn, hk3, _⟩ := names_spec (c := 1 + k) hk2 (by omega) (by omega)
  obtain ⟨os, h4, g4, F, hk4, l3⟩ := orders_spec3 rn nn (by omega) hk3 (by omega)
  have g5 := right_spec F (fun o ho => Nat.le_trans (nodup_sub_len (F.nd o ho) (F.sub o ho)) (by omega)) l3
  have e2k : addD (.int 1) (.int (k : Nat)) = some (.int ((1 + k : Nat) : Int)) := by
    show some (PyData.int (1 + (k : Int))) = _
    rw [Int.natCast_add]
    rfl
  refine ⟨h4, ?_, hk4.up (by omega)⟩
  have g2 : F__law_take [.own (.lst h), .dat (.int 4)] = .ok (.dat (.int ((k : Nat) : Int))) [.own (.lst h2), .dat (.int 4)] := g2
  generalize ((1 + k : Nat) : Int) = J at *
  generalize ((k : Nat) : Int) = kk at *
  generalize histD os = H at *
  generalize ns.map PyData.str = NL at *
  exact seq_nx (if_ff (ρ1 := [A, a1, .own (.lst h4), s3]) (by simp [-Q.addD, g2, g3, g4, g5, e2k]) rfl) rfl
theorem turn_loop {A a1 : Sl} : ∀ (ds : List D) (h : List D) (n : Nat) (s3 : Sl), HandOk h n → n + 3000 * ds.length < 150000 →
    ∃ h' t3, loopD (gN 3) turn36 ds [A, a1, .own (.lst h), s3] = .ok .nx [A, a1, .own (.lst h'), t3]
  | [], h, n, s3, _, _ => ⟨h, s3, rfl⟩
  | d :: ds, h, n, s3, hk, hn => by
    rw [List.length_cons] at hn
    obtain ⟨h1, g1, hk1⟩ := turn36_spec (A := A) (a1 := a1) (s3 := .dat d) hk (by omega)
    obtain ⟨h2, t3, g2⟩ := turn_loop (A := A) (a1 := a1) ds h1 (n + 400) (.dat d) hk1 (by omega)
    exact ⟨h2, t3, loop_cons rfl g1 g2⟩
theorem outer_loop {ns : List Int} : ∀ (ks : List Nat) (s1 s2 s3 : Sl), (∀ k ∈ ks, k ≤ 1000) →
    ∃ t1 t2 t3, loopD (gN 1) (bSeq (bSetF 2 (fCall F__law_hand (eCons (eVar 0) (eCons (eVar 1) eNil)))) (bSeq (bFor (iN range1D (eCons (eC (.int 4)) eNil)) (gN 3) turn36) bNil)) (ks.map fun k => .int (k : Nat)) [.dat (scrD ns), s1, s2, s3] = .ok .nx [.dat (scrD ns), t1, t2, t3]
  | [], s1, s2, s3, _ => ⟨s1, s2, s3, rfl⟩
  | k :: ks, s1, s2, s3, hks => by
    obtain ⟨h, eh, hk⟩ := hand_spec (ns := ns) (k := k) (hks k List.mem_cons_self)
    obtain ⟨h1, t3, g1⟩ := turn_loop (A := .dat (scrD ns)) (a1 := .dat (.int (k : Nat))) ((List.range 4).map fun i => .int (i : Nat)) h 0 s3 hk (by decide)
    obtain ⟨u1, u2, u3, g2⟩ := outer_loop (ns := ns) ks (.dat (.int (k : Nat))) (.own (.lst h1)) t3 fun k hk => hks k (List.mem_cons_of_mem _ hk)
    refine ⟨u1, u2, u3, loop_cons (ρ1 := [.dat (scrD ns), .dat (.int (k : Nat)), s2, s3]) rfl ?_ g2⟩
    refine seq_nx (ρ1 := [.dat (scrD ns), .dat (.int (k : Nat)), .own (.lst h), s3]) ?_ ?_
    · generalize scrD ns = A at eh ⊢
      simp [eh]
    · have r1 : range1D [.int 4] = some ((List.range 4).map fun i => .int (i : Nat)) := range1_eq (c := 4) (by decide)
      refine seq_nx (for_eq (ds := (List.range 4).map fun i => .int (i : Nat)) ?_ g1) rfl
      simp [r1]
theorem law_true {ns : List Int} (_ : ns.length ≤ 63) : F_law [.dat (scrD ns)] = .ok (.dat (.bool true)) [.dat (scrD ns)] := by
  have hc : ∃ c : Nat, c ≤ 3 ∧ (if (if (ns.length : Int) < 3 then (ns.length : Int) else 3) > 1 then (if (ns.length : Int) < 3 then (ns.length : Int) else 3) else 1) = (c : Int) := by
    by_cases a : (ns.length : Int) < 3
    · rw [if_pos a]
      by_cases b : (ns.length : Int) > 1
      · rw [if_pos b]
        exact ⟨ns.length, by omega, rfl⟩
      · rw [if_neg b]
        exact ⟨1, by decide, rfl⟩
    · rw [if_neg a]
      exact ⟨3, by decide, rfl⟩
  obtain ⟨c, lc, ec⟩ := hc
  obtain ⟨t1, t2, t3, e⟩ := outer_loop (ns := ns) (List.range c) .no .no .no (fun k hk => by have := List.mem_range.mp hk; omega)
  refine fn_run (n := 1) (N := 4) (b := b_law) (ρ := [.dat (scrD ns), t1, t2, t3]) rfl ?_ (fin_rt rfl)
  refine seq_nx (for_eq (ds := (List.range c).map fun i => .int (i : Nat)) ?_ e) (seq_one rfl (fun z => nomatch z))
  have r1 := range1_eq (c := c) (by omega)
  simp [scrD, ec, r1]
end Z
namespace Z
open PySem PySem.Spec PyProof.Rows L2 Gd Q
section
variable [Tbl] {P : Program} {w : World} {K : PySem.W.Frag} {mg : Str → Option Value} {base : Heap} {f__law_hand f__law_all_lengths f__law_union f__law_is_normal f_prefix_length f_encode_state f_union_of f_is_integer_within f_is_token f_decode_token f_normalize_token f__law_right f__law_take f__law_shuffled f__law_orders f__law_pick f__law_names f_law c_PagesError c_BadToken i_BadToken : Addr} {e__law_hand e__law_all_lengths e__law_union e__law_is_normal e_prefix_length e_encode_state e_union_of e_is_integer_within e_is_token e_decode_token e_normalize_token e__law_right e__law_take e__law_shuffled e__law_orders e__law_pick e__law_names e_law j_BadToken : FuncData}
theorem ok__law_hand (T : Txt0 K mg f__law_hand f__law_all_lengths f__law_union f__law_is_normal f_prefix_length f_encode_state f_union_of f_is_integer_within f_is_token f_decode_token f_normalize_token f__law_right f__law_take f__law_shuffled f__law_orders f__law_pick f__law_names f_law c_PagesError c_BadToken i_BadToken e__law_hand e__law_all_lengths e__law_union e__law_is_normal e_prefix_length e_encode_state e_union_of e_is_integer_within e_is_token e_decode_token e_normalize_token e__law_right e__law_take e__law_shuffled e__law_orders e__law_pick e__law_names e_law j_BadToken) : FnG P w K mg base 1 f__law_hand e__law_hand ["_law_script", "_law_k"] (spD K F__law_hand) := by
  exact okD T.d__law_hand sc__law_hand (by decide) fun cdv A outer s H E hc hg hr =>
      (xss_cons (xs_set (i := 2) (by decide) sc__law_hand.nd rfl (.inl rfl) (xd_if (xb_cmp o_lt q2 (xd_var (pv 1)) (xd_callB c_len (by rfl) T.m_len (by decide +kernel) (xa_cons (xd_var (pv 0)) xa_nil)) (nomark _)) (xd_ix (xd_var (pv 0)) (xd_var (pv 1)) (fun _ _ => rfl)) (xd_op o_add q2 (xd_op o_mulA q2 xd_int (xd_var (pv 1))) xd_int)))
      (xss_cons (xs_set (i := 3) (by decide) sc__law_hand.nd rfl (.inl rfl) (xd_op o_mulA q2 (xd_op o_mod q2 (xd_callB c_abs (by rfl) T.m_abs (by decide +kernel) (xa_cons (xd_var (pv 2)) xa_nil)) (xd_op o_mulA q2 (xd_op o_mulA q2 (xd_op o_mulA q2 (xd_op o_pow q2 xd_int xd_int) (xd_op o_pow q2 xd_int xd_int)) (xd_op o_pow q2 xd_int xd_int)) (xd_op o_pow q2 xd_int xd_int))) (xd_callT c_int (by rfl) T.m_int (by decide +kernel) (xa_cons (xd_cmp o_ge q2 (xd_callB c_abs (by rfl) T.m_abs (by decide +kernel) (xa_cons (xd_var (pv 2)) xa_nil)) (xd_op o_pow q2 xd_int xd_int) (nomark _)) xa_nil))))
      (xss_cons (xs_retF (xf_lst (xa_cons (xd_var (pv 3)) (xa_cons (xd_op o_mod q2 (xd_op o_mulA q2 (xd_op o_add q2 (xd_op o_add q2 (xd_op o_mod q2 (xd_var (pv 2)) xd_int) (xd_op o_mulA q2 (xd_op o_mulA q2 xd_int (xd_var (pv 1))) (xd_var (pv 1)))) xd_int) xd_int) xd_int) (xa_cons xd_int xa_nil)))))
      xss_nil)))
theorem ok__law_all_lengths (T : Txt0 K mg f__law_hand f__law_all_lengths f__law_union f__law_is_normal f_prefix_length f_encode_state f_union_of f_is_integer_within f_is_token f_decode_token f_normalize_token f__law_right f__law_take f__law_shuffled f__law_orders f__law_pick f__law_names f_law c_PagesError c_BadToken i_BadToken e__law_hand e__law_all_lengths e__law_union e__law_is_normal e_prefix_length e_encode_state e_union_of e_is_integer_within e_is_token e_decode_token e_normalize_token e__law_right e__law_take e__law_shuffled e__law_orders e__law_pick e__law_names e_law j_BadToken) : FnG P w K mg base 1 f__law_all_lengths e__law_all_lengths ["_law_orders_here"] (spD K F__law_all_lengths) := by
  exact okD T.d__law_all_lengths sc__law_all_lengths (by decide) fun cdv A outer s H E hc hg hr =>
      (xss_cons (xs_set (i := 1) (by decide) sc__law_all_lengths.nd rfl (.inl rfl) (xd_lock (xf_lst (xa_cons (xd_tup xa_nil) xa_nil))))
      (xss_cons (xs_for PassesOwn.never rfl (xi_seq (xd_var (pv 0))) (xg_name (i := 2) (by decide) sc__law_all_lengths.nd rfl (.inl rfl)) (xss_cons (xs_setF (i := 3) (by decide) sc__law_all_lengths.nd rfl (.inl rfl) (xf_lst xa_nil))
      (xss_cons (xs_for PassesOwn.never rfl (xi_seq (xd_var (pv 1))) (xg_name (i := 4) (by decide) sc__law_all_lengths.nd rfl (.inr rfl)) (xss_cons (xs_expr (xd_ext (pv 3) (xd_lock (xf_comp (own := [("_law_length", 5)]) (vs := [5]) rfl sc__law_all_lengths.nd rfl (by decide) (by decide) (xi_range1 (by rfl) T.m_range (xa_cons (xd_op o_add q2 (xd_callB c_len (by rfl) T.m_len (by decide +kernel) (xa_cons (xd_var (pv 2)) xa_nil)) xd_int) xa_nil)) (blkOk_by (own := [("_law_length", 5)]) (N := n__law_all_lengths) (sc := defScope s__law_all_lengths) (by decide +kernel)) (fun _ _ _ _ _ => (xg_name (i := 5) (by decide) sc__law_all_lengths.nd rfl (by first | exact .inl rfl | exact .inr rfl))) (fun _ _ _ _ _ => xts_nil) (fun _ _ _ _ _ => (xd_op o_add q2 (xd_var (pv 4)) (xd_tup (xa_cons (xd_var (pv 5)) xa_nil))))))))
      xss_nil))
      (xss_cons (xs_set (i := 1) (by decide) sc__law_all_lengths.nd rfl (.inl rfl) (xd_varL (by decide) (pv 3)))
      xss_nil))))
      (xss_cons (xs_ret (xd_var (pv 1)))
      xss_nil)))
theorem ok__law_union (T : Txt0 K mg f__law_hand f__law_all_lengths f__law_union f__law_is_normal f_prefix_length f_encode_state f_union_of f_is_integer_within f_is_token f_decode_token f_normalize_token f__law_right f__law_take f__law_shuffled f__law_orders f__law_pick f__law_names f_law c_PagesError c_BadToken i_BadToken e__law_hand e__law_all_lengths e__law_union e__law_is_normal e_prefix_length e_encode_state e_union_of e_is_integer_within e_is_token e_decode_token e_normalize_token e__law_right e__law_take e__law_shuffled e__law_orders e__law_pick e__law_names e_law j_BadToken) : FnG P w K mg base 1 f__law_union e__law_union ["_law_orders_here", "_law_lengths"] (spD K F__law_union) := by
  exact okD T.d__law_union sc__law_union (by decide) fun cdv A outer s H E hc hg hr =>
      (xss_cons (xs_setF (i := 2) (by decide) sc__law_union.nd rfl (.inl rfl) xf_newD)
      (xss_cons (xs_for PassesOwn.never rfl (xi_zip (by rfl) T.m_zip (xa_cons (xd_var (pv 0)) (xa_cons (xd_var (pv 1)) xa_nil))) (xg_tup (by rfl) (xgs_cons (xg_name (i := 3) (by decide) sc__law_union.nd rfl (.inl rfl)) (xgs_cons (xg_name (i := 4) (by decide) sc__law_union.nd rfl (.inl rfl)) xgs_nil))) (xss_cons (xs_for PassesOwn.never rfl (xi_seq (xd_sl (xd_var (pv 3)) xp_no (xp_so (xd_var (pv 4))))) (xg_name (i := 5) (by decide) sc__law_union.nd rfl (.inl rfl)) (xss_cons (xs_setk (units65 hr) (pv 2) xd_bl (xd_var (pv 5)))
      xss_nil))
      xss_nil))
      (xss_cons (xs_ret (xd_callT c_tuple (by rfl) T.m_tuple (by decide +kernel) (xa_cons (xd_lock (xf_callB (c_sorted rfl) (by rfl) T.m_sorted (by decide +kernel) (xa_cons (xd_var (pv 2)) xa_nil))) xa_nil)))
      xss_nil)))
theorem ok_prefix_length (T : Txt0 K mg f__law_hand f__law_all_lengths f__law_union f__law_is_normal f_prefix_length f_encode_state f_union_of f_is_integer_within f_is_token f_decode_token f_normalize_token f__law_right f__law_take f__law_shuffled f__law_orders f__law_pick f__law_names f_law c_PagesError c_BadToken i_BadToken e__law_hand e__law_all_lengths e__law_union e__law_is_normal e_prefix_length e_encode_state e_union_of e_is_integer_within e_is_token e_decode_token e_normalize_token e__law_right e__law_take e__law_shuffled e__law_orders e__law_pick e__law_names e_law j_BadToken) : FnG P w K mg base 1 f_prefix_length e_prefix_length ["version", "live", "rows"] (spD K F_prefix_length) := by
  exact okD T.d_prefix_length sc_prefix_length (by decide) fun cdv A outer s H E hc hg hr =>
      (xss_cons (xs_for PassesOwn.never rfl (xi_enum (by rfl) T.m_enumerate (xa_cons (xd_var (pv 0)) xa_nil)) (xg_tup (by rfl) (xgs_cons (xg_name (i := 3) (by decide) sc_prefix_length.nd rfl (.inl rfl)) (xgs_cons (xg_name (i := 4) (by decide) sc_prefix_length.nd rfl (.inl rfl)) xgs_nil))) (xss_cons (xs_if (PW.pt (xw_and (xb_cmp (o_nin (units65 hr)) q2 (xd_var (pv 4)) (xd_var (pv 2)) (by rfl)) (xw_and1 (xb_cmp (o_in (units65 hr)) q2 (xd_var (pv 4)) (xd_var (pv 1)) (by rfl))))) (xss_cons (xs_ret (xd_var (pv 3)))
      xss_nil) xss_nil)
      xss_nil))
      (xss_cons (xs_ret (xd_callB c_len (by rfl) T.m_len (by decide +kernel) (xa_cons (xd_var (pv 0)) xa_nil)))
      xss_nil))
theorem ok_union_of (T : Txt0 K mg f__law_hand f__law_all_lengths f__law_union f__law_is_normal f_prefix_length f_encode_state f_union_of f_is_integer_within f_is_token f_decode_token f_normalize_token f__law_right f__law_take f__law_shuffled f__law_orders f__law_pick f__law_names f_law c_PagesError c_BadToken i_BadToken e__law_hand e__law_all_lengths e__law_union e__law_is_normal e_prefix_length e_encode_state e_union_of e_is_integer_within e_is_token e_decode_token e_normalize_token e__law_right e__law_take e__law_shuffled e__law_orders e__law_pick e__law_names e_law j_BadToken) : FnG P w K mg base 1 f_union_of e_union_of ["groups"] (spD K F_union_of) := by
  exact okD T.d_union_of sc_union_of (by decide) fun cdv A outer s H E hc hg hr =>
      (xss_cons (xs_ret (xd_callT c_tuple (by rfl) T.m_tuple (by decide +kernel) (xa_cons (xd_lock (xf_sortSc2 (own := [("rows", 1), ("row", 2)]) (vs := [1, 2]) (vs2 := [2]) rfl (by rfl) T.m_sorted sc_union_of.nd rfl (by decide) (by decide) (by decide) (by decide) (xi_seq (xd_var (pv 0))) (blkOk_by (own := [("rows", 1), ("row", 2)]) (N := n_union_of) (sc := defScope s_union_of) (by decide +kernel)) (fun _ _ _ _ _ => (xg_name (i := 1) (by decide) sc_union_of.nd rfl (by first | exact .inl rfl | exact .inr rfl))) (fun _ _ _ _ _ => (xi_seq (xd_var (pv 1)))) (fun _ _ _ _ _ => (xg_name (i := 2) (by decide) sc_union_of.nd rfl (by first | exact .inl rfl | exact .inr rfl))) (fun _ _ _ _ _ => (xd_var (pv 2))))) xa_nil)))
      xss_nil)
theorem ok_is_integer_within (T : Txt0 K mg f__law_hand f__law_all_lengths f__law_union f__law_is_normal f_prefix_length f_encode_state f_union_of f_is_integer_within f_is_token f_decode_token f_normalize_token f__law_right f__law_take f__law_shuffled f__law_orders f__law_pick f__law_names f_law c_PagesError c_BadToken i_BadToken e__law_hand e__law_all_lengths e__law_union e__law_is_normal e_prefix_length e_encode_state e_union_of e_is_integer_within e_is_token e_decode_token e_normalize_token e__law_right e__law_take e__law_shuffled e__law_orders e__law_pick e__law_names e_law j_BadToken) : FnG P w K mg base 1 f_is_integer_within e_is_integer_within ["value", "low", "high"] (spD K F_is_integer_within) := by
  exact okD T.d_is_integer_within sc_is_integer_within (by decide) fun cdv A outer s H E hc hg hr =>
      (xss_cons (xs_if (PW.pt (xw_or (xb_val (xd_isi (T := "bool") (by decide) (by rfl) T.m_isinstance (pe_bltn (v := .ty "bool") (by rfl) T.m_bool (by decide +kernel) rfl) (xd_var (pv 0)))) (xw_or1 (xb_not (xb_val (xd_isi (T := "int") (by decide) (by rfl) T.m_isinstance (pe_bltn (v := .ty "int") (by rfl) T.m_int (by decide +kernel) rfl) (xd_var (pv 0)))))))) (xss_cons (xs_ret xd_bl)
      xss_nil) xss_nil)
      (xss_cons (xs_ret (xd_chain o_le q2 o_le q2 (xd_var (pv 1)) (xd_var (pv 0)) (xd_var (pv 2))))
      xss_nil))
theorem ok__law_take (T : Txt0 K mg f__law_hand f__law_all_lengths f__law_union f__law_is_normal f_prefix_length f_encode_state f_union_of f_is_integer_within f_is_token f_decode_token f_normalize_token f__law_right f__law_take f__law_shuffled f__law_orders f__law_pick f__law_names f_law c_PagesError c_BadToken i_BadToken e__law_hand e__law_all_lengths e__law_union e__law_is_normal e_prefix_length e_encode_state e_union_of e_is_integer_within e_is_token e_decode_token e_normalize_token e__law_right e__law_take e__law_shuffled e__law_orders e__law_pick e__law_names e_law j_BadToken) : FnG P w K mg base 1 f__law_take e__law_take ["_law_hand_here", "_law_many"] (spD K F__law_take) := by
  exact okD T.d__law_take sc__law_take (by decide) fun cdv A outer s H E hc hg hr =>
      (xss_cons (xs_if (xb_cmp o_gt q2 (xd_ix (xd_var (pv 0)) xd_int (fun _ _ => rfl)) xd_int (nomark _)) (xss_cons (xs_set (i := 2) (by decide) sc__law_take.nd rfl (.inl rfl) (xd_op o_mod q2 (xd_ix (xd_var (pv 0)) xd_int (fun _ _ => rfl)) (xd_var (pv 1))))
      (xss_cons (xs_setix (pv 0) (xd_op o_fdiv q2 (xd_ix (xd_var (pv 0)) xd_int (fun _ _ => rfl)) (xd_var (pv 1))) xd_int)
      (xss_cons (xs_ret (xd_var (pv 2)))
      xss_nil))) xss_nil)
      (xss_cons (xs_setix (pv 0) (xd_op o_add q2 (xd_ix (xd_var (pv 0)) xd_int (fun _ _ => rfl)) xd_int) xd_int)
      (xss_cons (xs_set (i := 3) (by decide) sc__law_take.nd rfl (.inl rfl) (xd_ix (xd_var (pv 0)) xd_int (fun _ _ => rfl)))
      (xss_cons (xs_set (i := 4) (by decide) sc__law_take.nd rfl (.inl rfl) (xd_ix (xd_lock (xf_lst (xa_cons xd_int (xa_cons xd_int (xa_cons xd_int (xa_cons xd_int (xa_cons xd_int (xa_cons xd_int xa_nil)))))))) (xd_op o_mod q2 (xd_var (pv 3)) xd_int) (fun _ _ => rfl)))
      (xss_cons (xs_set (i := 5) (by decide) sc__law_take.nd rfl (.inl rfl) (xd_op o_mod q2 (xd_op o_pow q2 (xd_op o_add q2 (xd_op o_add q2 (xd_ix (xd_var (pv 0)) xd_int (fun _ _ => rfl)) (xd_op o_mulA q2 (xd_op o_mulA q2 xd_int (xd_var (pv 3))) (xd_var (pv 3)))) (xd_op o_mulA q2 xd_int (xd_var (pv 3)))) xd_int) (xd_var (pv 4))))
      (xss_cons (xs_ret (xd_op o_mod q2 (xd_op o_fdiv q2 (xd_op o_mod q2 (xd_op o_mulA q2 (xd_var (pv 5)) (xd_op o_add q2 (xd_op o_mod q2 (xd_var (pv 5)) xd_int) (xd_op o_mulA q2 xd_int (xd_var (pv 3))))) xd_int) xd_int) (xd_var (pv 1))))
      xss_nil))))))
theorem ok__law_is_normal (T : Txt0 K mg f__law_hand f__law_all_lengths f__law_union f__law_is_normal f_prefix_length f_encode_state f_union_of f_is_integer_within f_is_token f_decode_token f_normalize_token f__law_right f__law_take f__law_shuffled f__law_orders f__law_pick f__law_names f_law c_PagesError c_BadToken i_BadToken e__law_hand e__law_all_lengths e__law_union e__law_is_normal e_prefix_length e_encode_state e_union_of e_is_integer_within e_is_token e_decode_token e_normalize_token e__law_right e__law_take e__law_shuffled e__law_orders e__law_pick e__law_names e_law j_BadToken) : FnG P w K mg base 2 f__law_is_normal e__law_is_normal ["_law_orders_here", "_law_lengths"] (spD K F__law_is_normal) := by
  have G__law_union := ok__law_union (P := P) (w := w) (base := base) T
  exact okD T.d__law_is_normal sc__law_is_normal (by decide) fun cdv A outer s H E hc hg hr =>
      (xss_cons (xs_set (i := 2) (by decide) sc__law_is_normal.nd rfl (.inl rfl) (xd_call G__law_union hg (hr.mono (by decide)) (by rfl) T.g__law_union T.d__law_union.kp T.b__law_union (xa_cons (xd_var (pv 0)) (xa_cons (xd_var (pv 1)) xa_nil))))
      (xss_cons (xs_for PassesOwn.never rfl (xi_enum (by rfl) T.m_enumerate (xa_cons (xd_var (pv 0)) xa_nil)) (xg_tup (by rfl) (xgs_cons (xg_name (i := 3) (by decide) sc__law_is_normal.nd rfl (.inl rfl)) (xgs_cons (xg_name (i := 4) (by decide) sc__law_is_normal.nd rfl (.inl rfl)) xgs_nil))) (xss_cons (xs_for PassesOwn.never rfl (xi_range2 (by rfl) T.m_range (xa_cons (xd_op o_add q2 (xd_ix (xd_var (pv 1)) (xd_var (pv 3)) (fun _ _ => rfl)) xd_int) (xa_cons (xd_op o_add q2 (xd_callB c_len (by rfl) T.m_len (by decide +kernel) (xa_cons (xd_var (pv 4)) xa_nil)) xd_int) xa_nil))) (xg_name (i := 5) (by decide) sc__law_is_normal.nd rfl (.inl rfl)) (xss_cons (xs_if (xb_cmp (o_eq hr.units) q2 (xd_call G__law_union hg (hr.mono (by decide)) (by rfl) T.g__law_union T.d__law_union.kp T.b__law_union (xa_cons (xd_var (pv 0)) (xa_cons (xd_op o_add q2 (xd_op o_add q2 (xd_sl (xd_var (pv 1)) xp_no (xp_so (xd_var (pv 3)))) (xd_tup (xa_cons (xd_var (pv 5)) xa_nil))) (xd_sl (xd_var (pv 1)) (xp_so (xd_op o_add q2 (xd_var (pv 3)) xd_int)) xp_no)) xa_nil))) (xd_var (pv 2)) (nomark _)) (xss_cons (xs_ret xd_bl)
      xss_nil) xss_nil)
      xss_nil))
      xss_nil))
      (xss_cons (xs_ret xd_bl)
      xss_nil)))
theorem ok_encode_state (T : Txt0 K mg f__law_hand f__law_all_lengths f__law_union f__law_is_normal f_prefix_length f_encode_state f_union_of f_is_integer_within f_is_token f_decode_token f_normalize_token f__law_right f__law_take f__law_shuffled f__law_orders f__law_pick f__law_names f_law c_PagesError c_BadToken i_BadToken e__law_hand e__law_all_lengths e__law_union e__law_is_normal e_prefix_length e_encode_state e_union_of e_is_integer_within e_is_token e_decode_token e_normalize_token e__law_right e__law_take e__law_shuffled e__law_orders e__law_pick e__law_names e_law j_BadToken) : FnG P w K mg base 2 f_encode_state e_encode_state ["orders", "rows"] (spD K F_encode_state) := by
  have G_prefix_length := ok_prefix_length (P := P) (w := w) (base := base) T
  exact okD T.d_encode_state sc_encode_state (by decide) fun cdv A outer s H E hc hg hr =>
      (xss_cons (xs_ret (xd_callT c_tuple (by rfl) T.m_tuple (by decide +kernel) (xa_cons (xd_lock (xf_comp (own := [("order", 2)]) (vs := [2]) rfl sc_encode_state.nd rfl (by decide) (by decide) (xi_seq (xd_var (pv 0))) (blkOk_by (own := [("order", 2)]) (N := n_encode_state) (sc := defScope s_encode_state) (by decide +kernel)) (fun _ _ _ _ _ => (xg_name (i := 2) (by decide) sc_encode_state.nd rfl (by first | exact .inl rfl | exact .inr rfl))) (fun _ _ _ _ _ => xts_nil) (fun _ _ _ _ _ => (xd_call G_prefix_length hg (hr.mono (by decide)) (by rfl) T.g_prefix_length T.d_prefix_length.kp T.b_prefix_length (xa_cons (xd_var (pv 2)) (xa_cons (xd_var (pv 2)) (xa_cons (xd_var (pv 1)) xa_nil))))))) xa_nil)))
      xss_nil)
theorem ok_is_token (T : Txt0 K mg f__law_hand f__law_all_lengths f__law_union f__law_is_normal f_prefix_length f_encode_state f_union_of f_is_integer_within f_is_token f_decode_token f_normalize_token f__law_right f__law_take f__law_shuffled f__law_orders f__law_pick f__law_names f_law c_PagesError c_BadToken i_BadToken e__law_hand e__law_all_lengths e__law_union e__law_is_normal e_prefix_length e_encode_state e_union_of e_is_integer_within e_is_token e_decode_token e_normalize_token e__law_right e__law_take e__law_shuffled e__law_orders e__law_pick e__law_names e_law j_BadToken) : FnG P w K mg base 2 f_is_token e_is_token ["orders", "value"] (spD K F_is_token) := by
  have G_is_integer_within := ok_is_integer_within (P := P) (w := w) (base := base) T
  exact okD T.d_is_token sc_is_token (by decide) fun cdv A outer s H E hc hg hr =>
      (xss_cons (xs_if (PW.pt (xw_or (xb_not (xb_val (xd_isi (T := "tuple") (by decide) (by rfl) T.m_isinstance (pe_bltn (v := .ty "tuple") (by rfl) T.m_tuple (by decide +kernel) rfl) (xd_var (pv 1))))) (xw_or1 (xb_cmp (o_ne hr.units) q2 (xd_callB c_len (by rfl) T.m_len (by decide +kernel) (xa_cons (xd_var (pv 1)) xa_nil)) (xd_callB c_len (by rfl) T.m_len (by decide +kernel) (xa_cons (xd_var (pv 0)) xa_nil)) (nomark _))))) (xss_cons (xs_ret xd_bl)
      xss_nil) xss_nil)
      (xss_cons (xs_ret (xd_callB (c_all rfl) (by rfl) T.m_all (by decide +kernel) (xa_cons (xd_lock (xf_comp (own := [("order", 2), ("many", 3)]) (vs := [2, 3]) rfl sc_is_token.nd rfl (by decide) (by decide) (xi_zip (by rfl) T.m_zip (xa_cons (xd_var (pv 0)) (xa_cons (xd_var (pv 1)) xa_nil))) (blkOk_by (own := [("order", 2), ("many", 3)]) (N := n_is_token) (sc := defScope s_is_token) (by decide +kernel)) (fun _ _ _ _ _ => (xg_tup (by rfl) (xgs_cons (xg_name (i := 2) (by decide) sc_is_token.nd rfl (by first | exact .inl rfl | exact .inr rfl)) (xgs_cons (xg_name (i := 3) (by decide) sc_is_token.nd rfl (by first | exact .inl rfl | exact .inr rfl)) xgs_nil)))) (fun _ _ _ _ _ => xts_nil) (fun _ _ _ _ _ => (xd_call G_is_integer_within hg (hr.mono (by decide)) (by rfl) T.g_is_integer_within T.d_is_integer_within.kp T.b_is_integer_within (xa_cons (xd_var (pv 3)) (xa_cons xd_int (xa_cons (xd_callB c_len (by rfl) T.m_len (by decide +kernel) (xa_cons (xd_var (pv 2)) xa_nil)) xa_nil))))))) xa_nil)))
      xss_nil))
theorem ok__law_shuffled (T : Txt0 K mg f__law_hand f__law_all_lengths f__law_union f__law_is_normal f_prefix_length f_encode_state f_union_of f_is_integer_within f_is_token f_decode_token f_normalize_token f__law_right f__law_take f__law_shuffled f__law_orders f__law_pick f__law_names f_law c_PagesError c_BadToken i_BadToken e__law_hand e__law_all_lengths e__law_union e__law_is_normal e_prefix_length e_encode_state e_union_of e_is_integer_within e_is_token e_decode_token e_normalize_token e__law_right e__law_take e__law_shuffled e__law_orders e__law_pick e__law_names e_law j_BadToken) : FnG P w K mg base 2 f__law_shuffled e__law_shuffled ["_law_hand_here", "_law_items"] (spD K F__law_shuffled) := by
  have G__law_take := ok__law_take (P := P) (w := w) (base := base) T
  exact okD T.d__law_shuffled sc__law_shuffled (by decide) fun cdv A outer s H E hc hg hr =>
      (xss_cons (xs_par (i := 2) (j := 3) (ma := (.ff (fN listD (eCons (eVar 1) eNil)))) (mb := (.ff (fLst eNil))) (by decide) (by decide) rfl sc__law_shuffled.nd rfl rfl (by decide) rfl rfl (xf_callT c_list (by rfl) T.m_list (by decide +kernel) (xa_cons (xd_var (pv 1)) xa_nil)) (xf_lst xa_nil) (fun h => ps_par (by rfl) sc__law_shuffled.nd rfl rfl (by decide) rfl rfl h (by rfl)))
      (xss_cons (xs_while 1000 PassesOwn.never (xb_cmp (o_ne hr.units) q2 (xd_var (pv 2)) (xd_lock (xf_lst xa_nil)) (nomark _)) (xss_cons (xs_expr (xd_mut m_app PySem.F.slot_list_append PySem.F.type_list_append (pv 3) (xa_cons (xd_mut m_pop PySem.F.slot_list_pop PySem.F.type_list_pop (pv 2) (xa_cons (xd_call G__law_take hg (hr.mono (by decide)) (by rfl) T.g__law_take T.d__law_take.kp T.b__law_take (xa_cons (xd_var (pv 0)) (xa_cons (xd_callB c_len (by rfl) T.m_len (by decide +kernel) (xa_cons (xd_var (pv 2)) xa_nil)) xa_nil))) xa_nil)) xa_nil)))
      xss_nil))
      (xss_cons (xs_ret (xd_var (pv 3)))
      xss_nil)))
theorem ok__law_pick (T : Txt0 K mg f__law_hand f__law_all_lengths f__law_union f__law_is_normal f_prefix_length f_encode_state f_union_of f_is_integer_within f_is_token f_decode_token f_normalize_token f__law_right f__law_take f__law_shuffled f__law_orders f__law_pick f__law_names f_law c_PagesError c_BadToken i_BadToken e__law_hand e__law_all_lengths e__law_union e__law_is_normal e_prefix_length e_encode_state e_union_of e_is_integer_within e_is_token e_decode_token e_normalize_token e__law_right e__law_take e__law_shuffled e__law_orders e__law_pick e__law_names e_law j_BadToken) : FnG P w K mg base 2 f__law_pick e__law_pick ["_law_hand_here", "_law_items"] (spD K F__law_pick) := by
  have G__law_take := ok__law_take (P := P) (w := w) (base := base) T
  exact okD T.d__law_pick sc__law_pick (by decide) fun cdv A outer s H E hc hg hr =>
      (xss_cons (xs_ret (xd_ix (xd_var (pv 1)) (xd_call G__law_take hg (hr.mono (by decide)) (by rfl) T.g__law_take T.d__law_take.kp T.b__law_take (xa_cons (xd_var (pv 0)) (xa_cons (xd_callB c_len (by rfl) T.m_len (by decide +kernel) (xa_cons (xd_var (pv 1)) xa_nil)) xa_nil))) (fun _ _ => rfl)))
      xss_nil)
theorem ok_decode_token (T : Txt0 K mg f__law_hand f__law_all_lengths f__law_union f__law_is_normal f_prefix_length f_encode_state f_union_of f_is_integer_within f_is_token f_decode_token f_normalize_token f__law_right f__law_take f__law_shuffled f__law_orders f__law_pick f__law_names f_law c_PagesError c_BadToken i_BadToken e__law_hand e__law_all_lengths e__law_union e__law_is_normal e_prefix_length e_encode_state e_union_of e_is_integer_within e_is_token e_decode_token e_normalize_token e__law_right e__law_take e__law_shuffled e__law_orders e__law_pick e__law_names e_law j_BadToken) : FnGX P w K mg base 3 f_decode_token e_decode_token ["orders", "token"] (spX K F_decode_token) := by
  have G_union_of := ok_union_of (P := P) (w := w) (base := base) T
  have G_is_token := ok_is_token (P := P) (w := w) (base := base) T
  exact okDX T.d_decode_token sc_decode_token (by decide) fun cdv A outer s H E hg hr =>
      (xss_cons (xs_if (xb_not (xb_val (xd_call G_is_token hg (hr.mono (by decide)) (by rfl) T.g_is_token T.d_is_token.kp T.b_is_token (xa_cons (xd_var (pv 0)) (xa_cons (xd_var (pv 1)) xa_nil))))) (xss_cons (xs_raise rfl (takes_of rfl rfl rfl rfl) (fun _ _ _ _ z => z) T.x_BadToken (T.i_BadToken _ _ _) T.bi_BadToken (hr.mono (by decide)) (by rfl) (xa_cons (xd_var (pv 1)) xa_nil))
      xss_nil) xss_nil)
      (xss_cons (xs_ret (xd_call G_union_of hg (hr.mono (by decide)) (by rfl) T.g_union_of T.d_union_of.kp T.b_union_of (xa_cons (xd_lock (xf_comp (own := [("order", 2), ("many", 3)]) (vs := [2, 3]) rfl sc_decode_token.nd rfl (by decide) (by decide) (xi_zip (by rfl) T.m_zip (xa_cons (xd_var (pv 0)) (xa_cons (xd_var (pv 1)) xa_nil))) (blkOk_by (own := [("order", 2), ("many", 3)]) (N := n_decode_token) (sc := defScope s_decode_token) (by decide +kernel)) (fun _ _ _ _ _ => (xg_tup (by rfl) (xgs_cons (xg_name (i := 2) (by decide) sc_decode_token.nd rfl (by first | exact .inl rfl | exact .inr rfl)) (xgs_cons (xg_name (i := 3) (by decide) sc_decode_token.nd rfl (by first | exact .inl rfl | exact .inr rfl)) xgs_nil)))) (fun _ _ _ _ _ => xts_nil) (fun _ _ _ _ _ => (xd_sl (xd_var (pv 2)) xp_no (xp_so (xd_var (pv 3))))))) xa_nil)))
      xss_nil))
theorem ok__law_orders (T : Txt0 K mg f__law_hand f__law_all_lengths f__law_union f__law_is_normal f_prefix_length f_encode_state f_union_of f_is_integer_within f_is_token f_decode_token f_normalize_token f__law_right f__law_take f__law_shuffled f__law_orders f__law_pick f__law_names f_law c_PagesError c_BadToken i_BadToken e__law_hand e__law_all_lengths e__law_union e__law_is_normal e_prefix_length e_encode_state e_union_of e_is_integer_within e_is_token e_decode_token e_normalize_token e__law_right e__law_take e__law_shuffled e__law_orders e__law_pick e__law_names e_law j_BadToken) : FnG P w K mg base 3 f__law_orders e__law_orders ["_law_hand_here", "_law_most", "_law_rows"] (spD K F__law_orders) := by
  have G__law_take := ok__law_take (P := P) (w := w) (base := base) T
  have G__law_shuffled := ok__law_shuffled (P := P) (w := w) (base := base) T
  exact okD T.d__law_orders sc__law_orders (by decide) fun cdv A outer s H E hc hg hr =>
      (xss_cons (xs_setF (i := 3) (by decide) sc__law_orders.nd rfl (.inl rfl) (xf_lst xa_nil))
      (xss_cons (xs_for PassesOwn.never rfl (xi_range1 (by rfl) T.m_range (xa_cons (xd_call G__law_take hg (hr.mono (by decide)) (by rfl) T.g__law_take T.d__law_take.kp T.b__law_take (xa_cons (xd_var (pv 0)) (xa_cons (xd_op o_add q2 (xd_var (pv 1)) xd_int) xa_nil))) xa_nil)) (xg_name (i := 4) (by decide) sc__law_orders.nd rfl (.inl rfl)) (xss_cons (xs_set (i := 5) (by decide) sc__law_orders.nd rfl (.inl rfl) (xd_lock (xf_call G__law_shuffled hg (hr.mono (by decide)) (by rfl) T.g__law_shuffled T.d__law_shuffled.kp T.b__law_shuffled (xa_cons (xd_var (pv 0)) (xa_cons (xd_var (pv 2)) xa_nil)))))
      (xss_cons (xs_expr (xd_mut m_app PySem.F.slot_list_append PySem.F.type_list_append (pv 3) (xa_cons (xd_callT c_tuple (by rfl) T.m_tuple (by decide +kernel) (xa_cons (xd_lock (xf_sl (xd_var (pv 5)) xp_no (xp_so (xd_call G__law_take hg (hr.mono (by decide)) (by rfl) T.g__law_take T.d__law_take.kp T.b__law_take (xa_cons (xd_var (pv 0)) (xa_cons (xd_op o_add q2 (xd_callB c_len (by rfl) T.m_len (by decide +kernel) (xa_cons (xd_var (pv 5)) xa_nil)) xd_int) xa_nil)))))) xa_nil)) xa_nil)))
      xss_nil)))
      (xss_cons (xs_ret (xd_callT c_tuple (by rfl) T.m_tuple (by decide +kernel) (xa_cons (xd_var (pv 3)) xa_nil)))
      xss_nil)))
theorem ok__law_names (T : Txt0 K mg f__law_hand f__law_all_lengths f__law_union f__law_is_normal f_prefix_length f_encode_state f_union_of f_is_integer_within f_is_token f_decode_token f_normalize_token f__law_right f__law_take f__law_shuffled f__law_orders f__law_pick f__law_names f_law c_PagesError c_BadToken i_BadToken e__law_hand e__law_all_lengths e__law_union e__law_is_normal e_prefix_length e_encode_state e_union_of e_is_integer_within e_is_token e_decode_token e_normalize_token e__law_right e__law_take e__law_shuffled e__law_orders e__law_pick e__law_names e_law j_BadToken) : FnG P w K mg base 3 f__law_names e__law_names ["_law_hand_here", "_law_count"] (spD K F__law_names) := by
  have G__law_take := ok__law_take (P := P) (w := w) (base := base) T
  have G__law_pick := ok__law_pick (P := P) (w := w) (base := base) T
  exact okD T.d__law_names sc__law_names (by decide) fun cdv A outer s H E hc hg hr =>
      (xss_cons (xs_set (i := 2) (by decide) sc__law_names.nd rfl (.inr rfl) xd_str)
      (xss_cons (xs_asg (xd_tup (xa_cons (xd_call G__law_take hg (hr.mono (by decide)) (by rfl) T.g__law_take T.d__law_take.kp T.b__law_take (xa_cons (xd_var (pv 0)) (xa_cons xd_int xa_nil))) (xa_cons (xd_call G__law_pick hg (hr.mono (by decide)) (by rfl) T.g__law_pick T.d__law_pick.kp T.b__law_pick (xa_cons (xd_var (pv 0)) (xa_cons (xd_lock (xf_lst (xa_cons xd_int (xa_cons xd_int (xa_cons xd_int (xa_cons xd_int (xa_cons xd_int (xa_cons xd_int (xa_cons xd_int xa_nil))))))))) xa_nil))) xa_nil))) (xg_tup (by rfl) (xgs_cons (xg_name (i := 3) (by decide) sc__law_names.nd rfl (.inr rfl)) (xgs_cons (xg_name (i := 4) (by decide) sc__law_names.nd rfl (.inr rfl)) xgs_nil))))
      (xss_cons (xs_set (i := 5) (by decide) sc__law_names.nd rfl (.inr rfl) (xd_op o_mulA q2 (xd_call G__law_pick hg (hr.mono (by decide)) (by rfl) T.g__law_pick T.d__law_pick.kp T.b__law_pick (xa_cons (xd_var (pv 0)) (xa_cons (xd_var (pv 2)) xa_nil))) (xd_call G__law_pick hg (hr.mono (by decide)) (by rfl) T.g__law_pick T.d__law_pick.kp T.b__law_pick (xa_cons (xd_var (pv 0)) (xa_cons (xd_lock (xf_lst (xa_cons xd_int (xa_cons xd_int (xa_cons xd_int (xa_cons xd_int (xa_cons xd_int xa_nil))))))) xa_nil)))))
      (xss_cons (xs_set (i := 6) (by decide) sc__law_names.nd rfl (.inr rfl) (xd_call G__law_take hg (hr.mono (by decide)) (by rfl) T.g__law_take T.d__law_take.kp T.b__law_take (xa_cons (xd_var (pv 0)) (xa_cons (xd_op o_add q2 (xd_callB c_len (by rfl) T.m_len (by decide +kernel) (xa_cons (xd_var (pv 5)) xa_nil)) xd_int) xa_nil))))
      (xss_cons (xs_retF (xf_comp (own := [("_law_nth", 7)]) (vs := [7]) rfl sc__law_names.nd rfl (by decide) (by decide) (xi_range1 (by rfl) T.m_range (xa_cons (xd_var (pv 1)) xa_nil)) (blkOk_by (own := [("_law_nth", 7)]) (N := n__law_names) (sc := defScope s__law_names) (by decide +kernel)) (fun _ _ _ _ _ => (xg_name (i := 7) (by decide) sc__law_names.nd rfl (by first | exact .inl rfl | exact .inr rfl))) (fun _ _ _ _ _ => xts_nil) (fun _ _ _ _ _ => (xd_op o_add q2 (xd_op o_add q2 (xd_sl (xd_var (pv 5)) xp_no (xp_so (xd_var (pv 6)))) (xd_ix (xd_var (pv 2)) (xd_op o_mod q2 (xd_op o_add q2 (xd_var (pv 3)) (xd_op o_mulA q2 (xd_var (pv 4)) (xd_var (pv 7)))) xd_int) (fun _ _ => rfl))) (xd_sl (xd_var (pv 5)) (xp_so (xd_var (pv 6))) xp_no)))))
      xss_nil)))))
theorem ok_normalize_token (T : Txt0 K mg f__law_hand f__law_all_lengths f__law_union f__law_is_normal f_prefix_length f_encode_state f_union_of f_is_integer_within f_is_token f_decode_token f_normalize_token f__law_right f__law_take f__law_shuffled f__law_orders f__law_pick f__law_names f_law c_PagesError c_BadToken i_BadToken e__law_hand e__law_all_lengths e__law_union e__law_is_normal e_prefix_length e_encode_state e_union_of e_is_integer_within e_is_token e_decode_token e_normalize_token e__law_right e__law_take e__law_shuffled e__law_orders e__law_pick e__law_names e_law j_BadToken) : FnGX P w K mg base 4 f_normalize_token e_normalize_token ["orders", "token"] (spX K F_normalize_token) := by
  have G_encode_state := ok_encode_state (P := P) (w := w) (base := base) T
  have G_decode_token := ok_decode_token (P := P) (w := w) (base := base) T
  exact okDX T.d_normalize_token sc_normalize_token (by decide) fun cdv A outer s H E hg hr =>
      (xss_cons (xs_ret (xd_call G_encode_state hg (hr.mono (by decide)) (by rfl) T.g_encode_state T.d_encode_state.kp T.b_encode_state (xa_cons (xd_var (pv 0)) (xa_cons (xd_callX (takes_of rfl rfl rfl rfl) (fun _ _ _ _ z => z) G_decode_token hg (hr.mono (by decide)) (by rfl) T.g_decode_token T.d_decode_token.kp T.b_decode_token (xa_cons (xd_var (pv 0)) (xa_cons (xd_var (pv 1)) xa_nil))) xa_nil))))
      xss_nil)
theorem ok__law_right (T : Txt0 K mg f__law_hand f__law_all_lengths f__law_union f__law_is_normal f_prefix_length f_encode_state f_union_of f_is_integer_within f_is_token f_decode_token f_normalize_token f__law_right f__law_take f__law_shuffled f__law_orders f__law_pick f__law_names f_law c_PagesError c_BadToken i_BadToken e__law_hand e__law_all_lengths e__law_union e__law_is_normal e_prefix_length e_encode_state e_union_of e_is_integer_within e_is_token e_decode_token e_normalize_token e__law_right e__law_take e__law_shuffled e__law_orders e__law_pick e__law_names e_law j_BadToken) (HW : HsOk P w) : FnG P w K mg base 5 f__law_right e__law_right ["_law_orders_here"] (spD K F__law_right) := by
  have G__law_all_lengths := ok__law_all_lengths (P := P) (w := w) (base := base) T
  have G__law_is_normal := ok__law_is_normal (P := P) (w := w) (base := base) T
  have G__law_union := ok__law_union (P := P) (w := w) (base := base) T
  have G_encode_state := ok_encode_state (P := P) (w := w) (base := base) T
  have G_normalize_token := ok_normalize_token (P := P) (w := w) (base := base) T
  exact okD T.d__law_right sc__law_right (by decide) fun cdv A outer s H E hc hg hr =>
      (xss_cons (xs_set (i := 1) (by decide) sc__law_right.nd rfl (.inl rfl) (xd_call G__law_all_lengths hg (hr.mono (by decide)) (by rfl) T.g__law_all_lengths T.d__law_all_lengths.kp T.b__law_all_lengths (xa_cons (xd_var (pv 0)) xa_nil)))
      (xss_cons (xs_setF (i := 2) (by decide) sc__law_right.nd rfl (.inl rfl) (xf_newT0 HW))
      (xss_cons (xs_for PassesOwn.never rfl (xi_seq (xd_var (pv 1))) (xg_name (i := 3) (by decide) sc__law_right.nd rfl (.inl rfl)) (xss_cons (xs_if (xb_val (xd_call G__law_is_normal hg (hr.mono (by decide)) (by rfl) T.g__law_is_normal T.d__law_is_normal.kp T.b__law_is_normal (xa_cons (xd_var (pv 0)) (xa_cons (xd_var (pv 3)) xa_nil)))) (xss_cons (xs_expr (xd_sdA HW (units65 hr) (pv 2) (xd_call G__law_union hg (hr.mono (by decide)) (by rfl) T.g__law_union T.d__law_union.kp T.b__law_union (xa_cons (xd_var (pv 0)) (xa_cons (xd_var (pv 3)) xa_nil))) (pv 3) ⟨by rfl, by rfl, by rfl, by rfl⟩))
      xss_nil) xss_nil)
      xss_nil))
      (xss_cons (xs_for PassesOwn.never rfl (xi_seq (xd_var (pv 1))) (xg_name (i := 3) (by decide) sc__law_right.nd rfl (.inl rfl)) (xss_cons (xs_set (i := 4) (by decide) sc__law_right.nd rfl (.inl rfl) (xd_call G__law_union hg (hr.mono (by decide)) (by rfl) T.g__law_union T.d__law_union.kp T.b__law_union (xa_cons (xd_var (pv 0)) (xa_cons (xd_var (pv 3)) xa_nil))))
      (xss_cons (xs_set (i := 5) (by decide) sc__law_right.nd rfl (.inl rfl) (xd_getT HW (units65 hr) (pv 2) (xd_var (pv 4)) ⟨by rfl, by rfl, by rfl, by rfl⟩))
      (xss_cons (xs_if (PW.pt (xw_or (xb_cmp (o_ne hr.units) q2 (xd_callB c_len (by rfl) T.m_len (by decide +kernel) (xa_cons (xd_var (pv 5)) xa_nil)) xd_int (nomark _)) (xw_or1 (xb_cmp (o_ne hr.units) q2 (xd_callB (c_repr hg hr.units) (by rfl) T.m_repr (by decide +kernel) (xa_cons (xd_callX L2.takes0 (fun _ _ _ _ z => z.elim) G_normalize_token hg (hr.mono (by decide)) (by rfl) T.g_normalize_token T.d_normalize_token.kp T.b_normalize_token (xa_cons (xd_var (pv 0)) (xa_cons (xd_var (pv 3)) xa_nil))) xa_nil)) (xd_callB (c_repr hg hr.units) (by rfl) T.m_repr (by decide +kernel) (xa_cons (xd_ix (xd_var (pv 5)) xd_int (fun _ _ => rfl)) xa_nil)) (nomark _))))) (xss_cons (xs_ret xd_bl)
      xss_nil) xss_nil)
      (xss_cons (xs_if (PW.pt (xw_or (xb_cmp (o_ne hr.units) q2 (xd_call G_encode_state hg (hr.mono (by decide)) (by rfl) T.g_encode_state T.d_encode_state.kp T.b_encode_state (xa_cons (xd_var (pv 0)) (xa_cons (xd_var (pv 4)) xa_nil))) (xd_ix (xd_var (pv 5)) xd_int (fun _ _ => rfl)) (nomark _)) (xw_or1 (xb_cmp (o_ne hr.units) q2 (xd_callX L2.takes0 (fun _ _ _ _ z => z.elim) G_normalize_token hg (hr.mono (by decide)) (by rfl) T.g_normalize_token T.d_normalize_token.kp T.b_normalize_token (xa_cons (xd_var (pv 0)) (xa_cons (xd_ix (xd_var (pv 5)) xd_int (fun _ _ => rfl)) xa_nil))) (xd_ix (xd_var (pv 5)) xd_int (fun _ _ => rfl)) (nomark _))))) (xss_cons (xs_ret xd_bl)
      xss_nil) xss_nil)
      xss_nil)))))
      (xss_cons (xs_ret xd_bl)
      xss_nil)))))
theorem ok_law (T : Txt0 K mg f__law_hand f__law_all_lengths f__law_union f__law_is_normal f_prefix_length f_encode_state f_union_of f_is_integer_within f_is_token f_decode_token f_normalize_token f__law_right f__law_take f__law_shuffled f__law_orders f__law_pick f__law_names f_law c_PagesError c_BadToken i_BadToken e__law_hand e__law_all_lengths e__law_union e__law_is_normal e_prefix_length e_encode_state e_union_of e_is_integer_within e_is_token e_decode_token e_normalize_token e__law_right e__law_take e__law_shuffled e__law_orders e__law_pick e__law_names e_law j_BadToken) (HW : HsOk P w) : FnG P w K mg base 6 f_law e_law ["_law_script"] (spD K F_law) := by
  have G__law_hand := ok__law_hand (P := P) (w := w) (base := base) T
  have G__law_right := ok__law_right (P := P) (w := w) (base := base) T HW
  have G__law_orders := ok__law_orders (P := P) (w := w) (base := base) T
  have G__law_names := ok__law_names (P := P) (w := w) (base := base) T
  have G__law_take := ok__law_take (P := P) (w := w) (base := base) T
  exact okD T.d_law sc_law (by decide) fun cdv A outer s H E hc hg hr =>
      (xss_cons (xs_for PassesOwn.never rfl (xi_range1 (by rfl) T.m_range (xa_cons (xd_callB (c_max2 rfl) (by rfl) T.m_max (by decide +kernel) (xa_cons xd_int (xa_cons (xd_callB (c_min2 rfl) (by rfl) T.m_min (by decide +kernel) (xa_cons xd_int (xa_cons (xd_callB c_len (by rfl) T.m_len (by decide +kernel) (xa_cons (xd_var (pv 0)) xa_nil)) xa_nil))) xa_nil))) xa_nil)) (xg_name (i := 1) (by decide) sc_law.nd rfl (.inl rfl)) (xss_cons (xs_setF (i := 2) (by decide) sc_law.nd rfl (.inl rfl) (xf_call G__law_hand hg (hr.mono (by decide)) (by rfl) T.g__law_hand T.d__law_hand.kp T.b__law_hand (xa_cons (xd_var (pv 0)) (xa_cons (xd_var (pv 1)) xa_nil))))
      (xss_cons (xs_for PassesOwn.never rfl (xi_range1 (by rfl) T.m_range (xa_cons xd_int xa_nil)) (xg_name (i := 3) (by decide) sc_law.nd rfl (.inl rfl)) (xss_cons (xs_if (xb_not (xb_val (xd_call G__law_right hg (hr.mono (by decide)) (by rfl) T.g__law_right T.d__law_right.kp T.b__law_right (xa_cons (xd_call G__law_orders hg (hr.mono (by decide)) (by rfl) T.g__law_orders T.d__law_orders.kp T.b__law_orders (xa_cons (xd_var (pv 2)) (xa_cons xd_int (xa_cons (xd_lock (xf_call G__law_names hg (hr.mono (by decide)) (by rfl) T.g__law_names T.d__law_names.kp T.b__law_names (xa_cons (xd_var (pv 2)) (xa_cons (xd_op o_add q2 xd_int (xd_call G__law_take hg (hr.mono (by decide)) (by rfl) T.g__law_take T.d__law_take.kp T.b__law_take (xa_cons (xd_var (pv 2)) (xa_cons xd_int xa_nil)))) xa_nil)))) xa_nil)))) xa_nil)))) (xss_cons (xs_ret xd_bl)
      xss_nil) xss_nil)
      xss_nil))
      xss_nil)))
      (xss_cons (xs_ret xd_bl)
      xss_nil))
end
end Z
namespace Z
open PySem PySem.Spec PyProof.Rows L2 Gd Q
theorem scr_of {K : PySem.W.Frag} {H : Hp} {a : Addr} {ns : List Int} (hO : Only H) (h : SqL K H a (ns.map V.int)) : ScR K H a ns := by
  rcases h with (h | ⟨o, h⟩) | h
  · rcases hO a with e | ⟨o, xs, e⟩
    · rw [e] at h
      cases h
    · rw [e] at h
      cases h
  · exact .inl ⟨o, h⟩
  · exact .inr (.inr h)
theorem law_want {P : Program} {w : World} {K : PySem.W.Frag} {H : Hp} {a : Addr} {ns : List Int} (hO : Only H) (h : SqL K H a (ns.map V.int)) (hl : ns.length ≤ 63) : @spD (tblW P w) K F_law [.ref a] H (fun v _ => v = .bl true) fun _ _ _ => False := by
  letI : Tbl := tblW P w
  refine ⟨[.dat (scrD ns)], .dat (.bool true), [.dat (scrD ns)], ⟨rfl, ?_, ?_, ?_, ⟨fun q hq => (nomatch hq), trivial⟩, ?_⟩, law_true hl, ?_⟩
  · intro i d e
    cases i with
    | zero =>
      cases e
      exact ⟨.ref a, rfl, .scr (scr_of hO h)⟩
    | succ j => cases e
  · intro i d e
    cases i with
    | zero => cases e
    | succ j => cases e
  · intro i j d d' p e
    cases i with
    | zero => cases e
    | succ j => cases e
  · intro i c f d e
    cases i with
    | zero => cases e
    | succ j => cases e
  · intro v H' st sr
    cases sr with
    | dat im =>
      cases im
      rfl
theorem all_mk {l : PySem.W.OpenLaw} {w : World} {K : PySem.W.Frag} {h : Heap} {mg : Str → Option Value} {fa f1 f2 f3 f4 f5 f6 f7 f8 f9 f10 f11 f12 f13 f14 f15 f16 f17 f18 : Addr} (X : K.In h) (G : h.Ns mainGlobals mg) (hfa : mg "law" = some (.ref fa))
    {od1 an1 od2 an2 od3 an3 od4 an4 od5 an5 od6 an6 od7 an7 od8 an8 od9 an9 od10 an10 od11 an11 od12 an12 od13 an13 od14 an14 od15 an15 od16 an16 od17 an17 od18 an18 : Option Addr} {sl1 sl2 sl3 sl4 sl5 sl6 sl7 sl8 sl9 sl10 sl11 sl12 sl13 sl14 sl15 sl16 sl17 sl18 : Array (Option Value)} {oc1 kV1 dc1 pm1 cd1 ct1 oc2 kV2 dc2 pm2 cd2 ct2 oc3 kV3 dc3 pm3 cd3 ct3 oc4 kV4 dc4 pm4 cd4 ct4 oc5 kV5 dc5 pm5 cd5 ct5 oc6 kV6 dc6 pm6 cd6 ct6 oc7 kV7 dc7 pm7 cd7 ct7 oc8 kV8 dc8 pm8 cd8 ct8 oc9 kV9 dc9 pm9 cd9 ct9 oc10 kV10 dc10 pm10 cd10 ct10 oc11 kV11 dc11 pm11 cd11 ct11 oc12 kV12 dc12 pm12 cd12 ct12 oc13 kV13 dc13 pm13 cd13 ct13 oc14 kV14 dc14 pm14 cd14 ct14 oc15 kV15 dc15 pm15 cd15 ct15 oc16 kV16 dc16 pm16 cd16 ct16 oc17 kV17 dc17 pm17 cd17 ct17 oc18 kV18 dc18 pm18 cd18 ct18 : Value}
    (a1 : PySem.W.nsIn K mainGlobals "_law_hand" = some (some (.ref f1))) (l1 : K.lookup f1 = some ⟨oc1, od1, .func (PySem.W.fnOf "_law_hand" "_law_hand" (defArgs s__law_hand) (defBody s__law_hand) (defScope s__law_hand) .none kV1 dc1 pm1 an1 cd1 ct1), sl1⟩) (c1 : PySem.W.codeIn K cd1 "_law_hand" = true) (k1 : PySem.W.keepIn K (.ref f1) = true)
    (a2 : PySem.W.nsIn K mainGlobals "_law_all_lengths" = some (some (.ref f2))) (l2 : K.lookup f2 = some ⟨oc2, od2, .func (PySem.W.fnOf "_law_all_lengths" "_law_all_lengths" (defArgs s__law_all_lengths) (defBody s__law_all_lengths) (defScope s__law_all_lengths) .none kV2 dc2 pm2 an2 cd2 ct2), sl2⟩) (c2 : PySem.W.codeIn K cd2 "_law_all_lengths" = true) (k2 : PySem.W.keepIn K (.ref f2) = true)
    (a3 : PySem.W.nsIn K mainGlobals "_law_union" = some (some (.ref f3))) (l3 : K.lookup f3 = some ⟨oc3, od3, .func (PySem.W.fnOf "_law_union" "_law_union" (defArgs s__law_union) (defBody s__law_union) (defScope s__law_union) .none kV3 dc3 pm3 an3 cd3 ct3), sl3⟩) (c3 : PySem.W.codeIn K cd3 "_law_union" = true) (k3 : PySem.W.keepIn K (.ref f3) = true)
    (a4 : PySem.W.nsIn K mainGlobals "_law_is_normal" = some (some (.ref f4))) (l4 : K.lookup f4 = some ⟨oc4, od4, .func (PySem.W.fnOf "_law_is_normal" "_law_is_normal" (defArgs s__law_is_normal) (defBody s__law_is_normal) (defScope s__law_is_normal) .none kV4 dc4 pm4 an4 cd4 ct4), sl4⟩) (c4 : PySem.W.codeIn K cd4 "_law_is_normal" = true) (k4 : PySem.W.keepIn K (.ref f4) = true)
    (a5 : PySem.W.nsIn K mainGlobals "prefix_length" = some (some (.ref f5))) (l5 : K.lookup f5 = some ⟨oc5, od5, .func (PySem.W.fnOf "prefix_length" "prefix_length" (defArgs s_prefix_length) (defBody s_prefix_length) (defScope s_prefix_length) .none kV5 dc5 pm5 an5 cd5 ct5), sl5⟩) (c5 : PySem.W.codeIn K cd5 "prefix_length" = true) (k5 : PySem.W.keepIn K (.ref f5) = true)
    (a6 : PySem.W.nsIn K mainGlobals "encode_state" = some (some (.ref f6))) (l6 : K.lookup f6 = some ⟨oc6, od6, .func (PySem.W.fnOf "encode_state" "encode_state" (defArgs s_encode_state) (defBody s_encode_state) (defScope s_encode_state) .none kV6 dc6 pm6 an6 cd6 ct6), sl6⟩) (c6 : PySem.W.codeIn K cd6 "encode_state" = true) (k6 : PySem.W.keepIn K (.ref f6) = true)
    (a7 : PySem.W.nsIn K mainGlobals "union_of" = some (some (.ref f7))) (l7 : K.lookup f7 = some ⟨oc7, od7, .func (PySem.W.fnOf "union_of" "union_of" (defArgs s_union_of) (defBody s_union_of) (defScope s_union_of) .none kV7 dc7 pm7 an7 cd7 ct7), sl7⟩) (c7 : PySem.W.codeIn K cd7 "union_of" = true) (k7 : PySem.W.keepIn K (.ref f7) = true)
    (a8 : PySem.W.nsIn K mainGlobals "is_integer_within" = some (some (.ref f8))) (l8 : K.lookup f8 = some ⟨oc8, od8, .func (PySem.W.fnOf "is_integer_within" "is_integer_within" (defArgs s_is_integer_within) (defBody s_is_integer_within) (defScope s_is_integer_within) .none kV8 dc8 pm8 an8 cd8 ct8), sl8⟩) (c8 : PySem.W.codeIn K cd8 "is_integer_within" = true) (k8 : PySem.W.keepIn K (.ref f8) = true)
    (a9 : PySem.W.nsIn K mainGlobals "is_token" = some (some (.ref f9))) (l9 : K.lookup f9 = some ⟨oc9, od9, .func (PySem.W.fnOf "is_token" "is_token" (defArgs s_is_token) (defBody s_is_token) (defScope s_is_token) .none kV9 dc9 pm9 an9 cd9 ct9), sl9⟩) (c9 : PySem.W.codeIn K cd9 "is_token" = true) (k9 : PySem.W.keepIn K (.ref f9) = true)
    (a10 : PySem.W.nsIn K mainGlobals "decode_token" = some (some (.ref f10))) (l10 : K.lookup f10 = some ⟨oc10, od10, .func (PySem.W.fnOf "decode_token" "decode_token" (defArgs s_decode_token) (defBody s_decode_token) (defScope s_decode_token) .none kV10 dc10 pm10 an10 cd10 ct10), sl10⟩) (c10 : PySem.W.codeIn K cd10 "decode_token" = true) (k10 : PySem.W.keepIn K (.ref f10) = true)
    (a11 : PySem.W.nsIn K mainGlobals "normalize_token" = some (some (.ref f11))) (l11 : K.lookup f11 = some ⟨oc11, od11, .func (PySem.W.fnOf "normalize_token" "normalize_token" (defArgs s_normalize_token) (defBody s_normalize_token) (defScope s_normalize_token) .none kV11 dc11 pm11 an11 cd11 ct11), sl11⟩) (c11 : PySem.W.codeIn K cd11 "normalize_token" = true) (k11 : PySem.W.keepIn K (.ref f11) = true)
    (a12 : PySem.W.nsIn K mainGlobals "_law_right" = some (some (.ref f12))) (l12 : K.lookup f12 = some ⟨oc12, od12, .func (PySem.W.fnOf "_law_right" "_law_right" (defArgs s__law_right) (defBody s__law_right) (defScope s__law_right) .none kV12 dc12 pm12 an12 cd12 ct12), sl12⟩) (c12 : PySem.W.codeIn K cd12 "_law_right" = true) (k12 : PySem.W.keepIn K (.ref f12) = true)
    (a13 : PySem.W.nsIn K mainGlobals "_law_take" = some (some (.ref f13))) (l13 : K.lookup f13 = some ⟨oc13, od13, .func (PySem.W.fnOf "_law_take" "_law_take" (defArgs s__law_take) (defBody s__law_take) (defScope s__law_take) .none kV13 dc13 pm13 an13 cd13 ct13), sl13⟩) (c13 : PySem.W.codeIn K cd13 "_law_take" = true) (k13 : PySem.W.keepIn K (.ref f13) = true)
    (a14 : PySem.W.nsIn K mainGlobals "_law_shuffled" = some (some (.ref f14))) (l14 : K.lookup f14 = some ⟨oc14, od14, .func (PySem.W.fnOf "_law_shuffled" "_law_shuffled" (defArgs s__law_shuffled) (defBody s__law_shuffled) (defScope s__law_shuffled) .none kV14 dc14 pm14 an14 cd14 ct14), sl14⟩) (c14 : PySem.W.codeIn K cd14 "_law_shuffled" = true) (k14 : PySem.W.keepIn K (.ref f14) = true)
    (a15 : PySem.W.nsIn K mainGlobals "_law_orders" = some (some (.ref f15))) (l15 : K.lookup f15 = some ⟨oc15, od15, .func (PySem.W.fnOf "_law_orders" "_law_orders" (defArgs s__law_orders) (defBody s__law_orders) (defScope s__law_orders) .none kV15 dc15 pm15 an15 cd15 ct15), sl15⟩) (c15 : PySem.W.codeIn K cd15 "_law_orders" = true) (k15 : PySem.W.keepIn K (.ref f15) = true)
    (a16 : PySem.W.nsIn K mainGlobals "_law_pick" = some (some (.ref f16))) (l16 : K.lookup f16 = some ⟨oc16, od16, .func (PySem.W.fnOf "_law_pick" "_law_pick" (defArgs s__law_pick) (defBody s__law_pick) (defScope s__law_pick) .none kV16 dc16 pm16 an16 cd16 ct16), sl16⟩) (c16 : PySem.W.codeIn K cd16 "_law_pick" = true) (k16 : PySem.W.keepIn K (.ref f16) = true)
    (a17 : PySem.W.nsIn K mainGlobals "_law_names" = some (some (.ref f17))) (l17 : K.lookup f17 = some ⟨oc17, od17, .func (PySem.W.fnOf "_law_names" "_law_names" (defArgs s__law_names) (defBody s__law_names) (defScope s__law_names) .none kV17 dc17 pm17 an17 cd17 ct17), sl17⟩) (c17 : PySem.W.codeIn K cd17 "_law_names" = true) (k17 : PySem.W.keepIn K (.ref f17) = true)
    (a18 : PySem.W.nsIn K mainGlobals "law" = some (some (.ref f18))) (l18 : K.lookup f18 = some ⟨oc18, od18, .func (PySem.W.fnOf "law" "law" (defArgs s_law) (defBody s_law) (defScope s_law) .none kV18 dc18 pm18 an18 cd18 ct18), sl18⟩) (c18 : PySem.W.codeIn K cd18 "law" = true) (k18 : PySem.W.keepIn K (.ref f18) = true)
    {c_PagesError c_BadToken i_BadToken : Addr}
    (aC_PagesError : PySem.W.nsIn K mainGlobals "PagesError" = some (some (.ref c_PagesError)))
    (aC_BadToken : PySem.W.nsIn K mainGlobals "BadToken" = some (some (.ref c_BadToken)))
    {nm_BadToken qn_BadToken : Str} {N_BadToken : Addr} {bs_BadToken : List Value} {sn_BadToken : List Str} {sub_BadToken : List Value} {ab_BadToken : Bool} {col_BadToken : Option Bool} {dd_BadToken : Option Addr} {m0_BadToken m1_BadToken m2_BadToken m3_BadToken m5_BadToken : Option Value}
    {oc_BadToken kV_BadToken dc_BadToken pm_BadToken cd_BadToken ct_BadToken : Value} {od_BadToken an_BadToken : Option Addr} {sl_BadToken : Array (Option Value)}
    (xL_BadToken : K.lookup c_BadToken = some (excClassObj nm_BadToken qn_BadToken c_BadToken N_BadToken bs_BadToken [.ref c_PagesError, .type "ValueError", .type "Exception", .type "BaseException", .type "object"] true sn_BadToken sub_BadToken ab_BadToken col_BadToken dd_BadToken m0_BadToken m1_BadToken m2_BadToken m3_BadToken m5_BadToken "ValueError.__new__"))
    (sa_BadToken : PySem.W.findIn K (.ref c_BadToken) "__setattr__" = some (some (.builtin "object.__setattr__"))) (ga_BadToken : PySem.W.findIn K (.ref c_BadToken) "__getattribute__" = some (some (.builtin "BaseException.__getattribute__"))) (gg_BadToken : PySem.W.findIn K (.ref c_BadToken) "__getattr__" = some none) (nb_BadToken : PySem.W.findIn K (.ref c_BadToken) "token" = some none)
    (ai_BadToken : PySem.W.findIn K (.ref c_BadToken) "__init__" = some (some (.ref i_BadToken))) (ti_BadToken : PySem.W.typeIn K (.ref i_BadToken) = some (.type "function"))
    (li_BadToken : K.lookup i_BadToken = some ⟨oc_BadToken, od_BadToken, .func (PySem.W.fnOf "__init__" "BadToken.__init__" (defArgs s_i_BadToken) (defBody s_i_BadToken) (defScope s_i_BadToken) .none kV_BadToken dc_BadToken pm_BadToken an_BadToken cd_BadToken ct_BadToken), sl_BadToken⟩) (ci_BadToken : PySem.W.codeIn K cd_BadToken "BadToken.__init__" = true) (ki_BadToken : PySem.W.keepIn K (.ref i_BadToken) = true)
    (kC_BadToken : PySem.W.keepIn K (.ref c_BadToken) = true) (eC_BadToken : PySem.W.subIn K (.ref c_BadToken) (.type "BaseException") = some true) (tC_BadToken : PySem.W.typeIn K (.ref c_BadToken) = some (.type "type")) (hC_BadToken : PySem.W.hasDictIn K c_BadToken = true) (iC_BadToken : PySem.W.isClsIn K c_BadToken = true)
    (ca_BadToken : PySem.W.findIn K (.ref c_BadToken) "__class__" = some (some (.builtin "object.__class__"))) (mo_BadToken : PySem.W.mroIn K c_BadToken (.type "object") = some true)
    (bn : PySem.W.specialIn K (.builtin "object.__class__") "__get__" = some (some (.builtin "getset_descriptor.__get__"))) (bt : PySem.W.takesIn K (.builtin "object.__class__") = some true)
    (z1 : PySem.W.nsIn K mainGlobals "len" = some none) (z2 : PySem.W.nsIn K mainGlobals "abs" = some none) (z3 : PySem.W.nsIn K mainGlobals "int" = some none) (z4 : PySem.W.nsIn K mainGlobals "range" = some none) (z5 : PySem.W.nsIn K mainGlobals "list" = some none) (z6 : PySem.W.nsIn K mainGlobals "tuple" = some none) (z7 : PySem.W.nsIn K mainGlobals "repr" = some none) (z8 : PySem.W.nsIn K mainGlobals "max" = some none) (z9 : PySem.W.nsIn K mainGlobals "min" = some none) (z10 : PySem.W.nsIn K mainGlobals "sorted" = some none) (z11 : PySem.W.nsIn K mainGlobals "isinstance" = some none) (z12 : PySem.W.nsIn K mainGlobals "bool" = some none) (z13 : PySem.W.nsIn K mainGlobals "all" = some none) (z14 : PySem.W.nsIn K mainGlobals "enumerate" = some none) (z15 : PySem.W.nsIn K mainGlobals "zip" = some none) :
    ∃ fd : FuncData, (∀ (s : Shared) (v : Value), BindsTo s fd ⟨[v], []⟩ [("_law_script", v)]) ∧ ∀ base : Heap, K.In base → base.Ns mainGlobals mg → FnG l.prog w K mg base 6 fa fd ["_law_script"] (@spD (tblW l.prog w) K F_law) := by
  have e := hfa.symm.trans (PySem.W.mg_of X G a18)
  cases e
  have F1 := fun_mk (st := s__law_hand) l1 c1 k1
  have b1 := F1.binds (ps := ["_law_script", "_law_k"]) fun _ _ _ _ _ _ us hl => match us, hl with | [_, _], _ => rfl
  have F2 := fun_mk (st := s__law_all_lengths) l2 c2 k2
  have b2 := F2.binds (ps := ["_law_orders_here"]) fun _ _ _ _ _ _ us hl => match us, hl with | [_], _ => rfl
  have F3 := fun_mk (st := s__law_union) l3 c3 k3
  have b3 := F3.binds (ps := ["_law_orders_here", "_law_lengths"]) fun _ _ _ _ _ _ us hl => match us, hl with | [_, _], _ => rfl
  have F4 := fun_mk (st := s__law_is_normal) l4 c4 k4
  have b4 := F4.binds (ps := ["_law_orders_here", "_law_lengths"]) fun _ _ _ _ _ _ us hl => match us, hl with | [_, _], _ => rfl
  have F5 := fun_mk (st := s_prefix_length) l5 c5 k5
  have b5 := F5.binds (ps := ["version", "live", "rows"]) fun _ _ _ _ _ _ us hl => match us, hl with | [_, _, _], _ => rfl
  have F6 := fun_mk (st := s_encode_state) l6 c6 k6
  have b6 := F6.binds (ps := ["orders", "rows"]) fun _ _ _ _ _ _ us hl => match us, hl with | [_, _], _ => rfl
  have F7 := fun_mk (st := s_union_of) l7 c7 k7
  have b7 := F7.binds (ps := ["groups"]) fun _ _ _ _ _ _ us hl => match us, hl with | [_], _ => rfl
  have F8 := fun_mk (st := s_is_integer_within) l8 c8 k8
  have b8 := F8.binds (ps := ["value", "low", "high"]) fun _ _ _ _ _ _ us hl => match us, hl with | [_, _, _], _ => rfl
  have F9 := fun_mk (st := s_is_token) l9 c9 k9
  have b9 := F9.binds (ps := ["orders", "value"]) fun _ _ _ _ _ _ us hl => match us, hl with | [_, _], _ => rfl
  have F10 := fun_mk (st := s_decode_token) l10 c10 k10
  have b10 := F10.binds (ps := ["orders", "token"]) fun _ _ _ _ _ _ us hl => match us, hl with | [_, _], _ => rfl
  have F11 := fun_mk (st := s_normalize_token) l11 c11 k11
  have b11 := F11.binds (ps := ["orders", "token"]) fun _ _ _ _ _ _ us hl => match us, hl with | [_, _], _ => rfl
  have F12 := fun_mk (st := s__law_right) l12 c12 k12
  have b12 := F12.binds (ps := ["_law_orders_here"]) fun _ _ _ _ _ _ us hl => match us, hl with | [_], _ => rfl
  have F13 := fun_mk (st := s__law_take) l13 c13 k13
  have b13 := F13.binds (ps := ["_law_hand_here", "_law_many"]) fun _ _ _ _ _ _ us hl => match us, hl with | [_, _], _ => rfl
  have F14 := fun_mk (st := s__law_shuffled) l14 c14 k14
  have b14 := F14.binds (ps := ["_law_hand_here", "_law_items"]) fun _ _ _ _ _ _ us hl => match us, hl with | [_, _], _ => rfl
  have F15 := fun_mk (st := s__law_orders) l15 c15 k15
  have b15 := F15.binds (ps := ["_law_hand_here", "_law_most", "_law_rows"]) fun _ _ _ _ _ _ us hl => match us, hl with | [_, _, _], _ => rfl
  have F16 := fun_mk (st := s__law_pick) l16 c16 k16
  have b16 := F16.binds (ps := ["_law_hand_here", "_law_items"]) fun _ _ _ _ _ _ us hl => match us, hl with | [_, _], _ => rfl
  have F17 := fun_mk (st := s__law_names) l17 c17 k17
  have b17 := F17.binds (ps := ["_law_hand_here", "_law_count"]) fun _ _ _ _ _ _ us hl => match us, hl with | [_, _], _ => rfl
  have F18 := fun_mk (st := s_law) l18 c18 k18
  have b18 := F18.binds (ps := ["_law_script"]) fun _ _ _ _ _ _ us hl => match us, hl with | [_], _ => rfl
  have X_BadToken : ExcT K mg "BadToken" "token" c_BadToken i_BadToken := ⟨PySem.W.mg_of X G aC_BadToken, aC_BadToken, ⟨⟨_, _, _, _, _, _, _, _, _, _, _, _, _, _, _, xL_BadToken, by first | rfl | decide +kernel⟩, sa_BadToken, eC_BadToken, tC_BadToken, kC_BadToken⟩, nb_BadToken, ai_BadToken, ti_BadToken, ⟨ga_BadToken, gg_BadToken, eC_BadToken, hC_BadToken⟩, iC_BadToken, ca_BadToken, mo_BadToken⟩
  have FI_BadToken := fun_mk (st := s_i_BadToken) li_BadToken ci_BadToken ki_BadToken
  have BI_BadToken := FI_BadToken.binds (ps := ["self", "token"]) fun _ _ _ _ _ _ us hl => match us, hl with | [_, _], _ => rfl
  exact ⟨PySem.W.fnOf "law" "law" (defArgs s_law) (defBody s_law) (defScope s_law) .none kV18 dc18 pm18 an18 cd18 ct18, fun s v => .of_eq rfl, fun base _ _ => letI := tblW l.prog w; ok_law (c_PagesError := c_PagesError) (c_BadToken := c_BadToken) ⟨F1, b1, PySem.W.mg_of X G a1, F2, b2, PySem.W.mg_of X G a2, F3, b3, PySem.W.mg_of X G a3, F4, b4, PySem.W.mg_of X G a4, F5, b5, PySem.W.mg_of X G a5, F6, b6, PySem.W.mg_of X G a6, F7, b7, PySem.W.mg_of X G a7, F8, b8, PySem.W.mg_of X G a8, F9, b9, PySem.W.mg_of X G a9, F10, b10, PySem.W.mg_of X G a10, F11, b11, PySem.W.mg_of X G a11, F12, b12, PySem.W.mg_of X G a12, F13, b13, PySem.W.mg_of X G a13, F14, b14, PySem.W.mg_of X G a14, F15, b15, PySem.W.mg_of X G a15, F16, b16, PySem.W.mg_of X G a16, F17, b17, PySem.W.mg_of X G a17, F18, b18, PySem.W.mg_of X G a18, PySem.W.mg_none_of X G z1, PySem.W.mg_none_of X G z2, PySem.W.mg_none_of X G z3, PySem.W.mg_none_of X G z4, PySem.W.mg_none_of X G z5, PySem.W.mg_none_of X G z6, PySem.W.mg_none_of X G z7, PySem.W.mg_none_of X G z8, PySem.W.mg_none_of X G z9, PySem.W.mg_none_of X G z10, PySem.W.mg_none_of X G z11, PySem.W.mg_none_of X G z12, PySem.W.mg_none_of X G z13, PySem.W.mg_none_of X G z14, PySem.W.mg_none_of X G z15, ⟨bn, bt⟩, X_BadToken, FI_BadToken, BI_BadToken, fun _ _ _ => ok_ini FI_BadToken sc_i_BadToken rfl X_BadToken (by decide) (by decide)⟩ (fun _ => rfl)⟩
end Z
open PySem PySem.W PyProof.Rows
set_option maxHeartbeats 0 in
theorem PySem.Challenge.cw_movingpages_k36_normal_tokens_holds : PySem.Challenge.rw_movingpages_k36_normal_tokens.Holds := by
  w_on; o_law; k_head; (case hw => w_witness2)
  k_fill
  refine Q.walkGW (l := PySem.Challenge.rw_movingpages_k36_normal_tokens) (n := 63) (k := 6) (x := "_law_script") (sp := fun w K => @Q.spD (Q.tblW PySem.Challenge.rw_movingpages_k36_normal_tokens.prog w) K Z.F_law) rfl (by decide) rfl ⟨rfl, by decide, by decide⟩ (fun w h Y => PySem.W.kIn_of Y) ?F (fun _ _ _ a ns hl hO hS => Z.law_want hO hS hl)
  case F =>
    intro w mg fa h KX G hmg
    refine' Z.all_mk KX G hmg ?a1 ?l1 ?c1 ?k1 ?a2 ?l2 ?c2 ?k2 ?a3 ?l3 ?c3 ?k3 ?a4 ?l4 ?c4 ?k4 ?a5 ?l5 ?c5 ?k5 ?a6 ?l6 ?c6 ?k6 ?a7 ?l7 ?c7 ?k7 ?a8 ?l8 ?c8 ?k8 ?a9 ?l9 ?c9 ?k9 ?a10 ?l10 ?c10 ?k10 ?a11 ?l11 ?c11 ?k11 ?a12 ?l12 ?c12 ?k12 ?a13 ?l13 ?c13 ?k13 ?a14 ?l14 ?c14 ?k14 ?a15 ?l15 ?c15 ?k15 ?a16 ?l16 ?c16 ?k16 ?a17 ?l17 ?c17 ?k17 ?a18 ?l18 ?c18 ?k18 ?aC_PagesError ?aC_BadToken ?xL_BadToken ?sa_BadToken ?ga_BadToken ?gg_BadToken ?nb_BadToken ?ai_BadToken ?ti_BadToken ?li_BadToken ?ci_BadToken ?ki_BadToken ?kC_BadToken ?eC_BadToken ?tC_BadToken ?hC_BadToken ?iC_BadToken ?ca_BadToken ?mo_BadToken ?bn ?bt ?z1 ?z2 ?z3 ?z4 ?z5 ?z6 ?z7 ?z8 ?z9 ?z10 ?z11 ?z12 ?z13 ?z14 ?z15
    (case a1 => k_is)
    (case l1 => k_is)
    (case c1 => k_is)
    (case k1 => k_is)
    (case a2 => k_is)
    (case l2 => k_is)
    (case c2 => k_is)
    (case k2 => k_is)
    (case a3 => k_is)
    (case l3 => k_is)
    (case c3 => k_is)
    (case k3 => k_is)
    (case a4 => k_is)
    (case l4 => k_is)
    (case c4 => k_is)
    (case k4 => k_is)
    (case a5 => k_is)
    (case l5 => k_is)
    (case c5 => k_is)
    (case k5 => k_is)
    (case a6 => k_is)
    (case l6 => k_is)
    (case c6 => k_is)
    (case k6 => k_is)
    (case a7 => k_is)
    (case l7 => k_is)
    (case c7 => k_is)
    (case k7 => k_is)
    (case a8 => k_is)
    (case l8 => k_is)
    (case c8 => k_is)
    (case k8 => k_is)
    (case a9 => k_is)
    (case l9 => k_is)
    (case c9 => k_is)
    (case k9 => k_is)
    (case a10 => k_is)
    (case l10 => k_is)
    (case c10 => k_is)
    (case k10 => k_is)
    (case a11 => k_is)
    (case l11 => k_is)
    (case c11 => k_is)
    (case k11 => k_is)
    (case a12 => k_is)
    (case l12 => k_is)
    (case c12 => k_is)
    (case k12 => k_is)
    (case a13 => k_is)
    (case l13 => k_is)
    (case c13 => k_is)
    (case k13 => k_is)
    (case a14 => k_is)
    (case l14 => k_is)
    (case c14 => k_is)
    (case k14 => k_is)
    (case a15 => k_is)
    (case l15 => k_is)
    (case c15 => k_is)
    (case k15 => k_is)
    (case a16 => k_is)
    (case l16 => k_is)
    (case c16 => k_is)
    (case k16 => k_is)
    (case a17 => k_is)
    (case l17 => k_is)
    (case c17 => k_is)
    (case k17 => k_is)
    (case a18 => k_is)
    (case l18 => k_is)
    (case c18 => k_is)
    (case k18 => k_is)
    (case aC_PagesError => k_is)
    (case aC_BadToken => k_is)
    (case xL_BadToken => k_is)
    (case sa_BadToken => k_is)
    (case ga_BadToken => k_is)
    (case gg_BadToken => k_is)
    (case nb_BadToken => k_is)
    (case ai_BadToken => k_is)
    (case ti_BadToken => k_is)
    (case li_BadToken => k_is)
    (case ci_BadToken => k_is)
    (case ki_BadToken => k_is)
    (case kC_BadToken => k_is)
    (case eC_BadToken => k_is)
    (case tC_BadToken => k_is)
    (case hC_BadToken => k_is)
    (case iC_BadToken => k_is)
    (case ca_BadToken => k_is)
    (case mo_BadToken => k_is)
    (case bn => k_is)
    (case bt => k_is)
    (case z1 => k_is)
    (case z2 => k_is)
    (case z3 => k_is)
    (case z4 => k_is)
    (case z5 => k_is)
    (case z6 => k_is)
    (case z7 => k_is)
    (case z8 => k_is)
    (case z9 => k_is)
    (case z10 => k_is)
    (case z11 => k_is)
    (case z12 => k_is)
    (case z13 => k_is)
    (case z14 => k_is)
    (case z15 => k_is)
