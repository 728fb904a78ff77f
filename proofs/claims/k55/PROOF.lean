import PyProof.Rows.All
import Wide.All
import OpenK.AllK
import Wide.FinOn
import HandS.Base
import HandS.Call
import HandS.List
import HandS.Comp
import HandS.Ends
import HandS.Words
import PyProof.ReprRoads
import PyProof.ReprReads
import HandS.Lambda
import HandS.Iter
import HandS.Walk
import HandS.Zip
import HandS.TupAny
import HandS.TupMul
import HandS.TupLe
import HandS.Text
import HandS.IsInst
import HandS.More
import PyProof.EqLayable
import PyProof.P3Eq
import PyProof.P3In
import HandS.Deep
import HandS.Wide
import PyProof.ReprLen
import HandS.SortInts
import PyProof.Rows.StrMeet
import KE.GoesMore
import KE.GoesEnum
import PyProof.Draws
import PyProof.EnumMake
import HandS.Style
import HandS.Dict
import PyProof.StrBlock2
import HandS.Strs
import PyProof.Rows.IntBool
import PyProof.NeData
import PyProof.CallStr
import PyProof.EqKinds
import HandS.SetFor
import HandS.StrMore
import HandS.Exc
import HandS.ExcInit
import HandS.ExcField
import HandS.WordsExc
import KE.KExcIs
import HandS.SetBool
import HandS.SetTxt0
import HandS.TryOnly
import KE.KLam
import PyProof.Rows.ListMul
import HandS.Sort
import KE.SortKeyHeap
import HandS.SortKw
import KE.SortUse
import KE.KDictDisplayH
import PyProof.Rows.TupDisplay
import KE.SortData
import KE.SortLaws
import HandS.Conv
import KE.KDictSum
import KE.KDictPairs
import KE.KSortAsk
import KE.KSortTup
import PyProof.DictMoreH
import PyProof.DictRoadsH
import KE.KDictZip
import PyProof.ListNew
import HandS.ListItems
import HandS.DictComp
import OpenK.KMore
import KE.DataEq
import KE.KTupSum
import HandS.Defaults
import PyProof.Ascii
import PyProof.Rows.ReprOcc
import PyProof.Rows.StrCase
import PySem.Challenge.RW_movingpages_k55_devices_and_their_number
set_option Elab.async false
set_option linter.all false
set_option maxRecDepth 100000
set_option maxHeartbeats 4000000
/-! Promises of defs that are called while no repr is under way: then repr of data is its text. -/
namespace Gd
open PySem PySem.Spec PyProof.Rows L2
structure FnG (P : Program) (w : World) (K : PySem.W.Frag) (mg : Str → Option Value) (base : Heap) (k : Nat) (f : Addr) (fd : FuncData) (ps : List Str) (sp : Sp) : Prop where
  len : ∀ vs H Q E, sp vs H Q E → vs.length = ps.length
  go : ∀ {A : Around} {outer : List Env} {s : Shared} {H : Hp} {args : Args} {us : List Value} {vs : List V} {Q : VK} {E : XK}, A.guards = some [] → Room k A →
    Env0 P w K mg base A outer s H → BindsTo s fd args (ps.zip us) → Vals vs us → sp vs H Q E → codeAny (model P w) A (.call (.ref f) args) (CR CX0 outer P w H s Q E) s
section
variable {P : Program} {w : World} {K : PySem.W.Frag} {mg : Str → Option Value} {base : Heap} {k : Nat} {f : Addr} {fd : FuncData} {ps : List Str} {sp : Sp}
theorem FnG.up {j : Nat} (G : FnG P w K mg base j f fd ps sp) (h : j ≤ k) : FnG P w K mg base k f fd ps sp :=
  ⟨G.len, fun g r e b v q => G.go g (r.mono h) e b v q⟩
/-- a def's body, walked while no repr is under way -/
theorem okG {x qual : Str} {st : Stmt} {N : List Str} (F : Fun K x qual st f fd) (S : FnScope N ps (defScope st)) (len : ∀ vs H Q E, sp vs H Q E → vs.length = ps.length)
    (B : ∀ (cdv : Value) (A : Around) (outer : List Env) (s : Shared) (H : Hp) (vs : List V) (Q : VK) (E : XK), fd.code = cdv → A.guards = some [] → Room k (A.deeper (envOfC qual (defScope st) s.heap.objs.size f cdv)) → sp vs H Q E →
      ∃ t, PSs (cxOf CX0 P w K mg base N qual (defScope st) f cdv A outer s H E).nox (defBody st) t ∧ t { nx := fun _ H' => Q .non H', rt := Q } (start N vs) H) : FnG P w K mg base (k + 1) f fd ps sp := by
  obtain ⟨oc, od, kV, doc, pm, an, cdv, ct, osl, rfl, lk, hcd⟩ := F.ex
  refine ⟨len, fun {A outer s H args us vs Q E} g room env0 bt rel want => ?_⟩
  have kin : K.In s.heap := env0.mod.kin.keeps fun b o q => (env0.bs b o q).1
  have nol : s.heap.NoLimit := env0.mod.nolimit.keeps fun b o q => (env0.bs b o q).1
  refine codeAny_call_function room.depth (kin _ _ lk) rfl S.co S.gen rfl (PySem.W.codeRec_of kin hcd) (bt _ _ _ _ ?_)
  refine wpAny_newFunctionEnv_cells S.kind ?_ fun env ee s1 inn => ?_
  · rintro ⟨n, v⟩ hy
    refine (S.par n (List.of_mem_zip hy).1).elim Or.inl fun q => Or.inr ⟨q, ?_⟩
    exact PySem.W.cellsFrom_some _ _ _ (Or.inl q)
  subst ee
  refine ⟨nol.keeps inn.toInCall.keep, codeAny_func ?_⟩
  obtain ⟨t, ht, hq⟩ := B cdv A outer s H vs Q E rfl g (room.deeper _) want
  have I0 := inv_start (CX := CX0) (E := E) S room.hd env0 (len _ _ _ _ want) rel inn
  refine wpAny_mono (ht.nox.run [] s1 (start N vs) H _ I0 hq) (fun fl s' z => ?_) fun _ _ z => z
  cases fl with
  | ret u =>
    obtain ⟨v, σ', H', J, rv, q⟩ := z
    exact ⟨v, H', J.os, J.bare, J.base, J.hok, rv, q⟩
  | next =>
    obtain ⟨σ', H', J, q⟩ := z
    exact ⟨V.non, H', J.os, J.bare, J.base, J.hok, rfl, q⟩
  | brk => exact z.elim fun _ z => z.elim fun _ z => z.2.elim
  | cont => exact z.elim fun _ z => z.elim fun _ z => z.2.elim
end
section
variable {X : Cx} {k : Nat} {f : Addr} {fd : FuncData} {ps : List Str} {sp : Sp} {x : Str} {p pos : Pos} {e : Expr} {es : List Expr} {t : TA}
/-- f(e, ..) of such a def -/
theorem pe_callG (F : FnG X.prog X.w X.K X.mg X.base k f fd ps sp) (g : X.A.guards = some []) (room : Room k X.A) (hg : Gl X x) (hm : X.mg x = some (.ref f)) (hk : PySem.W.keepIn X.K (.ref f) = true) (hb : Binds X.K fd ps [])
    (ha : PA X (e :: es) t) (hdb : (x == ("__debug__" : Str)) = false := by decide) (he : starEach (e :: es) X.env = (false, eval e X.env) :: starEach es X.env := by rfl) (hpl : (backTo pos (starEach es X.env)).any (·.1) = false := by rfl) :
    PE X (.Call (.Name x p) (e :: es) [] pos) (tCall sp [] E0 t) := ⟨fun pins s σ H Q I h => by
  refine wpAny_Call_Name_kw (ld_glob I hg hm ?_ hdb)
  refine PySem.W.callWith_K (h₀ := X.base) I.ok.mod.kin hk (thn (ha.run pos pins s σ H _ I h) ?_) he hpl
  rintro us s1 ⟨vs, H1, I1, r, q⟩
  refine ⟨I1.kIn, ?_⟩
  have r0 : Vals (vs ++ []) (us ++ []) := r.append .nil
  have z := F.len _ _ _ _ q
  rw [r0.length] at z
  refine wpAny_call (codeAny_mono (F.go g room I1.env0 (hb s1 us I1.kIn z) r0 q) fun res s' hq => ?_)
  cases res with
  | error _ => exact False.elim hq
  | ok fl =>
    cases fl with
    | ret u => exact I1.after hq
    | next => exact False.elim hq
    | brk => exact False.elim hq
    | cont => exact False.elim hq⟩
end
/-- repr(x) of data without dicts -/
def rShow (K : PySem.W.Frag) : List V → Hp → VK → Prop := fun xs H Q => ∃ x d, xs = [x] ∧ Dp K H x d ∧ d.showable = true ∧ d.hasDict = false ∧ d.depth ≤ 60 ∧ d.shown.length ≤ sizeLine ∧ Q (.str d.shown) H
theorem call_show {X : Cx} (g : X.A.guards = some []) (hu : X.A.units + 64 < cLine) : CallR X (.builtin "repr") (rShow X.K) := by
  rintro pins s σ H xs us Q I r ⟨x, d, rfl, hd, hs, hn, hz, hl, q⟩
  obtain ⟨u, rfl, rx⟩ := vals1 r
  obtain ⟨as, rd⟩ := Dp.reads I d x u hd rx
  have keep : ∀ (h' : Heap) (tk : Nat), (∀ b o, s.heap.get? b = some o → h'.get? b = some o) → Inv X pins σ H { s with heap := h', toks := tk } := fun h' tk hk => I.un (Un.kept hk) (I.hok.kept hk)
  cases rd with
  | none => exact PySem.P.repr_of_none ⟨.str _, H, I.tok _, ⟨_, rfl⟩, q⟩
  | bool b => exact PySem.P.repr_of_bool ⟨.str _, H, I.tok _, ⟨_, rfl⟩, q⟩
  | int i t => exact PySem.P.repr_of_int (of_decide_eq_true hs) ⟨.str _, H, I.tok _, ⟨_, rfl⟩, q⟩
  | str x t => exact PySem.P.repr_of_str ⟨.str _, H, I.tok _, ⟨_, rfl⟩, q⟩ hl
  | list h1 h2 h3 h4 => exact repr_of_reads' (.list h1 h2 h3 h4) hs (PyData.noDict_hsm hn) g (by omega) (fun _ _ z => z) (fun h' v tk hk => ⟨.str _, H, keep h' tk hk, ⟨v, rfl⟩, q⟩) hl
  | tuple h1 h2 h3 h4 => exact repr_of_reads' (.tuple h1 h2 h3 h4) hs (PyData.noDict_hsm hn) g (by omega) (fun _ _ z => z) (fun h' v tk hk => ⟨.str _, H, keep h' tk hk, ⟨v, rfl⟩, q⟩) hl
  | dict h1 h2 h3 h4 h5 => cases hn
/-- the goal that k_head leaves, by such a promise of the law -/
theorem law_callG {P : Program} {w : World} {K : PySem.W.Frag} {mg mb : Str → Option Value} {k : Nat} {fa a : Addr} {fd : FuncData} {x : Str} {sp : Sp} {s₁ : Shared} {vs : List Value} {ns : List Int}
    (kin : K.In s₁.heap) (hns : s₁.heap.Ns mainGlobals mg) (hb : s₁.heap.Ns builtinsNs mb) (hbb : ∀ x : Str, x ≠ "__name__" → mb x = bootBuiltins x) (hlim : s₁.heap.NoLimit) (hg : s₁.gens = #[])
    (ha : s₁.heap.get? a = some { cls := .type "list", data := .seq vs.toArray }) (hi : IntsAre vs ns) (hl : ns.length ≤ sizeLine) (room : Room k callerA)
    (F : ∀ base : Heap, K.In base → base.Ns mainGlobals mg → FnG P w K mg base k fa fd [x] sp) (bind : ∀ (s : Shared) (u : Value), BindsTo s fd ⟨[u], []⟩ [(x, u)])
    (want : ∀ H : Hp, Only H → SqL K H a (ns.map V.int) → sp [.ref a] H (fun v _ => v = .bl true) fun _ _ _ => False) :
    codeAny (model P w) callerA (.call (.ref fa) ⟨[.ref a], []⟩) (fun r s' => r = .ok (.ret (.bool true)) ∧ OldK s₁.heap s'.heap ∧ s'.os = s₁.os ∧ AllBare s'.gens) s₁ := by
  have main : ∀ H : Hp, Only H → SqL K H a (ns.map V.int) → HOk P w H s₁.heap → (∀ b u, H b = some u → b = a ∧ K.lookup a = none) →
      codeAny (model P w) callerA (.call (.ref fa) ⟨[.ref a], []⟩) (fun r s' => r = .ok (.ret (.bool true)) ∧ OldK s₁.heap s'.heap ∧ s'.os = s₁.os ∧ AllBare s'.gens) s₁ := by
    intro H hO hS hok hA
    have off : ∀ {b : Addr} {o : Obj} {es : Array DictEntry} {ep : Nat}, s₁.heap.get? b = some o → o.data = .dict es ep → H b = none := by
      intro b o es ep e d
      cases q : H b with
      | none => rfl
      | some u =>
        obtain ⟨rfl, _⟩ := hA b u q
        rw [ha] at e
        cases e
        exact Data.noConfusion d
    have names : ∀ {b : Addr} {m : Str → Option Value}, s₁.heap.Ns b m → (hidT s₁.heap H).Ns b m := by
      rintro b m ⟨o, es, ep, e, d, r⟩
      exact ⟨o, es, ep, hidT_get e (off e d), d, r⟩
    have kin' : K.In (hidT s₁.heap H) := by
      intro b o e
      refine hidT_get (kin b o e) ?_
      cases q : H b with
      | none => rfl
      | some u =>
        obtain ⟨rfl, z⟩ := hA b u q
        rw [z] at e
        cases e
    obtain ⟨mc, l1, l2⟩ := hlim
    have hM : Mod K mg (hidT s₁.heap H) := ⟨kin', names hns, ⟨mb, names hb, hbb⟩, ⟨mc, names l1, l2⟩⟩
    have env0 : Env0 P w K mg (hidT s₁.heap H) callerA [] s₁ H :=
      ⟨rfl, hM, fun b o e => of_hidT e, Nat.le_of_eq (hidT_size _ _), trivial, fun b hb => (nomatch hb), hok, .of_eq hg⟩
    refine codeAny_mono ((F _ kin' (names hns)).go (us := [.ref a]) (vs := [.ref a]) rfl room env0 (bind s₁ (.ref a)) (.cons rfl .nil) (want H hO hS)) fun r s' h => ?_
    cases r with
    | error e => exact h.elim
    | ok fl =>
      cases fl with
      | next => exact False.elim h
      | brk => exact False.elim h
      | cont => exact False.elim h
      | ret u =>
        obtain ⟨v, H', os, bare, un, hok', r', q⟩ := h
        have q' : v = .bl true := q
        subst q'
        obtain rfl : u = Value.bool true := r'
        refine ⟨rfl, OldK.of_keep fun b o e => ?_, os, bare⟩
        rcases hO b with z | ⟨ob, xs, z⟩
        · exact un.keep b o e z (fun y => (nomatch y)) (fun y => (nomatch y))
        · obtain ⟨e1, _⟩ := hok b _ z
          obtain ⟨e2, _⟩ := hok' b _ (un.frzs b ob _ z)
          rw [e] at e1
          cases e1
          exact e2
  have lenV := hi.length
  have rv := vals_ints hi
  cases hk : K.lookup a with
  | some o =>
    have e := kin a o hk
    rw [ha] at e
    cases e
    refine main (fun _ => none) (fun _ => .inl rfl) (.inr ⟨_, vs.toArray, _, hk, rfl, rfl, rfl, ?_, ?_⟩) (fun b u z => (nomatch z)) (fun b u z => (nomatch z))
    · rw [List.size_toArray, lenV]
      exact hl
    · simpa using rv
  | none =>
    have at_a : ∀ (b : Addr) (u : HO), (if b = a then some (HO.frz { cls := .type "list", data := .seq vs.toArray } (.lst (ns.map V.int))) else none) = some u → b = a ∧ u = HO.frz { cls := .type "list", data := .seq vs.toArray } (.lst (ns.map V.int)) := by
      intro b u z
      split at z
      · next e => exact ⟨e, (Option.some.inj z).symm⟩
      · cases z
    refine main (fun b => if b = a then some (.frz { cls := .type "list", data := .seq vs.toArray } (.lst (ns.map V.int))) else none) (fun b => ?_) (.inl (.inr ⟨_, if_pos rfl⟩)) (fun b u z => ?_) (fun b u z => ⟨(at_a b u z).1, hk⟩)
    · by_cases hb : b = a
      · exact .inr ⟨_, _, if_pos hb⟩
      · exact .inl (if_neg hb)
    · obtain ⟨rfl, rfl⟩ := at_a b u z
      exact ⟨ha, by rw [List.length_map]; exact hl, vs, _, rv, ha⟩
end Gd
namespace Q
open PySem PySem.Spec PyProof.Rows L2
/-- tuples and locked things stay -/
def Grow (H H' : Hp) : Prop := (∀ b xs, H b = some (.tup xs) → H' b = some (.tup xs)) ∧ (∀ b o u, H b = some (.frz o u) → H' b = some (.frz o u)) ∧ (∀ b fs, H b = some (.xd fs) → H' b = some (.xd fs)) ∧ ∀ b q, H b = some (LamX.CodeO b q) → H' b = some (LamX.CodeO b q)
theorem Grow.refl (H : Hp) : Grow H H := ⟨fun _ _ h => h, fun _ _ _ h => h, fun _ _ h => h, fun _ _ h => h⟩
theorem Grow.trans {H H1 H2 : Hp} (a : Grow H H1) (b : Grow H1 H2) : Grow H H2 := ⟨fun c xs h => b.1 c xs (a.1 c xs h), fun c o u h => b.2.1 c o u (a.2.1 c o u h), fun c fs h => b.2.2.1 c fs (a.2.2.1 c fs h), fun c p h => b.2.2.2 c p (a.2.2.2 c p h)⟩
theorem Grow.same {H H' : Hp} (s : Same H H') : Grow H H' := ⟨fun b _ h => s b _ h, fun b _ _ h => s b _ h, fun b _ h => s b _ h, fun b _ h => s b _ h⟩
/-- neither a table nor a code object -/
def NoTab : HO → Prop
  | .tbl _ => False
  | .ext φ => ∀ p q, HO.ext φ ≠ LamX.CodeO p q
  | _ => True
theorem noTab_code {h : HO} (n : NoTab h) {p : Addr} (q : Str) : h ≠ LamX.CodeO p q := fun z => by
  cases h with
  | ext φ => exact n p q z
  | _ => exact nomatch z
theorem grow_upd {H : Hp} {p : Addr} {h u : HO} (e : H p = some h) (m : Mut (some h)) (nt : ∀ q, h ≠ LamX.CodeO p q) : Grow H (upd H p u) := by
  refine ⟨fun b xs q => ?_, fun b o w q => ?_, fun b fs q => ?_, fun b w q => ?_⟩
  · rw [upd_ne fun z => ?_]
    · exact q
    · rw [z, e] at q
      cases q
      exact m
  · rw [upd_ne fun z => ?_]
    · exact q
    · rw [z, e] at q
      cases q
      exact m
  · rw [upd_ne fun z => ?_]
    · exact q
    · rw [z, e] at q
      cases q
      exact m
  · rw [upd_ne fun z => ?_]
    · exact q
    · rw [z, e] at q
      exact nt _ (Option.some.inj q)
/-- the tables of code objects that lambdas are noted in, and what else is to be known as long as things stay -/
class Tbl where
  T : List (Addr × Str)
  G : Hp → Prop
  up : ∀ H H', Grow H H' → G H → G H'
  /-- the hash of a tuple of ints and texts -/
  hs : List Key → Int
instance (priority := low) noTbl : Tbl := ⟨[], fun _ => True, fun _ _ _ _ => trivial, fun _ => 0⟩
variable [Tbl]
/-! # A layer of data: what slots hold as trees, and what a piece of the text makes of them -/
abbrev D := PyData
/-- a test that the kernel never runs -/
noncomputable def cb (p : Prop) : Bool := @decide p (Classical.propDecidable p)
theorem cb_true {p : Prop} (h : p) : cb p = true := @decide_eq_true p (Classical.propDecidable p) h
@[simp] theorem cb_T : cb True = true := cb_true trivial
theorem of_cb {p : Prop} (h : cb p = true) : p := @of_decide_eq_true p (Classical.propDecidable p) h
def keyD : Key → D
  | .inl i => .int i
  | .inr x => .str x
/-- a list that nothing can change: locked -/
def LkL (_ : PySem.W.Frag) (H : Hp) (a : Addr) (xs : List V) : Prop := ∃ o, H a = some (.frz o (.lst xs))
/-- a tuple that has no fields of its own -/
def NdT (H : Hp) (a : Addr) (xs : List V) : Prop := ∃ o : Obj, H a = some (.frz o (.tup xs)) ∧ o.dict = none
theorem NdT.sq {K : PySem.W.Frag} {H : Hp} {a : Addr} {xs : List V} (h : NdT H a xs) : SqT K H a xs := by
  obtain ⟨o, h, _⟩ := h
  exact .inl (.inr ⟨o, h⟩)
/-- the script: locked, or written -/
def ScR (K : PySem.W.Frag) (H : Hp) (a : Addr) (ns : List Int) : Prop := (∃ o, H a = some (.frz o (.lst (ns.map V.int)))) ∨ SqL K (fun _ => none) a (ns.map V.int)
theorem ScR.sq {K : PySem.W.Frag} {H : Hp} {a : Addr} {ns : List Int} (h : ScR K H a ns) : SqL K H a (ns.map V.int) := by
  rcases h with h | (h | ⟨o, h⟩) | h
  · exact .inl (.inr h)
  · cases h
  · cases h
  · exact .inr h
def scrD (ns : List Int) : D := .dict [(.none, .list (ns.map PyData.int))]
theorem LkL.sq {K : PySem.W.Frag} {H : Hp} {a : Addr} {xs : List V} (h : LkL K H a xs) : SqL K H a xs := .inl (.inr h)
mutual
inductive Im (K : PySem.W.Frag) (H : Hp) : V → D → Prop
  | non : Im K H .non .none
  | bl (b : Bool) : Im K H (.bl b) (.bool b)
  | int (i : Int) : Im K H (.int i) (.int i)
  | str (x : Str) : Im K H (.str x) (.str x)
  | tup {a : Addr} {xs : List V} {ds : List D} : NdT H a xs → ImL K H xs ds → Im K H (.ref a) (.tuple ds)
  | lst {a : Addr} {xs : List V} {ds : List D} : LkL K H a xs → ImL K H xs ds → Im K H (.ref a) (.list ds)
  | dic {a : Addr} {o : Obj} {kvs : List (Key × V)} {ds : List (D × D)} : H a = some (.frz o (.dK kvs)) → ImKV K H kvs ds → Im K H (.ref a) (.dict ds)
  | scr {a : Addr} {ns : List Int} : ScR K H a ns → Im K H (.ref a) (.dict [(.none, .list (ns.map PyData.int))])
  | prm {t : Addr} {x y : V} {a b : D} : SqT K H t [x, y] → Im K H x a → Im K H y b → Im K H (.ref t) (.dict [(.bool true, a), (.bool false, b)])
inductive ImL (K : PySem.W.Frag) (H : Hp) : List V → List D → Prop
  | nil : ImL K H [] []
  | cons {v : V} {vs : List V} {d : D} {ds : List D} : Im K H v d → ImL K H vs ds → ImL K H (v :: vs) (d :: ds)
inductive ImKV (K : PySem.W.Frag) (H : Hp) : List (Key × V) → List (D × D) → Prop
  | nil : ImKV K H [] []
  | cons {k : Key} {v : V} {r : List (Key × V)} {d : D} {ds : List (D × D)} : Im K H v d → ImKV K H r ds → ImKV K H ((k, v) :: r) ((keyD k, d) :: ds)
end
/-- the tables are in order -/
def TabOk (H : Hp) : Prop := LamX.Tabs Tbl.T H ∧ Tbl.G H
theorem TabOk.same {H H' : Hp} (s : Same H H') (t : TabOk H) : TabOk H' := ⟨LamX.Tabs.ext t.1 s, Tbl.up _ _ (Grow.same s) t.2⟩
theorem TabOk.updX {H : Hp} {p : Addr} {h o : HO} (e : H p = some h) (mu : Mut (some h)) (m1 : ∀ ps, h ≠ .tbl ps) (m2 : ∀ q, h ≠ LamX.CodeO p q) (t : TabOk H) : TabOk (L2.upd H p o) := ⟨fun q hq => by
  obtain ⟨ps, h1, h2, h3⟩ := t.1 q hq
  refine ⟨ps, ?_, h2, fun pos cv hc => ?_⟩
  · rw [upd_ne fun z => ?_]
    · exact h1
    · rw [z, e] at h1
      exact m1 _ (Option.some.inj h1)
  · obtain ⟨c, e1, e2⟩ := h3 pos cv hc
    refine ⟨c, e1, ?_⟩
    rw [upd_ne fun z => ?_]
    · exact e2
    · rw [z, e] at e2
      exact m2 _ (Option.some.inj e2), Tbl.up _ _ (grow_upd e mu m2) t.2⟩
theorem TabOk.upd {H : Hp} {p : Addr} {h o : HO} (e : H p = some h) (mu : Mut (some h)) (m : NoTab h) (t : TabOk H) : TabOk (L2.upd H p o) :=
  t.updX e mu (fun ps z => by
    rw [z] at m
    exact m) (noTab_code m)
theorem Grow.t {K : PySem.W.Frag} {H H' : Hp} (g : Grow H H') {a : Addr} {xs : List V} (h : SqT K H a xs) : SqT K H' a xs := by
  rcases h with (h | ⟨o, h⟩) | h
  · exact .inl (.inl (g.1 _ _ h))
  · exact .inl (.inr ⟨o, g.2.1 _ _ _ h⟩)
  · exact .inr h
theorem Grow.n {H H' : Hp} (g : Grow H H') {a : Addr} {xs : List V} (h : NdT H a xs) : NdT H' a xs := by
  obtain ⟨o, h, z⟩ := h
  exact ⟨o, g.2.1 _ _ _ h, z⟩
theorem Grow.l {K : PySem.W.Frag} {H H' : Hp} (g : Grow H H') {a : Addr} {xs : List V} (h : LkL K H a xs) : LkL K H' a xs := by
  obtain ⟨o, h⟩ := h
  exact ⟨o, g.2.1 _ _ _ h⟩
theorem Grow.s {K : PySem.W.Frag} {H H' : Hp} (g : Grow H H') {a : Addr} {ns : List Int} (h : ScR K H a ns) : ScR K H' a ns := by
  rcases h with ⟨o, h⟩ | h
  · exact .inl ⟨o, g.2.1 _ _ _ h⟩
  · exact .inr h
section
variable {K : PySem.W.Frag} {H H' : Hp}
mutual
theorem Im.grow (g : Grow H H') : ∀ {v : V} (d : D), Im K H v d → Im K H' v d
  | _, .none, .non => .non
  | _, .bool b, .bl _ => .bl b
  | _, .int i, .int _ => .int i
  | _, .str x, .str _ => .str x
  | _, .tuple ds, .tup h r => .tup (g.n h) (ImL.grow g ds r)
  | _, .list ds, .lst h r => .lst (g.l h) (ImL.grow g ds r)
  | _, .dict ds, .dic h r => .dic (g.2.1 _ _ _ h) (ImKV.grow g ds r)
  | _, .dict _, .scr h => .scr (g.s h)
  | _, .dict [(.bool true, a), (.bool false, b)], .prm h h1 h2 => .prm (g.t h) (Im.grow g a h1) (Im.grow g b h2)
theorem ImL.grow (g : Grow H H') : ∀ {vs : List V} (ds : List D), ImL K H vs ds → ImL K H' vs ds
  | _, [], .nil => .nil
  | _, d :: ds, .cons h r => .cons (Im.grow g d h) (ImL.grow g ds r)
theorem ImKV.grow (g : Grow H H') : ∀ {kvs : List (Key × V)} (ds : List (D × D)), ImKV K H kvs ds → ImKV K H' kvs ds
  | _, [], .nil => .nil
  | _, (_, d) :: ds, .cons h r => .cons (Im.grow g d h) (ImKV.grow g ds r)
end
theorem ImL.len : ∀ {vs : List V} {ds : List D}, ImL K H vs ds → vs.length = ds.length
  | _, _, .nil => rfl
  | _, _, .cons _ r => by rw [List.length_cons, List.length_cons, ImL.len r]
theorem ImL.append : ∀ {xs ys : List V} {ds es : List D}, ImL K H xs ds → ImL K H ys es → ImL K H (xs ++ ys) (ds ++ es)
  | _, _, _, _, .nil, s => s
  | _, _, _, _, .cons h r, s => .cons h (ImL.append r s)
theorem ImL.get : ∀ {xs : List V} {ds : List D} {i : Nat} {x : V}, ImL K H xs ds → xs[i]? = some x → ∃ d, ds[i]? = some d ∧ Im K H x d
  | _, _, 0, _, .cons h _, g => by
    cases (Option.some.inj g)
    exact ⟨_, rfl, h⟩
  | _, _, i + 1, _, .cons _ r, g => ImL.get (i := i) r g
theorem ImL.at : ∀ {xs : List V} {ds : List D} {i : Nat} {d : D}, ImL K H xs ds → ds[i]? = some d → ∃ x, xs[i]? = some x ∧ Im K H x d
  | _, _, 0, _, .cons h _, g => by
    cases (Option.some.inj g)
    exact ⟨_, rfl, h⟩
  | _, _, i + 1, _, .cons _ r, g => ImL.at (i := i) r g
theorem ImL.take : ∀ {xs : List V} {ds : List D} (n : Nat), ImL K H xs ds → ImL K H (xs.take n) (ds.take n)
  | _, _, 0, _ => .nil
  | _, _, _ + 1, .nil => .nil
  | _, _, n + 1, .cons h r => .cons h (ImL.take n r)
theorem ImL.drop : ∀ {xs : List V} {ds : List D} (n : Nat), ImL K H xs ds → ImL K H (xs.drop n) (ds.drop n)
  | _, _, 0, r => r
  | _, _, _ + 1, .nil => .nil
  | _, _, n + 1, .cons _ r => ImL.drop n r
theorem ImL.reverse : ∀ {xs : List V} {ds : List D}, ImL K H xs ds → ImL K H xs.reverse ds.reverse
  | _, _, .nil => .nil
  | _, _, .cons h r => by
    rw [List.reverse_cons, List.reverse_cons]
    exact ImL.append (ImL.reverse r) (.cons h .nil)
theorem ImL.strs : ∀ {xs : List V} {ns : List Str}, ImL K H xs (ns.map PyData.str) → xs = ns.map V.str
  | _, [], .nil => rfl
  | _, n :: ns, .cons h r => by
    cases h
    rw [List.map_cons, ImL.strs r]
theorem ImL.of_strs : ∀ (ns : List Str), ImL K H (ns.map V.str) (ns.map PyData.str)
  | [] => .nil
  | n :: ns => .cons (.str n) (ImL.of_strs ns)
theorem Im.same (s : Same H H') {v : V} {d : D} (h : Im K H v d) : Im K H' v d := Im.grow (Grow.same s) d h
theorem ImL.same (s : Same H H') {vs : List V} {ds : List D} (h : ImL K H vs ds) : ImL K H' vs ds := ImL.grow (Grow.same s) ds h
end
/-- what may be read as d just now: data, or a thing of a slot's own -/
inductive Vw (K : PySem.W.Frag) (H : Hp) : V → D → Prop
  | im {v : V} {d : D} : Im K H v d → Vw K H v d
  | lst {p : Addr} {vs : List V} {ds : List D} : H p = some (.lst vs) → ImL K H vs ds → Vw K H (.ref p) (.list ds)
  | dic {p : Addr} {kvs : List (Key × V)} {ds : List (D × D)} : H p = some (.dK kvs) → ImKV K H kvs ds → Vw K H (.ref p) (.dict ds)
inductive VwL (K : PySem.W.Frag) (H : Hp) : List V → List D → Prop
  | nil : VwL K H [] []
  | cons {v : V} {vs : List V} {d : D} {ds : List D} : Vw K H v d → VwL K H vs ds → VwL K H (v :: vs) (d :: ds)
section
variable {K : PySem.W.Frag} {H : Hp} {v : V}
theorem Vw.list {ds : List D} (h : Vw K H v (.list ds)) : ∃ a xs, v = .ref a ∧ SqL K H a xs ∧ ImL K H xs ds := by
  cases h with
  | im h => cases h with
    | lst h r => exact ⟨_, _, rfl, h.sq, r⟩
  | lst h r => exact ⟨_, _, rfl, .inl (.inl h), r⟩
theorem Vw.tuple {ds : List D} (h : Vw K H v (.tuple ds)) : ∃ a xs, v = .ref a ∧ SqT K H a xs ∧ ImL K H xs ds := by
  cases h with
  | im h => cases h with
    | tup h r => exact ⟨_, _, rfl, h.sq, r⟩
theorem Vw.tupleN {ds : List D} (h : Vw K H v (.tuple ds)) : ∃ a xs, v = .ref a ∧ NdT H a xs ∧ ImL K H xs ds := by
  cases h with
  | im h => cases h with
    | tup h r => exact ⟨_, _, rfl, h, r⟩
theorem Vw.str {x : Str} (h : Vw K H v (.str x)) : v = .str x := by
  cases h with
  | im h => cases h; rfl
theorem Vw.int {i : Int} (h : Vw K H v (.int i)) : v = .int i := by
  cases h with
  | im h => cases h; rfl
theorem Vw.bl {b : Bool} (h : Vw K H v (.bool b)) : v = .bl b := by
  cases h with
  | im h => cases h; rfl
theorem Vw.non (h : Vw K H v .none) : v = .non := by
  cases h with
  | im h => cases h; rfl
end
/-- a thing of a slot's own: a list, a dict; a dict whose keys are tuples (that is never locked) -/
inductive Ob
  | lst (ds : List D)
  | dk (kvs : List (D × D))
  | dt (kvs : List (D × D))
@[simp] def Ob.d : Ob → D
  | .lst ds => .list ds
  | .dk kvs => .dict kvs
  | .dt _ => .none
/-- may it be locked -/
@[simp] def Ob.nd : Ob → Bool
  | .dt _ => false
  | _ => true
/-! ### dicts whose keys are tuples -/
/-- the dict at a holds xs: the key, where it stands, what it has -/
def TDp (hs : List Key → Int) (a : Addr) (xs : List (List Key × Addr × Value)) (h : Heap) : Prop :=
  xs.length ≤ sizeLine ∧ (a == sysModules) = false ∧ ∃ o es ep, h.get? a = some o ∧ o.ExactDict ∧ o.data = .dict es ep ∧ es.toList = xs.map (fun x => (⟨hs x.1, .ref x.2.1, x.2.2⟩ : DictEntry)) ∧ (xs.map (·.1)).Nodup
theorem td_code {hs : List Key → Int} {a : Addr} {xs : List (List Key × Addr × Value)} (p : Addr) (q : Str) : HO.ext (TDp hs a xs) ≠ LamX.CodeO p q := fun z => by
  unfold LamX.CodeO at z
  injection z with z
  have z := congrFun z ⟨Array.replicate (p + 1) { cls := .none, data := .fields #[.none, .str q 0] }, {}⟩
  have t : ∀ b : Addr, b < p + 1 → (⟨Array.replicate (p + 1) { cls := .none, data := .fields #[.none, .str q 0] }, {}⟩ : Heap).get? b = some { cls := .none, data := .fields #[.none, .str q 0] } := fun b hb => by
    unfold Heap.get?
    simp [hb]
  have f : TDp hs a xs ⟨Array.replicate (p + 1) { cls := .none, data := .fields #[.none, .str q 0] }, {}⟩ := by
    rw [z]
    exact ⟨_, _, _, t p (Nat.lt_succ_self p), rfl, rfl⟩
  obtain ⟨_, _, o, es, ep, e, _, ed, _⟩ := f
  have lt := Heap.lt_size e
  rw [Array.size_replicate] at lt
  rw [t a lt] at e
  cases e
  cases ed
inductive ImT (K : PySem.W.Frag) (H : Hp) : List (List Key × Addr × Value) → List (D × D) → Prop
  | nil : ImT K H [] []
  | cons {ks : List Key} {b : Addr} {u : Value} {v : V} {d : D} {xs : List (List Key × Addr × Value)} {ds : List (D × D)} : NdT H b (ks.map kV) → RelV v u → Im K H v d → ImT K H xs ds → ImT K H ((ks, b, u) :: xs) ((.tuple (ks.map keyD), d) :: ds)
theorem ImT.grow {K : PySem.W.Frag} {H H' : Hp} (g : Grow H H') : ∀ {xs : List (List Key × Addr × Value)} {ds : List (D × D)}, ImT K H xs ds → ImT K H' xs ds
  | _, _, .nil => .nil
  | _, _, .cons h r i t => .cons (g.n h) r (i.grow g) (ImT.grow g t)
inductive ObRh (hs : List Key → Int) (K : PySem.W.Frag) (H : Hp) : HO → Ob → Prop
  | lst {vs : List V} {ds : List D} : ImL K H vs ds → ObRh hs K H (.lst vs) (.lst ds)
  | dk {kvs : List (Key × V)} {ds : List (D × D)} : ImKV K H kvs ds → ObRh hs K H (.dK kvs) (.dk ds)
  | dt {a : Addr} {xs : List (List Key × Addr × Value)} {ds : List (D × D)} : ImT K H xs ds → ObRh hs K H (.ext (TDp hs a xs)) (.dt ds)
abbrev ObR (K : PySem.W.Frag) (H : Hp) : HO → Ob → Prop := ObRh Tbl.hs K H
theorem ObRh.grow {hs : List Key → Int} {K : PySem.W.Frag} {H H' : Hp} (g : Grow H H') {h : HO} {o : Ob} (x : ObRh hs K H h o) : ObRh hs K H' h o := by
  cases x with
  | lst r => exact .lst (r.grow g)
  | dk r => exact .dk (r.grow g)
  | dt r => exact .dt (r.grow g)
theorem ObR.grow {K : PySem.W.Frag} {H H' : Hp} (g : Grow H H') {h : HO} {o : Ob} (x : ObR K H h o) : ObR K H' h o := ObRh.grow g x
theorem ObR.noTab {K : PySem.W.Frag} {H : Hp} {h : HO} {o : Ob} (x : ObR K H h o) : NoTab h := by
  cases x with
  | lst _ => trivial
  | dk _ => trivial
  | dt _ => exact td_code
theorem ObR.no_tbl {K : PySem.W.Frag} {H : Hp} {h : HO} {o : Ob} (x : ObR K H h o) {ps : Array Value} (e : h = .tbl ps) : False := by
  subst e
  cases x
theorem ObR.mut {K : PySem.W.Frag} {H : Hp} {h : HO} {o : Ob} (x : ObR K H h o) : Mut (some h) := by
  cases x <;> trivial
inductive Sl
  | no
  | dat (d : D)
  | own (o : Ob)
  /-- a caught exception: its class, its field, what the field holds -/
  | exc (c f : Str) (d : D)
/-- a caught exception stands at a -/
def ExcA (K : PySem.W.Frag) (H : Hp) (a : Addr) (c f : Str) (d : D) : Prop :=
  ∃ (dd C : Addr) (oe : Obj) (u : HO) (v : V), H a = some (.frz oe u) ∧ oe.cls = .ref C ∧ oe.dict = some dd ∧ (∃ vs, oe.data = .fields vs) ∧ H dd = some (.xd [(f, v)]) ∧ PySem.W.nsIn K mainGlobals c = some (some (.ref C)) ∧ Im K H v d
theorem ExcA.grow {K : PySem.W.Frag} {H H' : Hp} (g : Grow H H') {a : Addr} {c f : Str} {d : D} (x : ExcA K H a c f d) : ExcA K H' a c f d := by
  obtain ⟨dd, C, oe, u, v, h1, h2, h3, h4, h5, h6, h7⟩ := x
  exact ⟨dd, C, oe, u, v, g.2.1 _ _ _ h1, h2, h3, h4, g.2.2.1 _ _ h5, h6, h7.grow g⟩
/-- a lambda that was handed in stands at a: -/
def ThkA (a : Addr) (c : Str) (d : D) : Prop := c = "" ∧ d = .dict [(.tuple [], .int ((a : Nat) : Int))]
def ExcAt (K : PySem.W.Frag) (H : Hp) (a : Addr) (c f : Str) (d : D) : Prop := ExcA K H a c f d ∨ ThkA a c d
theorem ExcAt.grow {K : PySem.W.Frag} {H H' : Hp} (g : Grow H H') {a : Addr} {c f : Str} {d : D} (x : ExcAt K H a c f d) : ExcAt K H' a c f d := by
  rcases x with x | x
  · exact .inl (x.grow g)
  · exact .inr x
theorem ExcAt.err {K : PySem.W.Frag} {H : Hp} {a : Addr} {c f : Str} {d : D} (x : ExcAt K H a c f d) (h : c ≠ "") : ExcA K H a c f d := x.elim id fun y => absurd y.1 h
abbrev Ev := List Sl
abbrev St := L2.St
def Own (σ : St) (ρ : Ev) (p : Addr) : Prop := ∃ (i : Nat) (o : Ob), ρ[i]? = some (.own o) ∧ σ[i]? = some (some (.ref p))
structure Good (K : PySem.W.Frag) (H : Hp) (σ : St) (ρ : Ev) : Prop where
  len : σ.length = ρ.length
  dat : ∀ (i : Nat) (d : D), ρ[i]? = some (.dat d) → ∃ v, σ[i]? = some (some v) ∧ Im K H v d
  own : ∀ (i : Nat) (o : Ob), ρ[i]? = some (.own o) → ∃ p h, σ[i]? = some (some (.ref p)) ∧ H p = some h ∧ ObR K H h o
  dif : ∀ (i j : Nat) (o o' : Ob) (p : Addr), ρ[i]? = some (.own o) → ρ[j]? = some (.own o') → σ[i]? = some (some (.ref p)) → σ[j]? = some (some (.ref p)) → i = j
  tab : TabOk H
  exc : ∀ (i : Nat) (c f : Str) (d : D), ρ[i]? = some (.exc c f d) → ∃ a, σ[i]? = some (some (.ref a)) ∧ ExcAt K H a c f d
theorem Good.at {K : PySem.W.Frag} {H : Hp} {σ : St} {ρ : Ev} (G : Good K H σ ρ) {p : Addr} (h : Own σ ρ p) : ∃ h o, H p = some h ∧ ObR K H h o := by
  obtain ⟨i, o, e1, e2⟩ := h
  obtain ⟨q, h, e3, e4, e5⟩ := G.own i o e1
  rw [e2] at e3
  cases e3
  exact ⟨h, o, e4, e5⟩
/-- from one state to another: what was there and is no slot's own is as it was -/
structure Stp (K : PySem.W.Frag) (n : Nat) (H : Hp) (σ : St) (ρ : Ev) (H' : Hp) (σ' : St) (ρ' : Ev) : Prop where
  good : Good K H' σ' ρ'
  par : ∀ i, i < n → σ'[i]? = σ[i]? ∧ ∀ o, ρ[i]? = some (Sl.own o) → ∃ o', ρ'[i]? = some (Sl.own o')
  kept : ∀ b o, H b = some o → ¬ Own σ ρ b → (∀ ps, o ≠ .tbl ps) → H' b = some o
  news : ∀ p, Own σ' ρ' p → Own σ ρ p ∨ H p = none
  live : ∀ b, H' b = none → H b = none
section
variable {K : PySem.W.Frag} {n : Nat} {H H1 H2 H' : Hp} {σ σ1 σ2 σ' : St} {ρ ρ1 ρ2 ρ' : Ev}
theorem Stp.refl (G : Good K H σ ρ) : Stp K n H σ ρ H σ ρ := ⟨G, fun _ _ => ⟨rfl, fun o h => ⟨o, h⟩⟩, fun _ _ h _ _ => h, fun _ h => .inl h, fun _ h => h⟩
theorem Stp.trans (a : Stp K n H σ ρ H1 σ1 ρ1) (b : Stp K n H1 σ1 ρ1 H2 σ2 ρ2) : Stp K n H σ ρ H2 σ2 ρ2 := by
  refine ⟨b.good, fun i hi => ⟨(b.par i hi).1.trans (a.par i hi).1, fun o h => ?_⟩, fun c o h nc nt => b.kept c o (a.kept c o h nc nt) (fun z => ?_) nt, fun p h => ?_, fun c h => a.live c (b.live c h)⟩
  · obtain ⟨o1, e1⟩ := (a.par i hi).2 o h
    exact (b.par i hi).2 o1 e1
  · rcases a.news c z with z | z
    · exact nc z
    · rw [h] at z
      cases z
  · rcases b.news p h with z | z
    · exact a.news p z
    · exact .inr (a.live p z)
theorem Stp.grow (G : Good K H σ ρ) (s : Stp K n H σ ρ H' σ' ρ') : Grow H H' := by
  refine ⟨fun b xs h => s.kept b _ h (fun z => ?_) (fun ps z => nomatch z), fun b o u h => s.kept b _ h (fun z => ?_) (fun ps z => nomatch z), fun b fs h => s.kept b _ h (fun z => ?_) (fun ps z => nomatch z), fun b q h => s.kept b _ h (fun z => ?_) (fun ps z => LamX.codeO_ne ps z)⟩
  · obtain ⟨h', o, e, r⟩ := G.at z
    rw [h] at e
    cases e
    cases r
  · obtain ⟨h', o', e, r⟩ := G.at z
    rw [h] at e
    cases e
    cases r
  · obtain ⟨h', o', e, r⟩ := G.at z
    rw [h] at e
    cases e
    cases r
  · obtain ⟨h', o', e, r⟩ := G.at z
    rw [h] at e
    exact noTab_code r.noTab q (Option.some.inj e).symm
theorem Good.grow (G : Good K H σ ρ) (g : Grow H H') (k : ∀ p o, Own σ ρ p → H p = some o → H' p = some o) (t : TabOk H → TabOk H') : Good K H' σ ρ := by
  refine ⟨G.len, fun i d e => ?_, fun i o e => ?_, G.dif, t G.tab, fun i c f d e => (G.exc i c f d e).elim fun a h => ⟨a, h.1, h.2.grow g⟩⟩
  · obtain ⟨v, e1, h⟩ := G.dat i d e
    exact ⟨v, e1, h.grow g⟩
  · obtain ⟨p, h, e1, e2, r⟩ := G.own i o e
    exact ⟨p, h, e1, k p h ⟨i, o, e, e1⟩ e2, r.grow g⟩
theorem Stp.same (G : Good K H σ ρ) (s : Same H H') : Stp K n H σ ρ H' σ ρ :=
  ⟨G.grow (Grow.same s) (fun p o _ e => s p o e) (TabOk.same s), fun _ _ => ⟨rfl, fun o h => ⟨o, h⟩⟩, fun b o h _ _ => s b o h, fun _ h => .inl h, fun b h => s.free h⟩
end
/-- what a piece gives: nothing that is known, a value, an error -/
inductive Rt (α : Type)
  | no
  | ok (a : α) (ρ : Ev)
  | ex (c : Str) (d : D) (ρ : Ev)
@[simp] def Rt.bind {α β : Type} : Rt α → (α → Ev → Rt β) → Rt β
  | .no, _ => .no
  | .ok a ρ, k => k a ρ
  | .ex c d ρ, _ => .ex c d ρ
abbrev Mo (α : Type) := Ev → Rt α
/-- a value: data, or what a slot has of its own -/
inductive R
  | d (x : D)
  | v (i : Nat)
@[simp] def Sl.ob : Sl → Option D
  | .own (.lst ds) => some (.list ds)
  | .own (.dk kvs) => some (.dict kvs)
  | _ => none
@[simp] def look (ρ : Ev) : R → Option D
  | .d x => some x
  | .v i => ρ[i]?.bind Sl.ob
inductive RR (K : PySem.W.Frag) (H : Hp) (σ : St) : V → R → Prop
  | d {v : V} {x : D} : Im K H v x → RR K H σ v (.d x)
  | v {v : V} {i : Nat} : σ[i]? = some (some v) → RR K H σ v (.v i)
inductive RRs (K : PySem.W.Frag) (H : Hp) (σ : St) : List V → List R → Prop
  | nil : RRs K H σ [] []
  | cons {v : V} {vs : List V} {r : R} {rs : List R} : RR K H σ v r → RRs K H σ vs rs → RRs K H σ (v :: vs) (r :: rs)
abbrev XW := Str → D → St → Hp → Prop
def Aft {α : Type} (K : PySem.W.Frag) (n : Nat) (W : XW) (H : Hp) (σ : St) (ρ : Ev) (r : Rt α) (Q : α → Ev → Hp → Prop) : Prop := match r with
  | .no => False
  | .ok a ρ' => ∀ H', Stp K n H σ ρ H' σ ρ' → Q a ρ' H'
  | .ex c d ρ' => ∀ H', Stp K n H σ ρ H' σ ρ' → W c d σ H'
section
variable {α β : Type} {K : PySem.W.Frag} {n : Nat} {W : XW} {H H' : Hp} {σ : St} {ρ : Ev}
theorem RR.grow (g : Grow H H') {v : V} {r : R} (x : RR K H σ v r) : RR K H' σ v r := by
  cases x with
  | d h => exact .d (h.grow g)
  | v h => exact .v h
theorem RRs.grow (g : Grow H H') : ∀ {vs : List V} {rs : List R}, RRs K H σ vs rs → RRs K H' σ vs rs
  | _, _, .nil => .nil
  | _, _, .cons h r => .cons (h.grow g) (RRs.grow g r)
theorem RRs.len : ∀ {vs : List V} {rs : List R}, RRs K H σ vs rs → vs.length = rs.length
  | _, _, .nil => rfl
  | _, _, .cons _ r => by rw [List.length_cons, List.length_cons, RRs.len r]
theorem RR.see (G : Good K H σ ρ) {v : V} {r : R} {d : D} (x : RR K H σ v r) (h : look ρ r = some d) : Vw K H v d := by
  cases x with
  | d y =>
    cases h
    exact .im y
  | @v i y =>
    have h : ρ[i]?.bind Sl.ob = some d := h
    cases e : ρ[i]? with
    | none =>
      rw [e] at h
      cases h
    | some s =>
      rw [e] at h
      cases s with
      | own o =>
        obtain ⟨p, ho, e1, e2, r⟩ := G.own i o e
        rw [y] at e1
        cases e1
        cases r with
        | lst r =>
          cases h
          exact .lst e2 r
        | dk r =>
          cases h
          exact .dic e2 r
        | dt r => cases h
      | no => cases h
      | exc _ _ _ => cases h
      | dat _ => cases h
theorem Aft.mono {r : Rt α} {Q Q' : α → Ev → Hp → Prop} (h : Aft K n W H σ ρ r Q) (q : ∀ a ρ' H', Stp K n H σ ρ H' σ ρ' → Q a ρ' H' → Q' a ρ' H') : Aft K n W H σ ρ r Q' := by
  cases r with
  | no => exact h
  | ok a ρ' => exact fun H' s => q a ρ' H' s (h H' s)
  | ex c d ρ' => exact h
theorem Aft.bind {m : Rt α} {k : α → Ev → Rt β} {Q : β → Ev → Hp → Prop} (h : Aft K n W H σ ρ (m.bind k) Q) : Aft K n W H σ ρ m fun a ρ1 H1 => Aft K n W H1 σ ρ1 (k a ρ1) Q := by
  cases m with
  | no => exact h
  | ok a ρ1 =>
    intro H1 s1
    have h : Aft K n W H σ ρ (k a ρ1) Q := h
    show Aft K n W H1 σ ρ1 (k a ρ1) Q
    generalize k a ρ1 = r at h
    cases r with
    | no => exact h
    | ok b ρ2 => exact fun H2 s2 => h H2 (s1.trans s2)
    | ex c d ρ2 => exact fun H2 s2 => h H2 (s1.trans s2)
  | ex c d ρ1 => exact h
theorem Aft.ok {a : α} {Q : α → Ev → Hp → Prop} (G : Good K H σ ρ) (h : Aft K n W H σ ρ (.ok a ρ) Q) : Q a ρ H := h H (Stp.refl G)
end
/-- the readings -/
def tX (K : PySem.W.Frag) (n : Nat) (W : XW) (m : Mo R) : TE := fun σ H Q => ∃ ρ, Good K H σ ρ ∧ Aft K n W H σ ρ (m ρ) fun r _ H' => ∀ v, RR K H' σ v r → Q v H'
def tXs (K : PySem.W.Frag) (n : Nat) (W : XW) (m : Mo (List R)) : TA := fun σ H Q => ∃ ρ, Good K H σ ρ ∧ Aft K n W H σ ρ (m ρ) fun rs _ H' => ∀ vs, RRs K H' σ vs rs → Q vs H'
def tXb (K : PySem.W.Frag) (n : Nat) (W : XW) (m : Mo Bool) : TT := fun σ H Q => ∃ ρ, Good K H σ ρ ∧ Aft K n W H σ ρ (m ρ) fun b _ H' => Q b H'
abbrev XD (X : Cx) (n : Nat) (W : XW) (e : Expr) (m : Mo R) : Prop := PE X e (tX X.K n W m)
abbrev XA (X : Cx) (n : Nat) (W : XW) (es : List Expr) (m : Mo (List R)) : Prop := PA X es (tXs X.K n W m)
abbrev XB (X : Cx) (n : Nat) (W : XW) (e : Expr) (m : Mo Bool) : Prop := PT X e (tXb X.K n W m)
section
variable {X : Cx} {n : Nat} {W : XW}
theorem weakE {e : Expr} {t t' : TE} (h : PE X e t) (q : ∀ σ H Q, t' σ H Q → t σ H Q) : PE X e t' := ⟨fun pins s σ H Q I z => h.run pins s σ H Q I (q σ H Q z)⟩
theorem weakA {e : List Expr} {t t' : TA} (h : PA X e t) (q : ∀ σ H Q, t' σ H Q → t σ H Q) : PA X e t' := ⟨fun pos pins s σ H Q I z => h.run pos pins s σ H Q I (q σ H Q z)⟩
theorem weakT {e : Expr} {t t' : TT} (h : PT X e t) (q : ∀ σ H Q, t' σ H Q → t σ H Q) : PT X e t' := ⟨fun pins s σ H Q I z => h.run pins s σ H Q I (q σ H Q z)⟩
theorem weakW {e : Expr} {t t' : TT} (h : PW X e t) (q : ∀ σ H Q, t' σ H Q → t σ H Q) : PW X e t' := ⟨fun wh pins s σ H Q I z => h.run wh pins s σ H Q I (q σ H Q z)⟩
/-- what an operation on data gives -/
@[simp] def lift (o : Option D) : Mo R := fun ρ => match o with
  | some d => .ok (.d d) ρ
  | none => .no
theorem Aft.out {K : PySem.W.Frag} {H : Hp} {σ : St} {ρ : Ev} {o : Option D} {Q : VK} (G : Good K H σ ρ) (h : Aft K n W H σ ρ (lift o ρ) fun r _ H' => ∀ v, RR K H' σ v r → Q v H') :
    ∃ d, o = some d ∧ ∀ v H', Same H H' → Im K H' v d → Q v H' := by
  cases o with
  | none => exact h.elim
  | some d => exact ⟨d, rfl, fun v H' s i => h H' (Stp.same G s) v (.d i)⟩
/-! ### names, constants -/
@[simp] def eVar (i : Nat) : Mo R := fun ρ => match ρ[i]? with
  | some (.dat d) => .ok (.d d) ρ
  | some (.own _) => .ok (.v i) ρ
  | _ => .no
theorem xd_var {i : Nat} {x : Str} {pos : Pos} (h : PE X (.Name x pos) (tVar i)) : XD X n W (.Name x pos) (eVar i) := weakE h fun σ H Q ⟨ρ, G, h⟩ => by
  unfold eVar at h
  split at h
  · next d e =>
    obtain ⟨v, e1, im⟩ := G.dat i d e
    exact ⟨v, e1, Aft.ok G h v (.d im)⟩
  · next o e =>
    obtain ⟨p, ho, e1, _⟩ := G.own i o e
    exact ⟨_, e1, Aft.ok G h _ (.v e1)⟩
  · exact h.elim
@[simp] def eC (d : D) : Mo R := fun ρ => .ok (.d d) ρ
theorem xd_c {e : Expr} {v : V} {d : D} (h : PE X e (tC v)) (i : ∀ H, Im X.K H v d) : XD X n W e (eC d) := weakE h fun σ H Q ⟨ρ, G, h⟩ => Aft.ok G h v (.d (i H))
theorem xd_int {i : Int} {j pos} : XD X n W (.Constant (.int i) j pos) (eC (.int i)) := xd_c pe_int fun _ => .int i
theorem xd_bl {b : Bool} {j pos} : XD X n W (.Constant (.bool b) j pos) (eC (.bool b)) := xd_c pe_bl fun _ => .bl b
theorem xd_non {j pos} : XD X n W (.Constant .none j pos) (eC .none) := xd_c pe_non fun _ => .non
theorem xd_str {x : Str} {j pos} : XD X n W (.Constant (.str x) j pos) (eC (.str x)) := xd_c pe_str fun _ => .str x
/-! ### arguments -/
@[simp] def eNil : Mo (List R) := fun ρ => .ok [] ρ
@[simp] def eCons (m : Mo R) (r : Mo (List R)) : Mo (List R) := fun ρ => (m ρ).bind fun x ρ1 => (r ρ1).bind fun xs ρ2 => .ok (x :: xs) ρ2
theorem xa_nil : XA X n W [] eNil := weakA pa_nil fun σ H Q ⟨ρ, G, h⟩ => Aft.ok G h [] .nil
theorem xa_cons {e : Expr} {es : List Expr} {m : Mo R} {r : Mo (List R)} (he : XD X n W e m) (hr : XA X n W es r) (hs : starEach (e :: es) X.env = (false, eval e X.env) :: starEach es X.env := by rfl) : XA X n W (e :: es) (eCons m r) :=
  weakA (pa_cons he hr hs) fun σ H Q ⟨ρ, G, h⟩ => ⟨ρ, G, (Aft.bind h).mono fun x ρ1 H1 s1 h1 v rv => ⟨ρ1, s1.good, (Aft.bind h1).mono fun xs ρ2 H2 s2 h2 vs rvs => Aft.ok s2.good h2 (v :: vs) (.cons (rv.grow (s2.grow s1.good)) rvs)⟩⟩
@[simp] def looks (ρ : Ev) : List R → Option (List D)
  | [] => some []
  | r :: rs => match look ρ r, looks ρ rs with
    | some d, some ds => some (d :: ds)
    | _, _ => none
theorem RRs.see {K : PySem.W.Frag} {H : Hp} {σ : St} {ρ : Ev} (G : Good K H σ ρ) : ∀ {vs : List V} {rs : List R} {ds : List D}, RRs K H σ vs rs → looks ρ rs = some ds → VwL K H vs ds
  | _, _, _, .nil, h => by
    cases h
    exact .nil
  | _, _, _, .cons x xs, h => by
    unfold looks at h
    split at h
    · next e1 e2 =>
      cases h
      exact .cons (x.see G e1) (RRs.see G xs e2)
    · cases h
/-! ### operations on values -/
def Op2 (K : PySem.W.Frag) (r : R2) (F : D → D → Option D) : Prop := ∀ x y a b d H Q, Vw K H x a → Vw K H y b → F a b = some d → (∀ v H', Same H H' → Im K H' v d → Q v H') → r x y H Q
def Op1 (K : PySem.W.Frag) (r : V → Hp → VK → Prop) (F : D → Option D) : Prop := ∀ x a d H Q, Vw K H x a → F a = some d → (∀ v H', Same H H' → Im K H' v d → Q v H') → r x H Q
def OpN (K : PySem.W.Frag) (r : List V → Hp → VK → Prop) (F : List D → Option D) : Prop := ∀ xs as d H Q, VwL K H xs as → F as = some d → (∀ v H', Same H H' → Im K H' v d → Q v H') → r xs H Q
@[simp] def F2 (F : D → D → Option D) (ρ : Ev) (a b : R) : Option D := match look ρ a, look ρ b with
  | some x, some y => F x y
  | _, _ => none
@[simp] def e2 (F : D → D → Option D) (f g : Mo R) : Mo R := fun ρ => (f ρ).bind fun a ρ1 => (g ρ1).bind fun b ρ2 => lift (F2 F ρ2 a b) ρ2
@[simp] def e1 (F : D → Option D) (f : Mo R) : Mo R := fun ρ => (f ρ).bind fun a ρ1 => lift ((look ρ1 a).bind F) ρ1
@[simp] def eN (F : List D → Option D) (f : Mo (List R)) : Mo R := fun ρ => (f ρ).bind fun a ρ1 => lift ((looks ρ1 a).bind F) ρ1
theorem op2_run {r : R2} {F : D → D → Option D} {f g : Mo R} (hF : Op2 X.K r F) (σ : St) (H : Hp) (Q : VK) (h : tX X.K n W (e2 F f g) σ H Q) : tX X.K n W f σ H fun x H1 => tX X.K n W g σ H1 fun y H2 => r x y H2 Q := by
  obtain ⟨ρ, G, h⟩ := h
  refine ⟨ρ, G, (Aft.bind h).mono fun a ρ1 H1 s1 h1 v rv => ⟨ρ1, s1.good, (Aft.bind h1).mono fun b ρ2 H2 s2 h2 u ru => ?_⟩⟩
  obtain ⟨d, e, q⟩ := Aft.out s2.good h2
  unfold F2 at e
  split at e
  · next x y ex ey => exact hF v u x y d H2 Q ((rv.grow (s2.grow s1.good)).see s2.good ex) (ru.see s2.good ey) e q
  · cases e
theorem op1_run {r : V → Hp → VK → Prop} {F : D → Option D} {f : Mo R} (hF : Op1 X.K r F) (σ : St) (H : Hp) (Q : VK) (h : tX X.K n W (e1 F f) σ H Q) : tX X.K n W f σ H fun x H1 => r x H1 Q := by
  obtain ⟨ρ, G, h⟩ := h
  refine ⟨ρ, G, (Aft.bind h).mono fun a ρ1 H1 s1 h1 v rv => ?_⟩
  obtain ⟨d, e, q⟩ := Aft.out s1.good h1
  cases ea : look ρ1 a with
  | none =>
    rw [ea] at e
    cases e
  | some x =>
    rw [ea] at e
    exact hF v x d H1 Q (rv.see s1.good ea) e q
theorem opN_run {r : List V → Hp → VK → Prop} {F : List D → Option D} {f : Mo (List R)} (hF : OpN X.K r F) (σ : St) (H : Hp) (Q : VK) (h : tX X.K n W (eN F f) σ H Q) : tXs X.K n W f σ H fun xs H1 => r xs H1 Q := by
  obtain ⟨ρ, G, h⟩ := h
  refine ⟨ρ, G, (Aft.bind h).mono fun a ρ1 H1 s1 h1 vs rvs => ?_⟩
  obtain ⟨d, e, q⟩ := Aft.out s1.good h1
  cases ea : looks ρ1 a with
  | none =>
    rw [ea] at e
    cases e
  | some x =>
    rw [ea] at e
    exact hF vs x d H1 Q (rvs.see s1.good ea) e q
theorem xd_op {a b : Expr} {op : Operator} {pos : Pos} {r : R2} {F : D → D → Option D} {f g : Mo R} (ho : OpR X (binaryOp op) r) (hF : Op2 X.K r F) (ha : XD X n W a f) (hb : XD X n W b g) : XD X n W (.BinOp a op b pos) (e2 F f g) := weakE (pe_op ho ha hb) (op2_run hF)
theorem xd_cmp {a b : Expr} {op : CmpOp} {pos : Pos} {r : R2} {F : D → D → Option D} {f g : Mo R} (ho : OpR X (compareOp op) r) (hF : Op2 X.K r F) (ha : XD X n W a f) (hb : XD X n W b g) (hm : behindInMarks op b = false) : XD X n W (.Compare a [op] [b] pos) (e2 F f g) := weakE (pe_cmpR ho ha hb hm) (op2_run hF)
/-! ### truth -/
@[simp] def asB (m : Mo R) : Mo Bool := fun ρ => (m ρ).bind fun r ρ1 => match look ρ1 r with
  | some (.bool b) => .ok b ρ1
  | _ => .no
theorem asB_run {f : Mo R} {σ : St} {H : Hp} {Q : Bool → Hp → Prop} (h : tXb X.K n W (asB f) σ H Q) : tX X.K n W f σ H fun x H1 => ∃ c, x = .bl c ∧ Q c H1 := by
  obtain ⟨ρ, G, h⟩ := h
  refine ⟨ρ, G, (Aft.bind h).mono fun a ρ1 H1 s1 h1 v rv => ?_⟩
  split at h1
  · next b e =>
    have := rv.see s1.good e
    exact ⟨b, this.bl, Aft.ok s1.good h1⟩
  · exact h1.elim
theorem xb_cmp {a b : Expr} {op : CmpOp} {pos : Pos} {r : R2} {F : D → D → Option D} {f g : Mo R} (ho : OpR X (compareOp op) r) (hF : Op2 X.K r F) (ha : XD X n W a f) (hb : XD X n W b g) (hm : behindInMarks op b = false) : XB X n W (.Compare a [op] [b] pos) (asB (e2 F f g)) :=
  weakT (pt_cmpR ho ha hb hm) fun σ H Q h => op2_run hF σ H _ (asB_run h)
theorem xb_val {e : Expr} {f : Mo R} (h : XD X n W e f) (he : ∀ whole, isTrue e X.env whole = (do let v ← whole; standAt e.pos; holding [v] (truthy v)) := by intro _; rfl) : XB X n W e (asB f) := weakT (pt_val h he) fun σ H Q h => asB_run h
@[simp] def bNot (f : Mo Bool) : Mo Bool := fun ρ => (f ρ).bind fun b ρ1 => .ok (!b) ρ1
@[simp] def bAnd (f g : Mo Bool) : Mo Bool := fun ρ => (f ρ).bind fun b ρ1 => if b = true then g ρ1 else .ok false ρ1
@[simp] def bOr (f g : Mo Bool) : Mo Bool := fun ρ => (f ρ).bind fun b ρ1 => if b = true then .ok true ρ1 else g ρ1
theorem xb_not {a : Expr} {pos : Pos} {f : Mo Bool} (h : XB X n W a f) : XB X n W (.UnaryOp .Not a pos) (bNot f) := weakT (pt_not h) fun σ H Q ⟨ρ, G, h⟩ => ⟨ρ, G, (Aft.bind h).mono fun b ρ1 H1 s1 h1 => Aft.ok s1.good h1⟩
abbrev XWb (X : Cx) (n : Nat) (W : XW) (e : Expr) (m : Mo Bool) : Prop := PW X e (tXb X.K n W m)
theorem and_run {f g : Mo Bool} {σ : St} {H : Hp} {Q : Bool → Hp → Prop} (h : tXb X.K n W (bAnd f g) σ H Q) : tAnd (tXb X.K n W f) (tXb X.K n W g) σ H Q := by
  obtain ⟨ρ, G, h⟩ := h
  refine ⟨ρ, G, (Aft.bind h).mono fun b ρ1 H1 s1 h1 => ?_⟩
  cases b with
  | true => exact iteT ⟨ρ1, s1.good, h1⟩
  | false => exact iteF (Aft.ok s1.good h1)
theorem or_run {f g : Mo Bool} {σ : St} {H : Hp} {Q : Bool → Hp → Prop} (h : tXb X.K n W (bOr f g) σ H Q) : tOr (tXb X.K n W f) (tXb X.K n W g) σ H Q := by
  obtain ⟨ρ, G, h⟩ := h
  refine ⟨ρ, G, (Aft.bind h).mono fun b ρ1 H1 s1 h1 => ?_⟩
  cases b with
  | true => exact iteT (Aft.ok s1.good h1)
  | false => exact iteF ⟨ρ1, s1.good, h1⟩
theorem xw_and1 {a : Expr} {pos : Pos} {f : Mo Bool} (h : XB X n W a f) : XWb X n W (.BoolOp .And [a] pos) f := pw_and1 h
theorem xw_or1 {a : Expr} {pos : Pos} {f : Mo Bool} (h : XB X n W a f) : XWb X n W (.BoolOp .Or [a] pos) f := pw_or1 h
theorem xw_and {a b : Expr} {rest : List Expr} {pos : Pos} {f g : Mo Bool} (ha : XB X n W a f) (hb : XWb X n W (.BoolOp .And (b :: rest) pos) g) : XWb X n W (.BoolOp .And (a :: b :: rest) pos) (bAnd f g) := weakW (pw_and ha hb) fun _ _ _ h => and_run h
theorem xw_or {a b : Expr} {rest : List Expr} {pos : Pos} {f g : Mo Bool} (ha : XB X n W a f) (hb : XWb X n W (.BoolOp .Or (b :: rest) pos) g) : XWb X n W (.BoolOp .Or (a :: b :: rest) pos) (bOr f g) := weakW (pw_or ha hb) fun _ _ _ h => or_run h
@[simp] def eIf (c : Mo Bool) (f g : Mo R) : Mo R := fun ρ => (c ρ).bind fun b ρ1 => if b = true then f ρ1 else g ρ1
theorem xd_if {c a b : Expr} {pos : Pos} {fc : Mo Bool} {f g : Mo R} (hc : XB X n W c fc) (ha : XD X n W a f) (hb : XD X n W b g) : XD X n W (.IfExp c a b pos) (eIf fc f g) := weakE (pe_ifExp hc ha hb) fun σ H Q ⟨ρ, G, h⟩ => by
  refine ⟨ρ, G, (Aft.bind h).mono fun k ρ1 H1 s1 h1 => ?_⟩
  cases k with
  | true => exact iteT ⟨ρ1, s1.good, h1⟩
  | false => exact iteF ⟨ρ1, s1.good, h1⟩
/-- x and y, x or y, not x as values, of bools -/
@[simp] def eAnd (f g : Mo R) : Mo R := fun ρ => (f ρ).bind fun r ρ1 => match look ρ1 r with
  | some (.bool b) => if b = true then g ρ1 else .ok (.d (.bool false)) ρ1
  | _ => .no
@[simp] def eOr (f g : Mo R) : Mo R := fun ρ => (f ρ).bind fun r ρ1 => match look ρ1 r with
  | some (.bool b) => if b = true then .ok (.d (.bool true)) ρ1 else g ρ1
  | _ => .no
theorem xd_and {a b : Expr} {rest : List Expr} {pos : Pos} {f g : Mo R} (ha : XD X n W a f) (hb : XD X n W (.BoolOp .And (b :: rest) pos) g) : XD X n W (.BoolOp .And (a :: b :: rest) pos) (eAnd f g) := weakE (pe_and ha hb) fun σ H Q ⟨ρ, G, h⟩ => by
  refine ⟨ρ, G, (Aft.bind h).mono fun r ρ1 H1 s1 h1 v rv => ?_⟩
  split at h1
  · next b e =>
    refine ⟨b, (rv.see s1.good e).bl, ?_⟩
    cases b with
    | true => exact iteT ⟨ρ1, s1.good, h1⟩
    | false => exact iteF (Aft.ok s1.good h1 _ (.d (.bl false)))
  · exact h1.elim
theorem xd_one {a : Expr} {op} {pos : Pos} {f : Mo R} (h : XD X n W a f) : XD X n W (.BoolOp op [a] pos) f := pe_one h
@[simp] def notD : D → Option D
  | .bool b => some (.bool (!b))
  | _ => none
end
end Q
namespace Q
open PySem PySem.Spec PyProof.Rows L2
variable [Tbl]
theorem set_at {α : Type} {l : List α} {i : Nat} {a : α} (h : i < l.length) : (l.set i a)[i]? = some a := by
  rw [List.getElem?_set, if_pos rfl, if_pos h]
theorem set_ne {α : Type} {l : List α} {i j : Nat} {a : α} (h : i ≠ j) : (l.set i a)[j]? = l[j]? := by
  rw [List.getElem?_set, if_neg h]
section
variable {K : PySem.W.Frag} {n : Nat} {H H1 H2 H' : Hp} {σ σ1 σ2 σ' : St} {ρ ρ1 ρ2 ρ' : Ev}
theorem Own.set {i : Nat} {v : Option V} {d : D} {p : Addr} (h : Own (σ.set i v) (ρ.set i (.dat d)) p) (hi : i < ρ.length) : Own σ ρ p := by
  obtain ⟨j, o, e1, e2⟩ := h
  by_cases e : i = j
  · subst e
    rw [set_at hi] at e1
    cases e1
  · rw [set_ne e] at e1 e2
    exact ⟨j, o, e1, e2⟩
theorem Good.set_dat (G : Good K H σ ρ) {i : Nat} (hi : i < ρ.length) {v : V} {d : D} (h : Im K H v d) : Good K H (σ.set i (some v)) (ρ.set i (.dat d)) := by
  have his : i < σ.length := by rw [G.len]; exact hi
  refine ⟨by rw [List.length_set, List.length_set, G.len], fun j e hj => ?_, fun j o hj => ?_, fun j k o o' p h1 h2 h3 h4 => ?_, G.tab, fun j c f e hj => ?_⟩
  · by_cases q : i = j
    · subst q
      rw [set_at hi] at hj
      cases hj
      exact ⟨v, set_at his, h⟩
    · rw [set_ne q] at hj ⊢
      exact G.dat j e hj
  · by_cases q : i = j
    · subst q
      rw [set_at hi] at hj
      cases hj
    · rw [set_ne q] at hj ⊢
      exact G.own j o hj
  · have nj : i ≠ j := fun q => by
      subst q
      rw [set_at hi] at h1
      cases h1
    have nk : i ≠ k := fun q => by
      subst q
      rw [set_at hi] at h2
      cases h2
    rw [set_ne nj] at h1 h3
    rw [set_ne nk] at h2 h4
    exact G.dif j k o o' p h1 h2 h3 h4
  · by_cases q : i = j
    · subst q
      rw [set_at hi] at hj
      cases hj
    · rw [set_ne q] at hj ⊢
      exact G.exc j c f e hj
theorem Stp.set_dat (s : Stp K n H σ ρ H' σ' ρ') {i : Nat} (hn : n ≤ i) (hi : i < ρ'.length) {v : V} {d : D} (h : Im K H' v d) : Stp K n H σ ρ H' (σ'.set i (some v)) (ρ'.set i (.dat d)) :=
  ⟨s.good.set_dat hi h, fun j hj => by
    have ne : i ≠ j := by omega
    rw [set_ne ne, set_ne ne]
    exact s.par j hj, s.kept, fun p h => s.news p (h.set hi), s.live⟩
theorem Good.set_own (G : Good K H σ ρ) {i : Nat} (hi : i < ρ.length) {p : Addr} {h : HO} {o : Ob} (e : H p = some h) (r : ObR K H h o) (no : ¬ Own σ ρ p) : Good K H (σ.set i (some (.ref p))) (ρ.set i (.own o)) := by
  have his : i < σ.length := by rw [G.len]; exact hi
  refine ⟨by rw [List.length_set, List.length_set, G.len], fun j d hj => ?_, fun j o' hj => ?_, fun j k o1 o2 q h1 h2 h3 h4 => ?_, G.tab, fun j c f e hj => ?_⟩
  · by_cases q : i = j
    · subst q
      rw [set_at hi] at hj
      cases hj
    · rw [set_ne q] at hj ⊢
      exact G.dat j d hj
  · by_cases q : i = j
    · subst q
      rw [set_at hi] at hj
      cases hj
      exact ⟨p, h, set_at his, e, r⟩
    · rw [set_ne q] at hj ⊢
      exact G.own j o' hj
  · by_cases qj : i = j
    · by_cases qk : i = k
      · exact qj.symm.trans qk
      · subst qj
        rw [set_at his] at h3
        cases h3
        rw [set_ne qk] at h2 h4
        exact absurd ⟨k, o2, h2, h4⟩ no
    · by_cases qk : i = k
      · subst qk
        rw [set_at his] at h4
        cases h4
        rw [set_ne qj] at h1 h3
        exact absurd ⟨j, o1, h1, h3⟩ no
      · rw [set_ne qj] at h1 h3
        rw [set_ne qk] at h2 h4
        exact G.dif j k o1 o2 q h1 h2 h3 h4
  · by_cases q : i = j
    · subst q
      rw [set_at hi] at hj
      cases hj
    · rw [set_ne q] at hj ⊢
      exact G.exc j c f e hj
theorem Stp.set_own (s : Stp K n H σ ρ H' σ' ρ') {i : Nat} (hn : n ≤ i) (hi : i < ρ'.length) {p : Addr} {h : HO} {o : Ob} (e : H' p = some h) (r : ObR K H' h o) (no : ¬ Own σ' ρ' p) (nw : Own σ ρ p ∨ H p = none) :
    Stp K n H σ ρ H' (σ'.set i (some (.ref p))) (ρ'.set i (.own o)) := by
  refine ⟨s.good.set_own hi e r no, fun j hj => ?_, s.kept, fun q h => ?_, s.live⟩
  · have ne : i ≠ j := by omega
    rw [set_ne ne, set_ne ne]
    exact s.par j hj
  · obtain ⟨j, o1, e1, e2⟩ := h
    by_cases z : i = j
    · subst z
      rw [set_at (by rw [s.good.len]; exact hi)] at e2
      cases e2
      exact nw
    · rw [set_ne z] at e1 e2
      exact s.news q ⟨j, o1, e1, e2⟩
theorem live_upd {p : Addr} {h u : HO} (e : H p = some h) : ∀ b, upd H p u b = none → H b = none := fun b hb => by
  by_cases z : b = p
  · rw [z, upd_same] at hb
    cases hb
  · rw [upd_ne z] at hb
    exact hb
/-- what a slot has of its own is changed -/
theorem Stp.write (G : Good K H σ ρ) {i : Nat} {o o' : Ob} {p : Addr} {h h' : HO} (ei : ρ[i]? = some (.own o)) (es : σ[i]? = some (some (.ref p))) (e : H p = some h) (r : ObR K H h o) (r' : ObR K H h' o') : Stp K n H σ ρ (upd H p h') σ (ρ.set i (.own o')) := by
  have hi : i < ρ.length := (List.getElem?_eq_some_iff.mp ei).1
  have g : Grow H (upd H p h') := grow_upd e r.mut (noTab_code r.noTab)
  have ow : ∀ q, Own σ (ρ.set i (.own o')) q → Own σ ρ q := fun q hq => by
    obtain ⟨j, o1, e1, e2⟩ := hq
    by_cases z : i = j
    · subst z
      exact ⟨i, o, ei, e2⟩
    · rw [set_ne z] at e1
      exact ⟨j, o1, e1, e2⟩
  refine ⟨⟨by rw [List.length_set, G.len], fun j d hj => ?_, fun j o1 hj => ?_, fun j k o1 o2 q h1 h2 h3 h4 => ?_, TabOk.upd e r.mut r.noTab G.tab, fun j c f d hj => ?_⟩, fun j hj => ⟨rfl, fun o1 hj => ?_⟩, fun b u eb nb _ => ?_, fun q hq => .inl (ow q hq), live_upd e⟩
  · by_cases z : i = j
    · subst z
      rw [set_at hi] at hj
      cases hj
    · rw [set_ne z] at hj
      obtain ⟨v, e1, im⟩ := G.dat j d hj
      exact ⟨v, e1, im.grow g⟩
  · by_cases z : i = j
    · subst z
      rw [set_at hi] at hj
      cases hj
      exact ⟨p, h', es, upd_same, r'.grow g⟩
    · rw [set_ne z] at hj
      obtain ⟨q, u, e1, e2, r2⟩ := G.own j o1 hj
      have : q ≠ p := fun w => by
        subst w
        exact z (G.dif i j o o1 q ei hj es e1)
      exact ⟨q, u, e1, by rw [upd_ne this]; exact e2, r2.grow g⟩
  · have get : ∀ {j : Nat} {o1 : Ob}, (ρ.set i (.own o'))[j]? = some (.own o1) → ∃ o2, ρ[j]? = some (.own o2) := fun {j o1} hj => by
      by_cases z : i = j
      · subst z
        exact ⟨o, ei⟩
      · rw [set_ne z] at hj
        exact ⟨o1, hj⟩
    obtain ⟨a, ha⟩ := get h1
    obtain ⟨b, hb⟩ := get h2
    exact G.dif j k a b q ha hb h3 h4
  · by_cases z : i = j
    · subst z
      rw [set_at hi] at hj
      cases hj
    · rw [set_ne z] at hj
      exact (G.exc j c f d hj).elim fun a h => ⟨a, h.1, h.2.grow g⟩
  · by_cases z : i = j
    · subst z
      exact ⟨o', set_at hi⟩
    · rw [set_ne z]
      exact ⟨o1, hj⟩
  · rw [upd_ne fun z => nb ?_]
    · exact eb
    · rw [z]
      exact ⟨i, o, ei, es⟩
/-- it is locked: data from now on -/
theorem Stp.lock (G : Good K H σ ρ) {i : Nat} (hn : n ≤ i) {o : Ob} {p : Addr} {h : HO} {ob : Obj} (ei : ρ[i]? = some (.own o)) (es : σ[i]? = some (some (.ref p))) (e : H p = some h) (r : ObR K H h o) (nd : o.nd = true) :
    Stp K n H σ ρ (upd H p (.frz ob h)) σ (ρ.set i (.dat o.d)) ∧ Im K (upd H p (.frz ob h)) (.ref p) o.d := by
  have hi : i < ρ.length := (List.getElem?_eq_some_iff.mp ei).1
  have g : Grow H (upd H p (.frz ob h)) := grow_upd e r.mut (noTab_code r.noTab)
  have im : Im K (upd H p (.frz ob h)) (.ref p) o.d := by
    cases r with
    | lst r => exact .lst ⟨ob, upd_same⟩ (r.grow g)
    | dk r => exact .dic upd_same (r.grow g)
    | dt _ => cases nd
  have ow : ∀ q, Own σ (ρ.set i (.dat o.d)) q → Own σ ρ q ∧ q ≠ p := fun q hq => by
    obtain ⟨j, o1, e1, e2⟩ := hq
    by_cases z : i = j
    · subst z
      rw [set_at hi] at e1
      cases e1
    · rw [set_ne z] at e1
      exact ⟨⟨j, o1, e1, e2⟩, fun w => by
        subst w
        exact z (G.dif i j o o1 q ei e1 es e2)⟩
  refine ⟨⟨⟨by rw [List.length_set, G.len], fun j d hj => ?_, fun j o1 hj => ?_, fun j k o1 o2 q h1 h2 h3 h4 => ?_, TabOk.upd e r.mut r.noTab G.tab, fun j c f d hj => ?_⟩, fun j hj => ?_, fun b u eb nb _ => ?_, fun q hq => .inl (ow q hq).1, live_upd e⟩, im⟩
  · by_cases z : i = j
    · subst z
      rw [set_at hi] at hj
      cases hj
      exact ⟨_, es, im⟩
    · rw [set_ne z] at hj
      obtain ⟨v, e1, im⟩ := G.dat j d hj
      exact ⟨v, e1, im.grow g⟩
  · by_cases z : i = j
    · subst z
      rw [set_at hi] at hj
      cases hj
    · have hj0 := hj
      rw [set_ne z] at hj
      obtain ⟨q, u, e1, e2, r2⟩ := G.own j o1 hj
      exact ⟨q, u, e1, by rw [upd_ne (ow q ⟨j, o1, hj0, e1⟩).2]; exact e2, r2.grow g⟩
  · have nj : i ≠ j := fun q => by
      subst q
      rw [set_at hi] at h1
      cases h1
    have nk : i ≠ k := fun q => by
      subst q
      rw [set_at hi] at h2
      cases h2
    rw [set_ne nj] at h1
    rw [set_ne nk] at h2
    exact G.dif j k o1 o2 q h1 h2 h3 h4
  · by_cases z : i = j
    · subst z
      rw [set_at hi] at hj
      cases hj
    · rw [set_ne z] at hj
      exact (G.exc j c f d hj).elim fun a h => ⟨a, h.1, h.2.grow g⟩
  · have ne : i ≠ j := by omega
    rw [set_ne ne]
    exact ⟨rfl, fun o h => ⟨o, h⟩⟩
  · rw [upd_ne fun z => nb ?_]
    · exact eb
    · rw [z]
      exact ⟨i, o, ei, es⟩
end
/-! ### new things -/
def tF (K : PySem.W.Frag) (n : Nat) (W : XW) (m : Mo Ob) : TE := fun σ H Q => ∃ ρ, Good K H σ ρ ∧ Aft K n W H σ ρ (m ρ) fun o ρ' H' => ∀ p h, H p = none → H' p = some h → ObR K H' h o → ¬ Own σ ρ' p → Q (.ref p) H'
abbrev XF (X : Cx) (n : Nat) (W : XW) (e : Expr) (m : Mo Ob) : Prop := PE X e (tF X.K n W m)
/-- a thing is locked at once -/
def tFrz (te : TE) : TE := fun σ H Q => te σ H fun x H1 => ∃ d u, x = .ref d ∧ H1 d = some u ∧ Mut (some u) ∧ ∀ od, Q x (upd H1 d (.frz od u))
theorem pe_frz {X : Cx} {e : Expr} {te : TE} (he : PE X e te) : PE X e (tFrz te) := by
  refine ⟨fun pins s σ H Q I h => thn (he.run pins s σ H _ I h) ?_⟩
  rintro v s1 ⟨x, H1, I1, r, d, u, rfl, hd, mu, q⟩
  obtain ⟨od, I2⟩ := I1.lock hd mu
  exact ⟨.ref d, _, I2, r, q od⟩
section
variable {X : Cx} {n : Nat} {W : XW}
@[simp] def Ob.lk : Ob → Ev → Rt R
  | .lst ds, ρ => .ok (.d (.list ds)) ρ
  | .dk kvs, ρ => .ok (.d (.dict kvs)) ρ
  | .dt _, _ => .no
theorem lk_aft {K : PySem.W.Frag} {W : XW} {H : Hp} {σ : St} {ρ ρ1 : Ev} {o : Ob} {Q : R → Ev → Hp → Prop} (h : Aft K n W H σ ρ (o.lk ρ1) Q) : o.nd = true ∧ ∀ H', Stp K n H σ ρ H' σ ρ1 → Q (.d o.d) ρ1 H' := by
  cases o with
  | dt _ => exact h.elim
  | _ => exact ⟨rfl, h⟩
@[simp] def eLock (m : Mo Ob) : Mo R := fun ρ => (m ρ).bind fun o ρ1 => o.lk ρ1
theorem lock_new {K : PySem.W.Frag} {H H' : Hp} {σ : St} {ρ ρ' : Ev} {p : Addr} {h : HO} {o : Ob} {ob : Obj} (s : Stp K n H σ ρ H' σ ρ') (np : H p = none) (e : H' p = some h) (r : ObR K H' h o) (no : ¬ Own σ ρ' p) (nd : o.nd = true) :
    Stp K n H σ ρ (upd H' p (.frz ob h)) σ ρ' ∧ Im K (upd H' p (.frz ob h)) (.ref p) o.d := by
  have g : Grow H' (upd H' p (.frz ob h)) := grow_upd e r.mut (noTab_code r.noTab)
  have im : Im K (upd H' p (.frz ob h)) (.ref p) o.d := by
    cases r with
    | lst r => exact .lst ⟨ob, upd_same⟩ (r.grow g)
    | dk r => exact .dic upd_same (r.grow g)
    | dt _ => cases nd
  have gd : Good K (upd H' p (.frz ob h)) σ ρ' := s.good.grow g (fun q u hq eq => by
    rw [upd_ne fun z => no (by rw [← z]; exact hq)]
    exact eq) (TabOk.upd e r.mut r.noTab)
  refine ⟨⟨gd, s.par, fun b u eb nb nt => ?_, s.news, fun b hb => s.live b (live_upd e b hb)⟩, im⟩
  rw [upd_ne (ne_of_none eb np)]
  exact s.kept b u eb nb nt
theorem xd_lock {e : Expr} {m : Mo Ob} (he : XF X n W e m) : XD X n W e (eLock m) := weakE (pe_frz he) fun σ H Q ⟨ρ, G, h⟩ => by
  refine ⟨ρ, G, ?_⟩
  unfold eLock at h
  generalize m ρ = r at h
  cases r with
  | no => exact h
  | ex c d ρ' => exact h
  | ok o ρ' =>
    intro H' s p ho np e r no
    obtain ⟨nd, h⟩ := lk_aft h
    refine ⟨p, ho, rfl, e, r.mut, fun od => ?_⟩
    obtain ⟨s2, im⟩ := lock_new (ob := od) s np e r no nd
    exact h _ s2 _ (.d im)
/-- a name whose thing is locked -/
@[simp] def eVarL (i : Nat) : Mo R := fun ρ => match ρ[i]? with
  | some (.own o) => o.lk (ρ.set i (.dat o.d))
  | _ => .no
/-! ### tuples, lists -/
@[simp] def datas : List R → Option (List D)
  | [] => some []
  | .d x :: rs => (datas rs).map (x :: ·)
  | .v _ :: _ => none
theorem RRs.datas {K : PySem.W.Frag} {H : Hp} {σ : St} : ∀ {vs : List V} {rs : List R} {ds : List D}, RRs K H σ vs rs → datas rs = some ds → ImL K H vs ds
  | _, _, _, .nil, h => by
    cases h
    exact .nil
  | _, .d x :: rs, ds, .cons (.d y) ys, h => by
    have h : (Q.datas rs).map (x :: ·) = some ds := h
    cases e : Q.datas rs with
    | none =>
      rw [e] at h
      cases h
    | some es =>
      rw [e] at h
      cases h
      exact .cons y (RRs.datas ys e)
  | _, .v _ :: _, _, .cons (.v _) _, h => by cases h
theorem same_upd {H : Hp} {p : Addr} {o : HO} (h : H p = none) : Same H (upd H p o) := fun b u e => by
  rw [upd_ne (ne_of_none e h)]
  exact e
/-- a new tuple -/
theorem new_tup {pins : List (Addr × Obj)} {σ : L2.St} {H : Hp} {s : Shared} {xs : List V} {its : List Value} {Q : VK} (I : Inv X pins σ H s) (hz : xs.length ≤ sizeLine) (r : Vals xs its) (q : ∀ p o, H p = none → o.dict = none → Q (.ref p) (upd H p (.frz o (.tup xs)))) :
    ∃ x H', Inv X pins σ H' { s with heap := s.heap.push { cls := .type "tuple", data := .seq its.toArray } } ∧ RelV x (.ref s.heap.objs.size) ∧ Q x H' :=
  have hn : H s.heap.objs.size = none := I.hok.fresh (Nat.le_refl _)
  have ok : ObjOk X.prog X.w (upd H s.heap.objs.size (.frz { cls := .type "tuple", data := .seq its.toArray } (.tup xs))) (s.heap.push { cls := .type "tuple", data := .seq its.toArray }) s.heap.objs.size (.frz { cls := .type "tuple", data := .seq its.toArray } (.tup xs)) :=
    ⟨Heap.get?_push_size _ rfl, hz, its, r, ⟨_, Heap.get?_push_size _ rfl, rfl, _, rfl⟩⟩
  ⟨.ref s.heap.objs.size, _, I.laid (t' := s.toks) (fun b u e => Heap.get?_push_of_some _ e) (Nat.le_refl _) ok, rfl, q _ _ hn rfl⟩
def tTupN (t : TA) : TE := fun σ H Q => t σ H fun xs H1 => xs.length ≤ sizeLine ∧ ∀ p o, H1 p = none → o.dict = none → Q (.ref p) (upd H1 p (.frz o (.tup xs)))
theorem pe_tupN {es : List Expr} {x1} {pos : Pos} {t : TA} (h : PA X es t) : PE X (.Tuple es x1 pos) (tTupN t) := by
  refine ⟨fun pins s σ H Q I hq => ?_⟩
  refine wpAny_Tuple_spliced (thn (h.run pos pins s σ H _ I hq) fun us s1 ⟨xs, H1, I1, r, z, q⟩ => ⟨?_, new_tup I1 z r q⟩)
  rw [← r.length]
  exact z
def short (ds : List D) : Option (List D) := if ds.length ≤ sizeLine then some ds else none
@[simp] def eTup (m : Mo (List R)) : Mo R := fun ρ => (m ρ).bind fun rs ρ1 => lift ((datas rs).bind fun ds => (short ds).map .tuple) ρ1
theorem xd_tup {es : List Expr} {x1} {pos : Pos} {m : Mo (List R)} (h : XA X n W es m) : XD X n W (.Tuple es x1 pos) (eTup m) := weakE (pe_tupN h) fun σ H Q ⟨ρ, G, h⟩ => by
  refine ⟨ρ, G, (Aft.bind h).mono fun rs ρ1 H1 s1 h1 vs rvs => ?_⟩
  obtain ⟨d, e, q⟩ := Aft.out s1.good h1
  cases ed : datas rs with
  | none =>
    rw [ed] at e
    cases e
  | some ds =>
    rw [ed] at e
    have e : (short ds).map PyData.tuple = some d := e
    unfold short at e
    split at e
    · next le =>
      cases e
      have im := rvs.datas ed
      refine ⟨by rw [im.len]; exact le, fun p o hp ho => q _ _ (same_upd hp) (.tup ⟨o, upd_same, ho⟩ (im.same (same_upd hp)))⟩
    · cases e
@[simp] def fLst (m : Mo (List R)) : Mo Ob := fun ρ => (m ρ).bind fun rs ρ1 => match (datas rs).bind short with
  | some ds => .ok (.lst ds) ρ1
  | none => .no
theorem new_own {K : PySem.W.Frag} {H : Hp} {σ : St} {ρ : Ev} {p : Addr} (G : Good K H σ ρ) (h : H p = none) : ¬ Own σ ρ p := fun z => by
  obtain ⟨u, o, e, _⟩ := G.at z
  rw [h] at e
  cases e
theorem xf_lst {es : List Expr} {pos : Pos} {m : Mo (List R)} (h : XA X n W es m) : XF X n W (.List es pos) (fLst m) := weakE (pe_lst h) fun σ H Q ⟨ρ, G, h⟩ => by
  refine ⟨ρ, G, (Aft.bind h).mono fun rs ρ1 H1 s1 h1 vs rvs => ?_⟩
  split at h1
  · next ds e =>
    cases ed : datas rs with
    | none =>
      rw [ed] at e
      cases e
    | some es =>
      rw [ed] at e
      have e : short es = some ds := e
      unfold short at e
      split at e
      · next le =>
        cases e
        have im := rvs.datas ed
        refine ⟨by rw [im.len]; exact le, fun p hp => ?_⟩
        exact h1 _ (Stp.same s1.good (same_upd hp)) p _ (s1.live p hp) upd_same (.lst (im.same (same_upd hp))) (new_own s1.good hp)
      · cases e
  · exact h1.elim
end
end Q
namespace Q
open PySem PySem.Spec PyProof.Rows L2
variable [Tbl]
/-! ### statements -/
inductive Out
  | nx
  | bk
  | ct
  | rt (r : R)
  | rf (o : Ob)
def AftS (K : PySem.W.Frag) (n : Nat) (W : XW) (E : Ends) (H : Hp) (σ : St) (ρ : Ev) (r : Rt Out) : Prop := match r with
  | .no => False
  | .ok .nx ρ' => ∀ σ' H', Stp K n H σ ρ H' σ' ρ' → E.nx σ' H'
  | .ok .bk ρ' => ∀ σ' H', Stp K n H σ ρ H' σ' ρ' → E.bk σ' H'
  | .ok .ct ρ' => ∀ σ' H', Stp K n H σ ρ H' σ' ρ' → E.ct σ' H'
  | .ok (.rt r) ρ' => ∀ v σ' H', Stp K n H σ ρ H' σ' ρ' → RR K H' σ' v r → E.rt v H'
  | .ok (.rf o) ρ' => ∀ p h σ' H', Stp K n H σ ρ H' σ' ρ' → H p = none → H' p = some h → ObR K H' h o → ¬ Own σ' ρ' p → E.rt (.ref p) H'
  | .ex c d ρ' => ∀ σ' H', Stp K n H σ ρ H' σ' ρ' → W c d σ' H'
def tS (K : PySem.W.Frag) (n : Nat) (W : XW) (m : Mo Out) : TS := fun E σ H => ∃ ρ, Good K H σ ρ ∧ AftS K n W E H σ ρ (m ρ)
abbrev XS (X : Cx) (n : Nat) (W : XW) (s : Stmt) (m : Mo Out) : Prop := PS X s (tS X.K n W m)
abbrev XSs (X : Cx) (n : Nat) (W : XW) (s : List Stmt) (m : Mo Out) : Prop := PSs X s (tS X.K n W m)
section
variable {K : PySem.W.Frag} {n : Nat} {W : XW} {E : Ends} {H H1 : Hp} {σ σ1 : St} {ρ ρ1 : Ev}
/-- from a later state on -/
theorem AftS.on {r : Rt Out} (s : Stp K n H σ ρ H1 σ1 ρ1) (h : AftS K n W E H σ ρ r) : AftS K n W E H1 σ1 ρ1 r := by
  cases r with
  | no => exact h
  | ex c d ρ' => exact fun σ' H' s' => h σ' H' (s.trans s')
  | ok o ρ' => cases o with
    | nx => exact fun σ' H' s' => h σ' H' (s.trans s')
    | bk => exact fun σ' H' s' => h σ' H' (s.trans s')
    | ct => exact fun σ' H' s' => h σ' H' (s.trans s')
    | rt r => exact fun v σ' H' s' => h v σ' H' (s.trans s')
    | rf o => exact fun p u σ' H' s' np => h p u σ' H' (s.trans s') (s.live p np)
/-- an expression, then what follows -/
theorem AftS.bind {α : Type} {m : Rt α} {k : α → Ev → Rt Out} (h : AftS K n W E H σ ρ (m.bind k)) : Aft K n W H σ ρ m fun a ρ1 H1 => AftS K n W E H1 σ ρ1 (k a ρ1) := by
  cases m with
  | no => exact h
  | ok a ρ1 => exact fun H1 s1 => AftS.on s1 h
  | ex c d ρ1 => exact fun H1 s1 => h σ H1 s1
theorem AftS.bind' {α : Type} {m : Rt α} {k : α → Ev → Rt Out} (st : Stp K n H σ ρ H1 σ1 ρ1) (h : AftS K n W E H σ ρ (m.bind k)) : Aft K n W H1 σ1 ρ1 m fun a ρ2 _ => AftS K n W E H σ ρ (k a ρ2) := by
  cases m with
  | no => exact h
  | ok a ρ2 => exact fun H2 s2 => h
  | ex c d ρ2 => exact fun H2 s2 => h σ1 H2 (st.trans s2)
end
section
variable {X : Cx} {n : Nat} {W : XW}
theorem weakS {e : Stmt} {t t' : TS} (h : PS X e t) (q : ∀ E σ H, t' E σ H → t E σ H) : PS X e t' := ⟨fun pins s σ H E I z => h.run pins s σ H E I (q E σ H z)⟩
theorem weakSs {e : List Stmt} {t t' : TS} (h : PSs X e t) (q : ∀ E σ H, t' E σ H → t E σ H) : PSs X e t' := ⟨fun pins s σ H E I z => h.run pins s σ H E I (q E σ H z)⟩
@[simp] def bNil : Mo Out := fun ρ => .ok .nx ρ
@[simp] def bSeq (f g : Mo Out) : Mo Out := fun ρ => (f ρ).bind fun o ρ1 => match o with
  | .nx => g ρ1
  | o => .ok o ρ1
theorem xss_nil : XSs X n W [] bNil := weakSs pss_nil fun E σ H ⟨ρ, G, h⟩ => h σ H (Stp.refl G)
theorem seq_run {f g : Mo Out} {E : Ends} {σ : St} {H : Hp} (h : tS X.K n W (bSeq f g) E σ H) : tSeq (tS X.K n W f) (tS X.K n W g) E σ H := by
  obtain ⟨ρ, G, h⟩ := h
  refine ⟨ρ, G, ?_⟩
  unfold bSeq at h
  generalize f ρ = r at h
  cases r with
  | no => exact h
  | ex c d ρ' => exact h
  | ok o ρ' => cases o with
    | nx => exact fun σ' H' s => ⟨ρ', s.good, AftS.on s h⟩
    | bk => exact h
    | ct => exact h
    | rt r => exact h
    | rf o => exact h
theorem xss_cons {st : Stmt} {rest : List Stmt} {f g : Mo Out} (h1 : XS X n W st f) (h2 : XSs X n W rest g) : XSs X n W (st :: rest) (bSeq f g) := weakSs (pss_cons h1 h2) fun _ _ _ h => seq_run h
def bBrk : Mo Out := fun ρ => .ok .bk ρ
def bCnt : Mo Out := fun ρ => .ok .ct ρ
@[simp] def bEx (f : Mo R) : Mo Out := fun ρ => (f ρ).bind fun _ ρ1 => .ok .nx ρ1
theorem xs_expr {e : Expr} {pos : Pos} {f : Mo R} (he : XD X n W e f) (hs : swapsWith e none pos.line X.env = pure false := by rfl) : XS X n W (.Expr e pos) (bEx f) := weakS (ps_expr he hs) fun E σ H ⟨ρ, G, h⟩ =>
  ⟨ρ, G, (AftS.bind h).mono fun a ρ1 H1 s1 h1 v rv => h1 σ H1 (Stp.refl s1.good)⟩
@[simp] def bRet (f : Mo R) : Mo Out := fun ρ => (f ρ).bind fun r ρ1 => .ok (.rt r) ρ1
theorem xs_ret {e : Expr} {pos : Pos} {f : Mo R} (he : XD X n W e f) : XS X n W (.Return (some e) pos) (bRet f) := weakS (ps_ret he) fun E σ H ⟨ρ, G, h⟩ =>
  ⟨ρ, G, (AftS.bind h).mono fun a ρ1 H1 s1 h1 v rv => h1 v σ H1 (Stp.refl s1.good) rv⟩
@[simp] def bRetF (f : Mo Ob) : Mo Out := fun ρ => (f ρ).bind fun o ρ1 => .ok (.rf o) ρ1
theorem xs_retF {e : Expr} {pos : Pos} {f : Mo Ob} (he : XF X n W e f) : XS X n W (.Return (some e) pos) (bRetF f) := weakS (ps_ret he) fun E σ H ⟨ρ, G, h⟩ => by
  refine ⟨ρ, G, ?_⟩
  unfold bRetF at h
  generalize f ρ = r at h
  cases r with
  | no => exact h
  | ex c d ρ' => exact fun H' s => h σ H' s
  | ok o ρ1 => exact fun H1 s1 p u np e r no => h p u σ H1 s1 np e r no
@[simp] def bIf (c : Mo Bool) (f g : Mo Out) : Mo Out := fun ρ => (c ρ).bind fun b ρ1 => if b = true then f ρ1 else g ρ1
theorem xs_if {c : Expr} {a b : List Stmt} {pos : Pos} {fc : Mo Bool} {f g : Mo Out} (hc : XB X n W c fc) (ha : XSs X n W a f) (hb : XSs X n W b g) : XS X n W (.If c a b pos) (bIf fc f g) := weakS (ps_if hc ha hb) fun E σ H ⟨ρ, G, h⟩ => by
  refine ⟨ρ, G, (AftS.bind h).mono fun k ρ1 H1 s1 h1 => ?_⟩
  cases k with
  | true => exact iteT ⟨ρ1, s1.good, h1⟩
  | false => exact iteF ⟨ρ1, s1.good, h1⟩
/-! ### stores -/
@[simp] def put (i : Nat) (s : Sl) (ρ : Ev) : Option Ev := if i < ρ.length then some (ρ.set i s) else none
@[simp] def nxt : Option Ev → Rt Out
  | some ρ => .ok .nx ρ
  | none => .no
@[simp] def bSet (i : Nat) (f : Mo R) : Mo Out := fun ρ => (f ρ).bind fun r ρ1 => match r with
  | .d x => nxt (put i (.dat x) ρ1)
  | .v _ => .no
theorem AftS.nxt {K : PySem.W.Frag} {E : Ends} {H : Hp} {σ : St} {ρ : Ev} {o : Option Ev} (h : AftS K n W E H σ ρ (nxt o)) : ∃ ρ', o = some ρ' ∧ ∀ σ' H', Stp K n H σ ρ H' σ' ρ' → E.nx σ' H' := by
  cases o with
  | none => exact h.elim
  | some ρ' => exact ⟨ρ', rfl, h⟩
theorem put_some {i : Nat} {s : Sl} {ρ ρ' : Ev} (h : put i s ρ = some ρ') : i < ρ.length ∧ ρ' = ρ.set i s := by
  unfold put at h
  split at h
  · next le =>
    cases h
    exact ⟨le, rfl⟩
  · cases h
theorem xs_set {i : Nat} {x : Str} {e : Expr} {pos pos' : Pos} {f : Mo R} (hn : n ≤ i) (hN : X.N.Nodup) (hi : X.N[i]? = some x) (hx : Loc X.env.scope x) (he : XD X n W e f) (hs : swapsWith e (some (.Name x pos')) pos.line X.env = pure false := by rfl) (hf : X.fn x = true ∨ X.env.scope.names.lookup x = some .local := by first | exact .inl rfl | exact .inr rfl | assumption) :
    XS X n W (.Assign [.Name x pos'] e pos) (bSet i f) := weakS (ps_set hN hi hx he hs hf) fun E σ H ⟨ρ, G, h⟩ => by
  refine ⟨ρ, G, (AftS.bind h).mono fun r ρ1 H1 s1 h1 v rv => ?_⟩
  cases rv with
  | d im =>
    obtain ⟨ρ2, e2, q⟩ := AftS.nxt h1
    obtain ⟨le, rfl⟩ := put_some e2
    exact q _ _ ((Stp.refl s1.good).set_dat hn le im)
  | v _ => exact h1.elim
@[simp] def bSetF (i : Nat) (f : Mo Ob) : Mo Out := fun ρ => (f ρ).bind fun o ρ1 => nxt (put i (.own o) ρ1)
theorem setF_run {i : Nat} {f : Mo Ob} {E : Ends} {σ : St} {H : Hp} (hn : n ≤ i) (h : tS X.K n W (bSetF i f) E σ H) : tF X.K n W f σ H fun v H1 => E.nx (σ.set i (some v)) H1 := by
  obtain ⟨ρ, G, h⟩ := h
  refine ⟨ρ, G, ?_⟩
  unfold bSetF at h
  generalize f ρ = r at h
  cases r with
  | no => exact h
  | ex c d ρ' => exact fun H' s => h σ H' s
  | ok o ρ1 =>
    intro H1 s1 p u np e r no
    obtain ⟨ρ2, e2, q⟩ := AftS.nxt h
    obtain ⟨le, rfl⟩ := put_some e2
    exact q _ _ (s1.set_own hn le e r no (.inr np))
/-! ### targets -/
abbrev Tg := D → Ev → Option Ev
abbrev Tgs := List D → Ev → Option Ev
def AftG (K : PySem.W.Frag) (n : Nat) (is : List Nat) (H : Hp) (σ : St) (ρ : Ev) (r : Option Ev) (Q : St → Hp → Prop) : Prop := ∃ ρ', r = some ρ' ∧ ∀ σ' H', Stp K n H σ ρ H' σ' ρ' → (∀ j, j ∉ is → σ'[j]? = σ[j]?) → σ'.length = σ.length → Q σ' H'
def tG (K : PySem.W.Frag) (n : Nat) (is : List Nat) (m : Tg) : TG := fun v σ H Q => ∃ ρ d, Good K H σ ρ ∧ Im K H v d ∧ AftG K n is H σ ρ (m d ρ) Q
def tGs (K : PySem.W.Frag) (n : Nat) (is : List Nat) (m : Tgs) : TGs := fun vs σ H Q => ∃ ρ ds, Good K H σ ρ ∧ ImL K H vs ds ∧ AftG K n is H σ ρ (m ds ρ) Q
abbrev XG (X : Cx) (n : Nat) (is : List Nat) (t : Expr) (m : Tg) : Prop := PG X t (tG X.K n is m)
abbrev XGs (X : Cx) (n : Nat) (is : List Nat) (t : List Expr) (m : Tgs) : Prop := PGs X t (tGs X.K n is m)
theorem weakG {e : Expr} {t t' : TG} (h : PG X e t) (q : ∀ v σ H Q, t' v σ H Q → t v σ H Q) : PG X e t' := ⟨fun pins s σ H v u Q I r z => h.run pins s σ H v u Q I r (q v σ H Q z)⟩
theorem weakGs {e : List Expr} {t t' : TGs} (h : PGs X e t) (q : ∀ v σ H Q, t' v σ H Q → t v σ H Q) : PGs X e t' := ⟨fun pins s σ H v u Q I r z => h.run pins s σ H v u Q I r (q v σ H Q z)⟩
@[simp] def gN (i : Nat) : Tg := fun d ρ => put i (.dat d) ρ
theorem xg_name {i : Nat} {x : Str} {pos : Pos} (hn : n ≤ i) (hN : X.N.Nodup) (hi : X.N[i]? = some x) (hx : Loc X.env.scope x) (hf : X.fn x = true ∨ X.env.scope.names.lookup x = some .local := by first | exact .inl rfl | exact .inr rfl | assumption) : XG X n [i] (.Name x pos) (gN i) :=
  weakG (pg_name hN hi hx hf) fun v σ H Q ⟨ρ, d, G, im, ρ', e, h⟩ => by
    obtain ⟨le, rfl⟩ := put_some e
    exact h _ _ ((Stp.refl G).set_dat hn le im) (fun j hj => set_ne fun z => hj (by rw [z]; exact List.mem_singleton.mpr rfl)) List.length_set
@[simp] def gsNil : Tgs := fun ds ρ => match ds with
  | [] => some ρ
  | _ => none
@[simp] def gsCons (f : Tg) (g : Tgs) : Tgs := fun ds ρ => match ds with
  | d :: r => (f d ρ).bind fun ρ1 => g r ρ1
  | [] => none
theorem xgs_nil : XGs X n [] [] gsNil := weakGs pgs_nil fun vs σ H Q ⟨ρ, ds, G, im, ρ', e, h⟩ => by
  cases im with
  | nil =>
    cases e
    exact ⟨rfl, h _ _ (Stp.refl G) (fun _ _ => rfl) rfl⟩
  | cons _ _ => cases e
end
end Q
namespace Q
open PySem PySem.Spec PyProof.Rows L2
variable [Tbl]
section
variable {X : Cx} {n : Nat} {W : XW}
theorem xgs_cons {e : Expr} {es : List Expr} {i1 i2 : List Nat} {f : Tg} {g : Tgs} (h1 : XG X n i1 e f) (h2 : XGs X n i2 es g) (hs : (assignEach (e :: es) X.env).map (·.2) = assign e X.env :: (assignEach es X.env).map (·.2) := by rfl) : XGs X n (i1 ++ i2) (e :: es) (gsCons f g) :=
  weakGs (pgs_cons h1 h2 hs) fun vs σ H Q ⟨ρ, ds, G, im, ρ2, e, h⟩ => by
    cases im with
    | nil => cases e
    | @cons v vs d ds im r =>
      have e : (f d ρ).bind (fun ρ1 => g ds ρ1) = some ρ2 := e
      cases e1 : f d ρ with
      | none =>
        rw [e1] at e
        cases e
      | some ρ1 =>
        rw [e1] at e
        exact ⟨v, vs, rfl, ρ, d, G, im, ρ1, e1, fun σ1 H1 s1 n1 l1 => ⟨ρ1, ds, s1.good, r.grow (s1.grow G), ρ2, e, fun σ2 H2 s2 n2 l2 => h σ2 H2 (s1.trans s2) (fun j hj => (n2 j fun z => hj (List.mem_append_right _ z)).trans (n1 j fun z => hj (List.mem_append_left _ z))) (l2.trans l1)⟩⟩
@[simp] def gT (c : Nat) (g : Tgs) : Tg := fun d ρ => match d with
  | .tuple ds => if ds.length = c then g ds ρ else none
  | .dict [(.bool true, a), (.bool false, b)] => if c = 2 then g [a, b] ρ else none
  | _ => none
theorem xg_tup {es : List Expr} {k c : Nat} {is : List Nat} {pos : Pos} {g : Tgs} (hc : X.calm = true) (h : XGs X n is es g) (hn : (assignEach es X.env).length = c := by rfl) (hst : (assignEach es X.env).findIdx? (·.1) = none := by rfl) : XG X n is (.Tuple es k pos) (gT c g) :=
  weakG (pg_tup hc h hn hst) fun v σ H Q ⟨ρ, d, G, im, ρ', e, h⟩ => by
    cases im with
    | @tup a xs ds hs r =>
      have e : (if ds.length = c then g ds ρ else none) = some ρ' := e
      split at e
      · next le => exact ⟨_, _, rfl, hs.sq, by rw [r.len]; exact le, ρ, ds, G, r, ρ', e, h⟩
      · cases e
    | @prm t x y a b hs h1 h2 =>
      have e : (if c = 2 then g [a, b] ρ else none) = some ρ' := e
      split at e
      · next le =>
        subst le
        exact ⟨_, _, rfl, hs, rfl, ρ, [a, b], G, .cons h1 (.cons h2 .nil), ρ', e, h⟩
      · cases e
    | scr _ => cases e
    | dic _ r =>
      cases r with
      | nil => cases e
      | @cons k _ _ _ _ _ r => cases k <;> cases e
    | _ => cases e
@[simp] def bAsg (f : Mo R) (g : Tg) : Mo Out := fun ρ => (f ρ).bind fun r ρ1 => match r with
  | .d x => nxt (g x ρ1)
  | .v _ => .no
theorem xs_asg {tg e : Expr} {is : List Nat} {pos : Pos} {f : Mo R} {g : Tg} (he : XD X n W e f) (hg : XG X n is tg g) (hs : swapsWithSole [tg] e pos.line X.env = pure false := by rfl) (hw : swappedStores [tg] e X.env = pure none := by rfl)
    (h1 : (assignEach [tg] X.env).map (·.2) = [assign tg X.env] := by rfl) : XS X n W (.Assign [tg] e pos) (bAsg f g) := weakS (ps_asg he hg hs hw h1) fun E σ H ⟨ρ, G, h⟩ => by
  refine ⟨ρ, G, (AftS.bind h).mono fun r ρ1 H1 s1 h1 v rv => ?_⟩
  cases rv with
  | v _ => exact h1.elim
  | @d x im =>
    obtain ⟨ρ2, e2, q⟩ := AftS.nxt h1
    exact ⟨ρ1, x, s1.good, im, ρ2, e2, fun σ' H' s _ _ => q σ' H' s⟩
/-! ### a, b = x, y -/
/-- a value of either kind, to be stored -/
inductive M1
  | dd (m : Mo R)
  | ff (m : Mo Ob)
abbrev tM (K : PySem.W.Frag) (n : Nat) (W : XW) : M1 → TE
  | .dd m => tX K n W m
  | .ff m => tF K n W m
abbrev XM (X : Cx) (n : Nat) (W : XW) (e : Expr) (m : M1) : Prop := PE X e (tM X.K n W m)
@[simp] def runM : M1 → Ev → Rt Sl
  | .dd m, ρ => (m ρ).bind fun r ρ1 => match r with
    | .d x => .ok (.dat x) ρ1
    | .v _ => .no
  | .ff m, ρ => (m ρ).bind fun o ρ1 => .ok (.own o) ρ1
/-- what a value to be stored is: data, or new -/
inductive SR (K : PySem.W.Frag) (H0 H : Hp) (σ : St) (ρ : Ev) : V → Sl → Prop
  | dat {v : V} {d : D} : Im K H v d → SR K H0 H σ ρ v (.dat d)
  | own {p : Addr} {h : HO} {o : Ob} : H0 p = none → H p = some h → ObR K H h o → ¬ Own σ ρ p → SR K H0 H σ ρ (.ref p) (.own o)
theorem runM_run {K : PySem.W.Frag} {m : M1} {H H0 : Hp} {σ : St} {ρ ρ0 : Ev} {E : Ends} {k : Sl → Ev → Rt Out} {Q : VK} (st : Stp K n H0 σ ρ0 H σ ρ) (h : AftS K n W E H0 σ ρ0 ((runM m ρ).bind k))
    (q : ∀ v s ρ1 H1, Stp K n H σ ρ H1 σ ρ1 → SR K H H1 σ ρ1 v s → AftS K n W E H0 σ ρ0 (k s ρ1) → Q v H1) : tM K n W m σ H Q := by
  cases m with
  | dd m =>
    refine ⟨ρ, st.good, ?_⟩
    unfold runM at h
    dsimp only at h
    generalize m ρ = z at h
    cases z with
    | no => exact h
    | ex c e ρ' => exact fun H1 s => h σ H1 (st.trans s)
    | ok r ρ1 =>
      intro H1 s1 v rv
      cases rv with
      | v _ => exact h.elim
      | @d x im => exact q v (.dat x) ρ1 H1 s1 (.dat im) h
  | ff m =>
    refine ⟨ρ, st.good, ?_⟩
    unfold runM at h
    dsimp only at h
    generalize m ρ = z at h
    cases z with
    | no => exact h
    | ex c e ρ' => exact fun H1 s => h σ H1 (st.trans s)
    | ok o ρ1 => exact fun H1 s1 p u np e r no => q _ (.own o) ρ1 H1 s1 (.own np e r no) h
theorem SR.on {K : PySem.W.Frag} {H0 H1 H2 : Hp} {σ : St} {ρ1 ρ2 : Ev} {v : V} {s : Sl} (r : SR K H0 H1 σ ρ1 v s) (G : Good K H1 σ ρ1) (st : Stp K n H1 σ ρ1 H2 σ ρ2) : SR K H0 H2 σ ρ2 v s := by
  cases r with
  | dat im => exact .dat (im.grow (st.grow G))
  | own np e r no =>
    refine .own np (st.kept _ _ e no fun ps z => r.no_tbl z) (r.grow (st.grow G)) fun z => ?_
    rcases st.news _ z with z | z
    · exact no z
    · rw [e] at z
      cases z
theorem Stp.set_sr {K : PySem.W.Frag} {H H' H0 : Hp} {σ σ' : St} {ρ ρ' : Ev} {v : V} {s : Sl} (st : Stp K n H σ ρ H' σ' ρ') {i : Nat} (hn : n ≤ i) (hi : i < ρ'.length) (r : SR K H0 H' σ' ρ' v s) (h0 : ∀ p, H0 p = none → Own σ ρ p ∨ H p = none) :
    Stp K n H σ ρ H' (σ'.set i (some v)) (ρ'.set i s) := by
  cases r with
  | dat im => exact st.set_dat hn hi im
  | own np e r no => exact st.set_own hn hi e r no (h0 _ np)
@[simp] def bPar (i j : Nat) (a b : M1) : Mo Out := fun ρ => (runM a ρ).bind fun s ρ1 => (runM b ρ1).bind fun t ρ2 => nxt ((put i s ρ2).bind (put j t))
theorem xs_par {i j : Nat} {x y : Str} {a b : Expr} {ma mb : M1} {px py pt pos : Pos} {kt k2 pt2} (hni : n ≤ i) (hnj : n ≤ j) (hc : X.calm = true) (hN : X.N.Nodup) (hi : X.N[i]? = some x) (hj : X.N[j]? = some y) (hij : i ≠ j)
    (hx : X.env.scope.names.lookup x = some .local) (hy : X.env.scope.names.lookup y = some .local) (ha : XM X n W a ma) (hb : XM X n W b mb)
    (go : ∀ {ta : TA}, PA X [a, b] ta → PS X (.Assign [.Tuple [.Name x px, .Name y py] kt pt] (.Tuple [a, b] k2 pt2) pos) (tPar i j ta)) (s1 : starEach [a, b] X.env = (false, eval a X.env) :: starEach [b] X.env := by rfl) (s2 : starEach [b] X.env = (false, eval b X.env) :: starEach [] X.env := by rfl) :
    XS X n W (.Assign [.Tuple [.Name x px, .Name y py] kt pt] (.Tuple [a, b] k2 pt2) pos) (bPar i j ma mb) := weakS (go (pa_cons ha (pa_cons hb pa_nil s2) s1)) fun E σ H ⟨ρ, G, h⟩ => by
  refine runM_run (Stp.refl G) h fun v s ρ1 H1 s1 r1 h1 => ?_
  refine runM_run s1 h1 fun u t ρ2 H2 s2 r2 h2 => ?_
  refine ⟨v, u, rfl, ?_⟩
  obtain ⟨ρ4, e4, h4⟩ := AftS.nxt h2
  cases e3 : put i s ρ2 with
  | none =>
    rw [e3] at e4
    cases e4
  | some ρ3 =>
  rw [e3] at e4
  have e4 : put j t ρ3 = some ρ4 := e4
  obtain ⟨l1, rfl⟩ := put_some e3
  obtain ⟨l2, rfl⟩ := put_some e4
  have st := (s1.trans s2).set_sr hni l1 (r1.on s1.good s2) fun p hp => .inr hp
  refine h4 _ _ (st.set_sr hnj l2 (H0 := H1) ?_ fun p hp => .inr (s1.live p hp))
  cases r2 with
  | dat im => exact .dat im
  | @own q h o nq e r no =>
    refine .own nq e r fun z => ?_
    obtain ⟨k, o1, e1, e2⟩ := z
    by_cases w : i = k
    · subst w
      rw [set_at (by rw [s2.good.len]; exact l1)] at e2
      cases e2
      rw [set_at l1] at e1
      cases e1
      cases r1 with
      | own _ e3 _ _ =>
        rw [nq] at e3
        cases e3
    · rw [set_ne w] at e1 e2
      exact no ⟨k, o1, e1, e2⟩
end
end Q
namespace Q
open PySem PySem.Spec PyProof.Rows L2
variable [Tbl]
/-! ### what is walked -/
/-- the walk gives ds, one after another, as long as tuples and locked things stay -/
def Wk (K : PySem.W.Frag) (H1 : Hp) (ds : List D) (J : It) : Prop := Walk J ds.length (fun H => Grow H1 H) fun i H x H' => Same H H' ∧ ∃ d, ds[i]? = some d ∧ Im K H' x d
def tI (K : PySem.W.Frag) (n : Nat) (W : XW) (m : Mo (List D)) : TI := fun σ H R => ∃ ρ, Good K H σ ρ ∧ Aft K n W H σ ρ (m ρ) fun ds _ H' => ∀ J, Wk K H' ds J → R J H'
abbrev XI (X : Cx) (n : Nat) (W : XW) (tg e : Expr) (m : Mo (List D)) : Prop := PI X tg e (tI X.K n W m)
section
variable {X : Cx} {n : Nat} {W : XW} {tg : Expr}
theorem weakI {e : Expr} {t t' : TI} (h : PI X tg e t) (q : ∀ σ H Q, t' σ H Q → t σ H Q) : PI X tg e t' := ⟨fun pins s σ H Q I z => h.run pins s σ H Q I (q σ H Q z)⟩
theorem PI.or {e : Expr} {t t' : TI} (h : PI X tg e t) (h' : PI X tg e t') : PI X tg e fun σ H R => t σ H R ∨ t' σ H R := ⟨fun pins s σ H R I z => z.elim (h.run pins s σ H R I) (h'.run pins s σ H R I)⟩
def sign (c : Nat) : D := .str ⟨#[c]⟩
@[simp] def iterD : D → Option (List D)
  | .tuple ds => some ds
  | .list ds => some ds
  | .str x => some (x.cps.toList.map sign)
  | .dict [(.none, _)] => none
  | .dict ((.bool _, _) :: _) => none
  | .dict kvs => some (kvs.map Prod.fst)
  | _ => none
@[simp] def iSeq (f : Mo R) : Mo (List D) := fun ρ => (f ρ).bind fun r ρ1 => match r with
  | .d x => match iterD x with
    | some ds => .ok ds ρ1
    | none => .no
  | .v _ => .no
theorem wk_list {K : PySem.W.Frag} {H : Hp} {a : Addr} {xs : List V} {ds : List D} (h : LkL K H a xs) (r : ImL K H xs ds) : Wk K H ds (Itl K a) := by
  have w := walk_list (K := K) (a := a) (xs := xs)
  rw [r.len] at w
  refine w.mono (fun H' g => (g.l h).sq) fun i H1 x H2 hi g y => ?_
  obtain ⟨rfl, e⟩ := y
  obtain ⟨d, e2, im⟩ := r.get e
  exact ⟨Same.refl _, d, e2, im.grow g⟩
theorem wk_tup {K : PySem.W.Frag} {H : Hp} {a : Addr} {xs : List V} {ds : List D} (h : SqT K H a xs) (r : ImL K H xs ds) : Wk K H ds (Itt K a) := by
  have w := walk_tup (K := K) (a := a) (xs := xs)
  rw [r.len] at w
  refine w.mono (fun H' g => g.t h) fun i H1 x H2 hi g y => ?_
  obtain ⟨rfl, e⟩ := y
  obtain ⟨d, e2, im⟩ := r.get e
  exact ⟨Same.refl _, d, e2, im.grow g⟩
theorem wk_str {K : PySem.W.Frag} {H : Hp} {z : Str} : Wk K H (z.cps.toList.map sign) (Its z) := by
  have w := walk_str (z := z)
  have e : z.cps.size = (z.cps.toList.map sign).length := by rw [List.length_map, Array.length_toList]
  rw [e] at w
  refine w.mono (fun H' g => trivial) fun i H1 x H2 hi g y => ?_
  obtain ⟨rfl, c, e, rfl⟩ := y
  refine ⟨Same.refl _, sign c, ?_, .str _⟩
  rw [List.getElem?_map, Array.getElem?_toList, e]
  rfl
theorem ImKV.key {K : PySem.W.Frag} {H : Hp} : ∀ {kvs : List (Key × V)} {ds : List (D × D)} {i : Nat} {k : Key} {v : V}, ImKV K H kvs ds → kvs[i]? = some (k, v) → ∃ d, ds[i]? = some (keyD k, d) ∧ Im K H v d
  | _, _, 0, k, v, .cons h _, g => by
    cases (Option.some.inj g)
    exact ⟨_, rfl, h⟩
  | _, _, i + 1, k, v, .cons _ r, g => ImKV.key (i := i) r g
theorem ImKV.len {K : PySem.W.Frag} {H : Hp} : ∀ {kvs : List (Key × V)} {ds : List (D × D)}, ImKV K H kvs ds → kvs.length = ds.length
  | _, _, .nil => rfl
  | _, _, .cons _ r => by rw [List.length_cons, List.length_cons, ImKV.len r]
theorem im_key {K : PySem.W.Frag} {H : Hp} (k : Key) : Im K H (kV k) (keyD k) := by
  cases k with
  | inl i => exact .int i
  | inr x => exact .str x
theorem wk_keys {K : PySem.W.Frag} {H : Hp} {a : Addr} {o : Obj} {kvs : List (Key × V)} {ds : List (D × D)} (h : H a = some (.frz o (.dK kvs))) (r : ImKV K H kvs ds) : Wk K H (ds.map Prod.fst) (Itk a o kvs) := by
  have w := walk_keys (d := a) (o := o) (kvs := kvs)
  have e : kvs.length = (ds.map Prod.fst).length := by rw [List.length_map, r.len]
  rw [e] at w
  refine w.mono (fun H' g => g.2.1 _ _ _ h) fun i H1 x H2 hi g y => ?_
  obtain ⟨rfl, k, v, e, rfl⟩ := y
  obtain ⟨d, e2, _⟩ := r.key e
  refine ⟨Same.refl _, keyD k, ?_, im_key k⟩
  rw [List.getElem?_map, e2]
  rfl
theorem xi_seq {e : Expr} {f : Mo R} (h : XD X n W e f) : XI X n W tg e (iSeq f) := weakI (PI.or (PI.or (pi_list h) (pi_tup h)) (PI.or (pi_str h) (pi_keys h))) fun σ H Q ⟨ρ, G, h⟩ => by
  unfold iSeq at h
  cases e : f ρ with
  | no =>
    rw [e] at h
    exact h.elim
  | ex c d ρ' =>
    refine .inl (.inl ⟨ρ, G, ?_⟩)
    rw [e] at h ⊢
    exact h
  | ok r ρ1 =>
    rw [e] at h
    cases r with
    | v _ => exact h.elim
    | d x =>
      cases x with
      | list ds =>
        refine .inl (.inl ⟨ρ, G, ?_⟩)
        rw [e]
        intro H1 s1 v rv
        cases rv with
        | d im => cases im with
          | lst h1 h2 => exact ⟨_, rfl, ⟨_, h1.sq⟩, h H1 s1 _ (wk_list h1 h2)⟩
      | tuple ds =>
        refine .inl (.inr ⟨ρ, G, ?_⟩)
        rw [e]
        intro H1 s1 v rv
        cases rv with
        | d im => cases im with
          | tup h1 h2 => exact ⟨_, rfl, ⟨_, h1.sq⟩, h H1 s1 _ (wk_tup h1.sq h2)⟩
      | str z =>
        refine .inr (.inl ⟨ρ, G, ?_⟩)
        rw [e]
        intro H1 s1 v rv
        cases rv with
        | d im => cases im with
          | str _ => exact ⟨z, rfl, h H1 s1 _ wk_str⟩
      | dict kvs =>
        refine .inr (.inr ⟨ρ, G, ?_⟩)
        rw [e]
        intro H1 s1 v rv
        cases rv with
        | d im => cases im with
          | scr _ => exact h.elim
          | prm _ _ _ => exact h.elim
          | @dic a o ks ds h1 h2 =>
            refine ⟨_, _, rfl, .inl ⟨_, h1, ?_⟩⟩
            have ei : iterD (.dict kvs) = some (kvs.map Prod.fst) := by
              cases h2 with
              | nil => rfl
              | @cons k _ _ _ _ _ r => cases k <;> rfl
            have h : Aft X.K n W H σ ρ (match iterD (.dict kvs) with
              | some ds => Rt.ok ds ρ1
              | none => .no) fun ds _ H' => ∀ J, Wk X.K H' ds J → Q J H' := h
            rw [ei] at h
            exact h H1 s1 _ (wk_keys h1 h2)
      | none => exact h.elim
      | bool _ => exact h.elim
      | int _ => exact h.elim
/-! ### range -/
def rngD (lo : Int) (k : Nat) : List D := (List.range k).map fun i => .int (lo + (i : Nat))
noncomputable def small (i : Int) : Bool := cb (-(2 ^ 62) ≤ i ∧ i < 2 ^ 62)
noncomputable def range1D : List D → Option (List D)
  | [.int j] => if small j = true then some (rngD 0 j.toNat) else none
  | _ => none
noncomputable def range2D : List D → Option (List D)
  | [.int i, .int j] => if small i = true ∧ small j = true then some (rngD i (j - i).toNat) else none
  | _ => none
@[simp] def outL : Option (List D) → Mo (List D)
  | some ds, ρ => .ok ds ρ
  | none, _ => .no
theorem Aft.outL {K : PySem.W.Frag} {n : Nat} {W : XW} {H : Hp} {σ : St} {ρ ρ1 : Ev} {o : Option (List D)} {Q : List D → Ev → Hp → Prop} (h : Aft K n W H σ ρ (outL o ρ1) Q) : ∃ ds, o = some ds ∧ Aft K n W H σ ρ (.ok ds ρ1) Q := by
  cases o with
  | none => exact h.elim
  | some ds => exact ⟨ds, rfl, h⟩
@[simp] def iN (F : List D → Option (List D)) (f : Mo (List R)) : Mo (List D) := fun ρ => (f ρ).bind fun rs ρ1 => outL ((datas rs).bind F) ρ1
theorem wk_range {K : PySem.W.Frag} {H : Hp} {lo : Int} {k : Nat} : Wk K H (rngD lo k) (Itr lo k) := by
  have w := walk_range (lo := lo) (n := k)
  have e : k = (rngD lo k).length := by unfold rngD; rw [List.length_map, List.length_range]
  have w2 : Walk (Itr lo k) (rngD lo k).length (fun _ => True) (YFn fun i => .int (lo + i)) := by rw [← e]; exact w
  refine w2.mono (fun H' g => trivial) fun i H1 x H2 hi g y => ?_
  obtain ⟨rfl, rfl⟩ := y
  refine ⟨Same.refl _, .int (lo + (i : Nat)), ?_, .int _⟩
  unfold rngD at hi ⊢
  rw [List.length_map, List.length_range] at hi
  rw [List.getElem?_map, List.getElem?_range hi]
  rfl
theorem xi_range1 {a : Expr} {p pos : Pos} {f : Mo (List R)} (hg : Gl X "range") (hm : X.mg "range" = none) (ha : XA X n W [a] f) (hs : starEach [a] X.env = [(false, eval a X.env)] := by rfl) : XI X n W tg (.Call (.Name "range" p) [a] [] pos) (iN range1D f) :=
  weakI (pi_range1 hg hm ha hs) fun σ H Q ⟨ρ, G, h⟩ => by
    refine ⟨ρ, G, (Aft.bind h).mono fun rs ρ1 H1 s1 h1 vs rvs => ?_⟩
    obtain ⟨ds, e, h1⟩ := h1.outL
    · cases ed : datas rs with
      | none =>
        rw [ed] at e
        cases e
      | some es =>
        rw [ed] at e
        have e : range1D es = some ds := e
        unfold range1D at e
        split at e
        · next j _ =>
          split at e
          · next le =>
            cases e
            have im := rvs.datas ed
            cases im with
            | cons i1 r => cases r; cases i1; exact ⟨j, rfl, (of_cb le).1, (of_cb le).2, Aft.ok s1.good h1 _ wk_range⟩
          · cases e
        · cases e
/-! ### for -/
def loopD (g : Tg) (b : Mo Out) : List D → Mo Out
  | [], ρ => .ok .nx ρ
  | d :: ds, ρ => match g d ρ with
    | none => .no
    | some ρ1 => (b ρ1).bind fun o ρ2 => match o with
      | .nx => loopD g b ds ρ2
      | .ct => loopD g b ds ρ2
      | .bk => .ok .nx ρ2
      | .rt r => .ok (.rt r) ρ2
      | .rf r => .ok (.rf r) ρ2
@[simp] def bFor (it : Mo (List D)) (g : Tg) (b : Mo Out) : Mo Out := fun ρ => (it ρ).bind fun ds ρ1 => loopD g b ds ρ1
theorem xs_for {iter : Expr} {body : List Stmt} {is : List Nat} {pos : Pos} {it : Mo (List D)} {g : Tg} {b : Mo Out} (hp : PassesOwn (model X.prog X.w) X.A X.env X.xe) (hc : X.calm = true) (hi : XI X n W tg iter it) (hg : XG X n is tg g) (hb : XSs X n W body b)
    (hs : ∀ x, foldedSetIterable iter X.env x = pure x := by intro _; rfl) : XS X n W (.For tg iter body [] pos) (bFor it g b) := weakS (ps_for hp hc hi hg hb hs) fun E σ H ⟨ρ, G, h⟩ => by
  refine ⟨ρ, G, (AftS.bind h).mono fun ds ρ1 H1 s1 h1 J wk => ?_⟩
  refine for_it wk (fun i σ' H' => ∃ ρ', Stp X.K n H1 σ ρ1 H' σ' ρ' ∧ AftS X.K n W E H1 σ ρ1 (loopD g b (ds.drop i) ρ')) ⟨ρ1, Stp.refl s1.good, h1⟩ (fun i σ' H' _ ⟨ρ', st, _⟩ => st.grow s1.good) (fun i x σ' H' H2 hi hP hY => ?_) (fun σ' H' ⟨ρ', st, h'⟩ => ?_)
  · obtain ⟨ρ', st, h'⟩ := hP
    obtain ⟨sm, d, ed, im⟩ := hY
    have es : ds.drop i = d :: ds.drop (i + 1) := by
      have lt : i < ds.length := hi
      rw [List.drop_eq_getElem_cons lt]
      rw [List.getElem?_eq_getElem lt] at ed
      rw [Option.some.inj ed]
    rw [es] at h'
    have st2 := st.trans (Stp.same st.good sm)
    unfold loopD at h'
    cases eg : g d ρ' with
    | none =>
      rw [eg] at h'
      exact h'.elim
    | some ρ2 =>
      rw [eg] at h'
      refine ⟨ρ', d, st2.good, im, ρ2, eg, fun σ3 H3 s3 _ _ => ⟨ρ2, s3.good, ?_⟩⟩
      have st3 := st2.trans s3
      dsimp only at h'
      generalize b ρ2 = z at h'
      cases z with
      | no => exact h'
      | ex c e ρ3 => exact fun σ4 H4 s4 => h' σ4 H4 (st3.trans s4)
      | ok o ρ3 => cases o with
        | nx => exact fun σ4 H4 s4 => ⟨ρ3, st3.trans s4, h'⟩
        | ct => exact fun σ4 H4 s4 => ⟨ρ3, st3.trans s4, h'⟩
        | bk => exact fun σ4 H4 s4 => h' σ4 H4 (st3.trans s4)
        | rt r => exact fun v σ4 H4 s4 rv => h' v σ4 H4 (st3.trans s4) rv
        | rf o => exact fun p u σ4 H4 s4 np => h' p u σ4 H4 (st3.trans s4) (st3.live p np)
  · rw [List.drop_length] at h'
    exact h' σ' H' st
/-! ### while -/
def whileD (c : Mo Bool) (b : Mo Out) : Nat → Mo Out
  | 0, _ => .no
  | k + 1, ρ => (c ρ).bind fun t ρ1 => if t = true then (b ρ1).bind fun o ρ2 => match o with
      | .nx => whileD c b k ρ2
      | .ct => whileD c b k ρ2
      | .bk => .ok .nx ρ2
      | .rt r => .ok (.rt r) ρ2
      | .rf r => .ok (.rf r) ρ2
    else .ok .nx ρ1
theorem xs_while {c : Expr} {body : List Stmt} {pos : Pos} {fc : Mo Bool} {b : Mo Out} (k : Nat) (hp : PassesOwn (model X.prog X.w) X.A X.env X.xe) (hc : XB X n W c fc) (hb : XSs X n W body b) : XS X n W (.While c body [] pos) (whileD fc b k) := weakS (ps_while hp hc hb) fun E σ H ⟨ρ, G, h⟩ => by
  refine ⟨fun m σ' H' => ∃ ρ', Stp X.K n H σ ρ H' σ' ρ' ∧ AftS X.K n W E H σ ρ (whileD fc b m ρ'), ⟨k, ρ, Stp.refl G, h⟩, fun m σ' H' hW => ?_⟩
  obtain ⟨ρ', st, h'⟩ := hW
  cases m with
  | zero => exact h'.elim
  | succ m =>
    refine ⟨ρ', st.good, (AftS.bind' st h').mono fun t ρ1 H1 s1 h1 => ?_⟩
    have st1 := st.trans s1
    cases t with
    | false => exact iteF (h1 σ' H1 st1)
    | true =>
      refine iteT ⟨fun σ2 H2 => ∃ ρ2, Stp X.K n H σ ρ H2 σ2 ρ2 ∧ AftS X.K n W E H σ ρ (whileD fc b m ρ2), fun σ2 H2 w2 => ⟨m, Nat.lt_succ_self m, w2⟩, ρ1, s1.good, ?_⟩
      have h1 : AftS X.K n W E H σ ρ ((b ρ1).bind fun o ρ2 => match o with
        | .nx => whileD fc b m ρ2
        | .ct => whileD fc b m ρ2
        | .bk => .ok .nx ρ2
        | .rt r => .ok (.rt r) ρ2
        | .rf r => .ok (.rf r) ρ2) := h1
      generalize b ρ1 = z at h1
      cases z with
      | no => exact h1
      | ex c e ρ3 => exact fun σ4 H4 s4 => h1 σ4 H4 (st1.trans s4)
      | ok o ρ3 => cases o with
        | nx => exact fun σ4 H4 s4 => ⟨ρ3, st1.trans s4, h1⟩
        | ct => exact fun σ4 H4 s4 => ⟨ρ3, st1.trans s4, h1⟩
        | bk => exact fun σ4 H4 s4 => h1 σ4 H4 (st1.trans s4)
        | rt r => exact fun v σ4 H4 s4 rv => h1 v σ4 H4 (st1.trans s4) rv
        | rf o => exact fun p u σ4 H4 s4 np => h1 p u σ4 H4 (st1.trans s4) (st1.live p np)
end
end Q
namespace Q
open PySem PySem.Spec PyProof.Rows L2
variable [Tbl]
/-! ### comprehensions -/
@[simp] def wipeE (ρ : Ev) : List Nat → Ev
  | [] => ρ
  | v :: vs => (wipeE ρ vs).set v .no
@[simp] def mixE (ρ0 ρ : Ev) : List Nat → Ev
  | [] => ρ
  | v :: vs => (mixE ρ0 ρ vs).set v (ρ0.getD v .no)
theorem wipeE_len (ρ : Ev) : ∀ vs, (wipeE ρ vs).length = ρ.length
  | [] => rfl
  | v :: vs => by
    show ((wipeE ρ vs).set v .no).length = _
    rw [List.length_set, wipeE_len ρ vs]
theorem mixE_len (ρ0 ρ : Ev) : ∀ vs, (mixE ρ0 ρ vs).length = ρ.length
  | [] => rfl
  | v :: vs => by
    show ((mixE ρ0 ρ vs).set v _).length = _
    rw [List.length_set, mixE_len ρ0 ρ vs]
theorem wipe_in {σ : St} {j : Nat} : ∀ {vs : List Nat}, j ∈ vs → j < σ.length → (wipe σ vs)[j]? = some none
  | v :: vs, h, lt => by
    show ((wipe σ vs).set v none)[j]? = some none
    by_cases e : v = j
    · subst e
      exact set_at (by rw [wipe_length]; exact lt)
    · rw [set_ne e]
      refine wipe_in ?_ lt
      rcases List.mem_cons.mp h with z | z
      · exact absurd z.symm e
      · exact z
theorem wipe_out {σ : St} {j : Nat} : ∀ {vs : List Nat}, j ∉ vs → (wipe σ vs)[j]? = σ[j]?
  | [], _ => rfl
  | v :: vs, h => by
    show ((wipe σ vs).set v none)[j]? = _
    rw [set_ne fun e => h (by rw [e]; exact List.mem_cons_self)]
    exact wipe_out fun z => h (List.mem_cons_of_mem _ z)
theorem wipeE_in {ρ : Ev} {j : Nat} : ∀ {vs : List Nat}, j ∈ vs → j < ρ.length → (wipeE ρ vs)[j]? = some .no
  | v :: vs, h, lt => by
    show ((wipeE ρ vs).set v .no)[j]? = some .no
    by_cases e : v = j
    · subst e
      exact set_at (by rw [wipeE_len]; exact lt)
    · rw [set_ne e]
      refine wipeE_in ?_ lt
      rcases List.mem_cons.mp h with z | z
      · exact absurd z.symm e
      · exact z
theorem wipeE_out {ρ : Ev} {j : Nat} : ∀ {vs : List Nat}, j ∉ vs → (wipeE ρ vs)[j]? = ρ[j]?
  | [], _ => rfl
  | v :: vs, h => by
    show ((wipeE ρ vs).set v .no)[j]? = _
    rw [set_ne fun e => h (by rw [e]; exact List.mem_cons_self)]
    exact wipeE_out fun z => h (List.mem_cons_of_mem _ z)
theorem wipeE_some {ρ : Ev} {j : Nat} {vs : List Nat} {s : Sl} (h : (wipeE ρ vs)[j]? = some s) (ne : s ≠ .no) : j ∉ vs ∧ ρ[j]? = some s := by
  have lt : j < ρ.length := by
    have := (List.getElem?_eq_some_iff.mp h).1
    rw [wipeE_len] at this
    exact this
  by_cases z : j ∈ vs
  · rw [wipeE_in z lt] at h
    cases h
    exact absurd rfl ne
  · rw [wipeE_out z] at h
    exact ⟨z, h⟩
theorem mixE_in {ρ0 ρ : Ev} {j : Nat} (l0 : ρ0.length = ρ.length) : ∀ {vs : List Nat}, j ∈ vs → j < ρ.length → (mixE ρ0 ρ vs)[j]? = ρ0[j]?
  | v :: vs, h, lt => by
    show ((mixE ρ0 ρ vs).set v _)[j]? = _
    by_cases e : v = j
    · subst e
      rw [set_at (by rw [mixE_len]; exact lt), List.getD_eq_getElem?_getD, List.getElem?_eq_getElem (by omega)]
      rfl
    · rw [set_ne e]
      refine mixE_in l0 ?_ lt
      rcases List.mem_cons.mp h with z | z
      · exact absurd z.symm e
      · exact z
theorem mixE_out {ρ0 ρ : Ev} {j : Nat} : ∀ {vs : List Nat}, j ∉ vs → (mixE ρ0 ρ vs)[j]? = ρ[j]?
  | [], _ => rfl
  | v :: vs, h => by
    show ((mixE ρ0 ρ vs).set v _)[j]? = _
    rw [set_ne fun e => h (by rw [e]; exact List.mem_cons_self)]
    exact mixE_out fun z => h (List.mem_cons_of_mem _ z)
theorem wipe_eq {σ σ2 : St} {vs : List Nat} (l : σ2.length = σ.length) (h : ∀ j, j ∉ vs → σ2[j]? = (wipe σ vs)[j]?) : wipe σ2 vs = wipe σ vs := by
  apply List.ext_getElem?
  intro j
  by_cases z : j ∈ vs
  · by_cases lt : j < σ.length
    · rw [wipe_in z lt, wipe_in z (by omega)]
    · rw [List.getElem?_eq_none (by rw [wipe_length]; omega), List.getElem?_eq_none (by rw [wipe_length]; omega)]
  · rw [wipe_out z, h j z]
section
variable {K : PySem.W.Frag} {n : Nat} {H H1 H2 H' : Hp} {σ σ1 σ2 σ' : St} {ρ ρ1 ρ2 ρ' : Ev} {vs : List Nat}
theorem Own.wipe {p : Addr} (h : Own (wipe σ vs) (wipeE ρ vs) p) : Own σ ρ p := by
  obtain ⟨i, o, e1, e2⟩ := h
  obtain ⟨ni, e3⟩ := wipeE_some e1 (fun z => nomatch z)
  rw [wipe_out ni] at e2
  exact ⟨i, o, e3, e2⟩
theorem Good.wipe (G : Good K H σ ρ) (vs : List Nat) : Good K H (wipe σ vs) (wipeE ρ vs) := by
  refine ⟨by rw [wipe_length, wipeE_len, G.len], fun i d h => ?_, fun i o h => ?_, fun i j o o' p h1 h2 h3 h4 => ?_, G.tab, fun i c f d h => ?_⟩
  · obtain ⟨ni, e⟩ := wipeE_some h (fun z => nomatch z)
    rw [wipe_out ni]
    exact G.dat i d e
  · obtain ⟨ni, e⟩ := wipeE_some h (fun z => nomatch z)
    rw [wipe_out ni]
    exact G.own i o e
  · obtain ⟨ni, e1⟩ := wipeE_some h1 (fun z => nomatch z)
    obtain ⟨nj, e2⟩ := wipeE_some h2 (fun z => nomatch z)
    rw [wipe_out ni] at h3
    rw [wipe_out nj] at h4
    exact G.dif i j o o' p e1 e2 h3 h4
  · obtain ⟨ni, e⟩ := wipeE_some h (fun z => nomatch z)
    rw [wipe_out ni]
    exact G.exc i c f d e
theorem Stp.wiped (s : Stp K n H σ ρ H' σ' ρ') (hv : ∀ v ∈ vs, n ≤ v) : Stp K n H σ ρ H' (wipe σ' vs) (wipeE ρ' vs) := by
  refine ⟨s.good.wipe vs, fun i hi => ?_, s.kept, fun p h => s.news p h.wipe, s.live⟩
  have ni : i ∉ vs := fun z => by
    have := hv i z
    omega
  rw [wipe_out ni, wipeE_out ni]
  exact s.par i hi
/-- behind a comprehension: its own names are as they were ahead -/
theorem Stp.mixed (G : Good K H σ ρ) (hv : ∀ v ∈ vs, n ≤ v) (ho : ∀ v ∈ vs, ∀ o, ρ[v]? ≠ some (.own o)) (s : Stp K n H (wipe σ vs) (wipeE ρ vs) H' (wipe σ vs) ρ') : Stp K n H σ ρ H' σ (mixE ρ ρ' vs) := by
  have l : ρ.length = ρ'.length := by
    have := s.good.len
    rw [wipe_length, G.len] at this
    exact this
  have g := s.grow (G.wipe vs)
  have own : ∀ i o, (mixE ρ ρ' vs)[i]? = some (.own o) → i ∉ vs ∧ ρ'[i]? = some (.own o) := fun i o h => by
    by_cases z : i ∈ vs
    · rw [mixE_in l z (by have := (List.getElem?_eq_some_iff.mp h).1; rw [mixE_len] at this; exact this)] at h
      exact absurd h (ho i z o)
    · rw [mixE_out z] at h
      exact ⟨z, h⟩
  have own2 : ∀ p, Own σ (mixE ρ ρ' vs) p → Own (wipe σ vs) ρ' p := fun p h => by
    obtain ⟨i, o, e1, e2⟩ := h
    obtain ⟨z, e3⟩ := own i o e1
    exact ⟨i, o, e3, by rw [wipe_out z]; exact e2⟩
  have ow3 : ∀ p, Own σ ρ p → Own (wipe σ vs) (wipeE ρ vs) p := fun p h => by
    obtain ⟨i, o, e1, e2⟩ := h
    have z : i ∉ vs := fun z => ho i z o e1
    exact ⟨i, o, by rw [wipeE_out z]; exact e1, by rw [wipe_out z]; exact e2⟩
  refine ⟨⟨by rw [mixE_len, ← l, G.len], fun i d h => ?_, fun i o h => ?_, fun i j o o' p h1 h2 h3 h4 => ?_, s.good.tab, fun i c f d h => ?_⟩, fun i hi => ⟨rfl, fun o h => ?_⟩, fun b o h nb => s.kept b o h fun z => nb z.wipe, fun p h => ?_, s.live⟩
  · by_cases z : i ∈ vs
    · rw [mixE_in l z (by have := (List.getElem?_eq_some_iff.mp h).1; rw [mixE_len] at this; exact this)] at h
      obtain ⟨v, e, im⟩ := G.dat i d h
      exact ⟨v, e, im.grow g⟩
    · rw [mixE_out z] at h
      obtain ⟨v, e, im⟩ := s.good.dat i d h
      rw [wipe_out z] at e
      exact ⟨v, e, im⟩
  · obtain ⟨z, e⟩ := own i o h
    obtain ⟨p, u, e1, e2⟩ := s.good.own i o e
    rw [wipe_out z] at e1
    exact ⟨p, u, e1, e2⟩
  · obtain ⟨z1, e1⟩ := own i o h1
    obtain ⟨z2, e2⟩ := own j o' h2
    exact s.good.dif i j o o' p e1 e2 (by rw [wipe_out z1]; exact h3) (by rw [wipe_out z2]; exact h4)
  · by_cases z : i ∈ vs
    · rw [mixE_in l z (by have := (List.getElem?_eq_some_iff.mp h).1; rw [mixE_len] at this; exact this)] at h
      exact (G.exc i c f d h).elim fun a q => ⟨a, q.1, q.2.grow g⟩
    · rw [mixE_out z] at h
      obtain ⟨v, e, im⟩ := s.good.exc i c f d h
      rw [wipe_out z] at e
      exact ⟨v, e, im⟩
  · have z : i ∉ vs := fun z => by
      have := hv i z
      omega
    rw [mixE_out z]
    exact (s.par i hi).2 o (by rw [wipeE_out z]; exact h)
  · rcases s.news p (own2 p h) with z | z
    · exact .inl z.wipe
    · exact .inr z
/-- a thing beside the slots is changed -/
theorem Stp.beside (s : Stp K n H σ ρ H' σ' ρ') {p : Addr} {h u : HO} (np : H p = none) (e : H' p = some h) (m : Mut (some h)) (nt : NoTab h) (no : ¬ Own σ' ρ' p) : Stp K n H σ ρ (upd H' p u) σ' ρ' := by
  refine ⟨s.good.grow (grow_upd e m (noTab_code nt)) (fun q o hq eq => ?_) (TabOk.upd e m nt), s.par, fun b o eb nb nt => ?_, s.news, fun b hb => s.live b (live_upd e b hb)⟩
  · rw [upd_ne fun z => no (by rw [← z]; exact hq)]
    exact eq
  · rw [upd_ne (ne_of_none eb np)]
    exact s.kept b o eb nb nt
end
abbrev W0 : XW := fun _ _ _ _ => False
@[simp] def Rt.bnd {α β : Type} : Rt α → (α → Ev → Rt β) → Rt β
  | .ok a ρ, k => k a ρ
  | _, _ => .no
def compD (g : Tg) (t : Mo Bool) (e : Mo R) (vs : List Nat) : List D → Mo (List D)
  | [], ρ => .ok [] ρ
  | d :: ds, ρ => match g d ρ with
    | none => .no
    | some ρ1 => (t ρ1).bnd fun b ρ2 => if b = true then (e ρ2).bnd fun r ρ3 => match r with
        | .d x => (compD g t e vs ds (wipeE ρ3 vs)).bnd fun xs ρ4 => .ok (x :: xs) ρ4
        | .v _ => .no
      else compD g t e vs ds (wipeE ρ2 vs)
@[simp] def noOwn (ρ : Ev) : List Nat → Bool
  | [] => true
  | v :: vs => (match ρ[v]? with
    | some (.own _) => false
    | _ => true) && noOwn ρ vs
theorem noOwn_at {ρ : Ev} : ∀ {vs : List Nat}, noOwn ρ vs = true → ∀ v ∈ vs, ∀ o, ρ[v]? ≠ some (.own o)
  | v :: vs, h, w, hw, o, e => by
    have h : ((match ρ[v]? with
      | some (.own _) => false
      | _ => true) && noOwn ρ vs) = true := h
    rw [Bool.and_eq_true] at h
    rcases List.mem_cons.mp hw with z | z
    · rw [← z, e] at h
      exact absurd h.1 Bool.false_ne_true
    · exact noOwn_at h.2 w z o e
@[simp] def fComp (it : Mo (List D)) (g : Tg) (t : Mo Bool) (e : Mo R) (vs : List Nat) : Mo Ob := fun ρ => (it ρ).bind fun ds ρ1 => if ds.length ≤ sizeLine ∧ noOwn ρ1 vs = true then (compD g t e vs ds (wipeE ρ1 vs)).bnd fun xs ρ2 => .ok (.lst xs) (mixE ρ1 ρ2 vs) else .no
@[simp] def bYes : Mo Bool := fun ρ => .ok true ρ
theorem xts_nil {X : Cx} {n : Nat} {W : XW} : PTs X [] (tXb X.K n W bYes) := ⟨fun pins s σ H Q I ⟨ρ, G, h⟩ => (pts_nil (X := X)).run pins s σ H Q I (Aft.ok G h)⟩
theorem xts_one {X : Cx} {n : Nat} {W : XW} {c : Expr} {f : Mo Bool} (h : XB X n W c f) : PTs X [c] (tXb X.K n W f) := pts_one h
section
variable {X : Cx} {n : Nat} {W : XW} {tg : Expr}
theorem comp_run {K : PySem.W.Frag} {is vs : List Nat} {it : Mo (List D)} {g : Tg} {t : Mo Bool} {e : Mo R} (his : ∀ i ∈ is, i ∈ vs) (hn : ∀ v ∈ vs, n ≤ v) (σ : St) (H : Hp) (Q : VK) (h : tF K n W (fComp it g t e vs) σ H Q) : tLc (tI K n W it) (tG K n is g) (tXb K n W0 t) (tX K n W0 e) vs σ H Q := by
  obtain ⟨ρ, G, h⟩ := h
  refine ⟨ρ, G, (Aft.bind h).mono fun ds ρ1 H1 s1 h1 J wk D hD => ?_⟩
  split at h1
  case isFalse => exact h1.elim
  case isTrue hc =>
  obtain ⟨hl, hno⟩ := hc
  have sD := same_upd (o := .lst []) hD
  have no1 : ¬ Own (wipe σ vs) (wipeE ρ1 vs) D := fun z => new_own s1.good hD z.wipe
  have stD : Stp K n H1 (wipe σ vs) (wipeE ρ1 vs) (upd H1 D (.lst [])) (wipe σ vs) (wipeE ρ1 vs) := Stp.same (s1.good.wipe vs) sD
  refine lc_it wk (fun i H' => ∃ ρ' acc ads, Stp K n H1 (wipe σ vs) (wipeE ρ1 vs) H' (wipe σ vs) ρ' ∧ H' D = some (.lst acc) ∧ ImL K H' acc ads ∧ acc.length ≤ i ∧ ¬ Own (wipe σ vs) ρ' D ∧
      ∃ xs ρ2, compD g t e vs (ds.drop i) ρ' = .ok xs ρ2 ∧ compD g t e vs ds (wipeE ρ1 vs) = .ok (ads ++ xs) ρ2) ?_ (fun i H' _ hP => ?_) (fun i x H' H2 hi hP hY => ?_) (fun H' hP => ?_)
  · cases ec : compD g t e vs ds (wipeE ρ1 vs) with
    | no =>
      rw [ec] at h1
      exact h1.elim
    | ex c d ρ' =>
      rw [ec] at h1
      exact h1.elim
    | ok xs ρ2 => exact ⟨_, [], [], stD, upd_same, .nil, Nat.le_refl _, no1, xs, ρ2, ec, rfl⟩
  · obtain ⟨ρ', acc, ads, st, _⟩ := hP
    exact st.grow (s1.good.wipe vs)
  · obtain ⟨ρ', acc, ads, st, eD, im, la, no, xs, ρ2, ec, et⟩ := hP
    obtain ⟨sm, d, ed, imx⟩ := hY
    have lt : i < ds.length := hi
    have es : ds.drop i = d :: ds.drop (i + 1) := by
      rw [List.drop_eq_getElem_cons lt]
      rw [List.getElem?_eq_getElem lt] at ed
      rw [Option.some.inj ed]
    rw [es] at ec
    have st2 := st.trans (Stp.same st.good sm)
    have eD2 := sm _ _ eD
    have im2 := im.same sm
    -- D is kept by a step
    have keep : ∀ {Ha Hb : Hp} {σa σb : St} {ρa ρb : Ev}, Good K Ha σa ρa → Ha D = some (.lst acc) → ¬ Own σa ρa D → Stp K n Ha σa ρa Hb σb ρb → Hb D = some (.lst acc) ∧ ¬ Own σb ρb D := fun {Ha Hb σa σb ρa ρb} G e no s => by
      refine ⟨s.kept _ _ e no (fun ps z => nomatch z), fun z => ?_⟩
      rcases s.news _ z with z | z
      · exact no z
      · rw [e] at z
        cases z
    unfold compD at ec
    cases eg : g d ρ' with
    | none =>
      rw [eg] at ec
      cases ec
    | some ρ3 =>
      rw [eg] at ec
      refine ⟨ρ', d, st2.good, imx, ρ3, eg, fun σ3 H3 s3 nj l3 => ?_⟩
      have l3 : σ3.length = σ.length := by rw [l3, wipe_length]
      have ew : wipe σ3 vs = wipe σ vs := wipe_eq l3 fun j hj => nj j fun z => hj (his j z)
      refine ⟨ew, ρ3, s3.good, ?_⟩
      obtain ⟨eD3, no3⟩ := keep st2.good eD2 no s3
      have im3 := im2.grow (s3.grow st2.good)
      have st3 := st2.trans s3
      dsimp only at ec
      cases ett : t ρ3 with
      | no =>
        rw [ett] at ec
        cases ec
      | ex c e ρ4 =>
        rw [ett] at ec
        cases ec
      | ok b ρ4 =>
        rw [ett] at ec
        intro H4 s4
        obtain ⟨eD4, no4⟩ := keep s3.good eD3 no3 s4
        have im4 := im3.grow (s4.grow s3.good)
        have st4 := st3.trans s4
        cases b with
        | false =>
          refine iteF ⟨wipeE ρ4 vs, acc, ads, ?_, eD4, im4, by omega, fun z => ?_, xs, ρ2, ec, et⟩
          · have := st4.wiped (vs := vs) hn
            rw [ew] at this
            exact this
          · rw [← ew] at z
            exact no4 z.wipe
        | true =>
          refine iteT ⟨ρ4, s4.good, ?_⟩
          have ec : (e ρ4).bnd (fun r ρ3 => match r with
            | .d x => (compD g t e vs (ds.drop (i + 1)) (wipeE ρ3 vs)).bnd fun xs ρ4 => .ok (x :: xs) ρ4
            | .v _ => .no) = .ok xs ρ2 := ec
          cases ee : e ρ4 with
          | no =>
            rw [ee] at ec
            cases ec
          | ex c f ρ5 =>
            rw [ee] at ec
            cases ec
          | ok r ρ5 =>
            rw [ee] at ec
            intro H5 s5 v rv
            obtain ⟨eD5, no5⟩ := keep s4.good eD4 no4 s5
            have im5 := im4.grow (s5.grow s4.good)
            have st5 := st4.trans s5
            cases rv with
            | v _ => cases ec
            | @d x imv =>
              have ec : (compD g t e vs (ds.drop (i + 1)) (wipeE ρ5 vs)).bnd (fun xs ρ4 => .ok (x :: xs) ρ4) = .ok xs ρ2 := ec
              cases er : compD g t e vs (ds.drop (i + 1)) (wipeE ρ5 vs) with
              | no =>
                rw [er] at ec
                cases ec
              | ex c f ρ6 =>
                rw [er] at ec
                cases ec
              | ok ys ρ6 =>
                rw [er] at ec
                cases ec
                have gu : Grow H5 (upd H5 D (.lst (acc ++ [v]))) := grow_upd eD5 trivial (noTab_code (h := .lst _) trivial)
                refine ⟨acc, eD5, by omega, wipeE ρ5 vs, acc ++ [v], ads ++ [x], ?_, upd_same, (im5.append (.cons imv .nil)).grow gu, by rw [List.length_append]; show acc.length + 1 ≤ _; omega, fun z => ?_, ys, ρ2, er, by rw [et, List.append_assoc]; rfl⟩
                · have := (st5.beside (u := .lst (acc ++ [v])) hD eD5 trivial trivial no5).wiped (vs := vs) hn
                  rw [ew] at this
                  exact this
                · rw [← ew] at z
                  exact no5 z.wipe
  · obtain ⟨ρ', acc, ads, st, eD, im, la, no, xs, ρ2, ec, et⟩ := hP
    rw [List.drop_length] at ec
    cases ec
    rw [List.append_nil] at et
    rw [et] at h1
    have stF := Stp.mixed s1.good hn (noOwn_at hno) st
    refine h1 H' stF D _ (s1.live D hD) eD (.lst im) fun z => ?_
    obtain ⟨j, o, e1, e2⟩ := z
    by_cases w : j ∈ vs
    · have l : ρ1.length = ρ'.length := by
        have a := s1.good.len
        have b := st.good.len
        rw [wipe_length] at b
        omega
      rw [mixE_in l w (by have := (List.getElem?_eq_some_iff.mp e1).1; rw [mixE_len] at this; exact this)] at e1
      exact noOwn_at hno j w o e1
    · rw [mixE_out w] at e1
      exact no ⟨j, o, e1, by rw [wipe_out w]; exact e2⟩
theorem xf_comp {elt iter : Expr} {ifs : List Expr} {scope : Scope} {own : List (Str × Nat)} {is vs : List Nat} {pos : Pos} {it : Mo (List D)} {g : Tg} {t : Mo Bool} {e : Mo R} (hc : X.calm = true) (hN : X.N.Nodup) (hv : vs = own.map (·.2)) (his : ∀ i ∈ is, i ∈ vs) (hn : ∀ v ∈ vs, n ≤ v)
    (hi : XI X n W tg iter it) (ok : BlkOk X.N X.env.scope scope own)
    (hg : ∀ (s : Shared) (H : Hp) (C : Addr) (cl : List (Str × Addr)) (fp : List Addr), PG (X.blk s H scope (compEnvC scope cl C X.env) fp) tg (tG X.K n is g)) (ht : ∀ (s : Shared) (H : Hp) (C : Addr) (cl : List (Str × Addr)) (fp : List Addr), PTs (X.blk s H scope (compEnvC scope cl C X.env) fp) ifs (tXb X.K n W0 t))
    (he : ∀ (s : Shared) (H : Hp) (C : Addr) (cl : List (Str × Addr)) (fp : List Addr), PE (X.blk s H scope (compEnvC scope cl C X.env) fp) elt (tX X.K n W0 e)) (hs : ∀ x, foldedSetIterable iter X.env x = pure x := by intro _; rfl) :
    XF X n W (.ListComp elt [⟨tg, iter, ifs, 0⟩] scope pos) (fComp it g t e vs) := by
  subst hv
  exact weakE (pe_lc hc hN hi ok hg ht he hs) (comp_run his hn)
/-- a thing is locked behind a statement -/
def tSFrz (t : TS) : TS := fun E σ H => t { E with nx := fun σ' H' => ∃ p u, H' p = some u ∧ Mut (some u) ∧ ∀ od, E.nx σ' (upd H' p (.frz od u)) } σ H
end
end Q
namespace Q
open PySem PySem.Spec PyProof.Rows L2 Gd
variable [Tbl]
/-! ### defs -/
abbrev Fn := List Sl → Rt Sl
def spD (K : PySem.W.Frag) (F : Fn) : Sp := fun vs H Q _ => ∃ as s as', Good K H (vs.map some) as ∧ F as = .ok s as' ∧ ∀ v H', Stp K vs.length H (vs.map some) as H' (vs.map some) as' → SR K H H' (vs.map some) as' v s → Q v H'
@[simp] def fin (n : Nat) (ρ : Ev) : Out → Rt Sl
  | .nx => .ok (.dat .none) (ρ.take n)
  | .rt (.d x) => .ok (.dat x) (ρ.take n)
  | .rt (.v i) => if n ≤ i then match ρ[i]? with
      | some (.own o) => .ok (.own o) (ρ.take n)
      | _ => .no
    else .no
  | .rf o => .ok (.own o) (ρ.take n)
  | _ => .no
@[simp] def fnOf (n N : Nat) (b : Mo Out) : Fn := fun as => if as.length = n then (b (as ++ List.replicate (N - n) .no)).bnd fun o ρ => fin n ρ o else .no
section
variable {K : PySem.W.Frag} {n : Nat} {H H' : Hp} {σ σ' : St} {ρ ρ' : Ev}
theorem Good.pad (G : Good K H σ ρ) (m : Nat) : Good K H (σ ++ List.replicate m none) (ρ ++ List.replicate m .no) := by
  have get : ∀ {i : Nat} {s : Sl}, (ρ ++ List.replicate m Sl.no)[i]? = some s → s ≠ .no → i < ρ.length ∧ ρ[i]? = some s := fun {i s} h ne => by
    by_cases lt : i < ρ.length
    · rw [List.getElem?_append_left lt] at h
      exact ⟨lt, h⟩
    · rw [List.getElem?_append_right (by omega)] at h
      have := List.mem_of_getElem? h
      exact absurd (List.mem_replicate.mp this).2 ne
  have sg : ∀ {i : Nat}, i < ρ.length → (σ ++ List.replicate m none)[i]? = σ[i]? := fun {i} lt => List.getElem?_append_left (by rw [G.len]; exact lt)
  refine ⟨by rw [List.length_append, List.length_append, List.length_replicate, List.length_replicate, G.len], fun i d h => ?_, fun i o h => ?_, fun i j o o' p h1 h2 h3 h4 => ?_, G.tab, fun i c f d h => ?_⟩
  · obtain ⟨lt, e⟩ := get h (fun z => nomatch z)
    rw [sg lt]
    exact G.dat i d e
  · obtain ⟨lt, e⟩ := get h (fun z => nomatch z)
    rw [sg lt]
    exact G.own i o e
  · obtain ⟨l1, e1⟩ := get h1 (fun z => nomatch z)
    obtain ⟨l2, e2⟩ := get h2 (fun z => nomatch z)
    rw [sg l1] at h3
    rw [sg l2] at h4
    exact G.dif i j o o' p e1 e2 h3 h4
  · obtain ⟨lt, e⟩ := get h (fun z => nomatch z)
    rw [sg lt]
    exact G.exc i c f d e
theorem Own.pad {m : Nat} {p : Addr} (l : σ.length = ρ.length) (h : Own (σ ++ List.replicate m none) (ρ ++ List.replicate m .no) p) : Own σ ρ p := by
  obtain ⟨i, o, e1, e2⟩ := h
  by_cases lt : i < ρ.length
  · rw [List.getElem?_append_left lt] at e1
    rw [List.getElem?_append_left (by omega)] at e2
    exact ⟨i, o, e1, e2⟩
  · rw [List.getElem?_append_right (by omega)] at e1
    cases (List.mem_replicate.mp (List.mem_of_getElem? e1)).2
theorem take_some {α : Type} {l : List α} {n i : Nat} {a : α} (h : (l.take n)[i]? = some a) : i < n ∧ l[i]? = some a := by
  have lt : i < n := by
    have := (List.getElem?_eq_some_iff.mp h).1
    rw [List.length_take] at this
    omega
  rw [List.getElem?_take_of_lt lt] at h
  exact ⟨lt, h⟩
/-- a body's steps, seen by the caller -/
theorem Stp.unpad {m : Nat} (G : Good K H σ ρ) (ln : ρ.length = n) (s : Stp K n H (σ ++ List.replicate m none) (ρ ++ List.replicate m .no) H' σ' ρ') (l' : n ≤ ρ'.length) : Stp K n H σ ρ H' σ (ρ'.take n) := by
  have sg : ∀ {i : Nat}, i < n → σ'[i]? = σ[i]? := fun {i} lt => ((s.par i lt).1).trans (List.getElem?_append_left (by rw [G.len, ln]; exact lt))
  have ow : ∀ p, Own σ (ρ'.take n) p → Own σ' ρ' p := fun p h => by
    obtain ⟨i, o, e1, e2⟩ := h
    obtain ⟨lt, e⟩ := take_some e1
    exact ⟨i, o, e, by rw [sg lt]; exact e2⟩
  have op : ∀ p, Own σ ρ p → Own (σ ++ List.replicate m none) (ρ ++ List.replicate m .no) p := fun p h => by
    obtain ⟨i, o, e1, e2⟩ := h
    have lt := (List.getElem?_eq_some_iff.mp e1).1
    exact ⟨i, o, by rw [List.getElem?_append_left lt]; exact e1, by rw [List.getElem?_append_left (by rw [G.len]; exact lt)]; exact e2⟩
  refine ⟨⟨by rw [List.length_take, G.len, ln]; omega, fun i d h => ?_, fun i o h => ?_, fun i j o o' p h1 h2 h3 h4 => ?_, s.good.tab, fun i c f d h => ?_⟩, fun i hi => ⟨rfl, fun o h => ?_⟩, fun b o e nb => s.kept b o e fun z => nb (z.pad G.len), fun p h => ?_, s.live⟩
  · obtain ⟨lt, e⟩ := take_some h
    rw [← sg lt]
    exact s.good.dat i d e
  · obtain ⟨lt, e⟩ := take_some h
    rw [← sg lt]
    exact s.good.own i o e
  · obtain ⟨l1, e1⟩ := take_some h1
    obtain ⟨l2, e2⟩ := take_some h2
    exact s.good.dif i j o o' p e1 e2 (by rw [sg l1]; exact h3) (by rw [sg l2]; exact h4)
  · obtain ⟨lt, e⟩ := take_some h
    rw [← sg lt]
    exact s.good.exc i c f d e
  · obtain ⟨o', e⟩ := (s.par i hi).2 o (by rw [List.getElem?_append_left (by omega)]; exact h)
    exact ⟨o', by rw [List.getElem?_take_of_lt hi]; exact e⟩
  · rcases s.news p (ow p h) with z | z
    · exact .inl (z.pad G.len)
    · exact .inr z
end
section
variable {P : Program} {w : World} {K : PySem.W.Frag} {mg : Str → Option Value} {base : Heap} {k : Nat} {f : Addr} {fd : FuncData}
theorem okD {x qual : Str} {st : Stmt} {N ps : List Str} {b : Mo Out} (F : Fun K x qual st f fd) (S : FnScope N ps (defScope st)) (hN : ps.length ≤ N.length)
    (B : ∀ (cdv : Value) (A : Around) (outer : List Env) (s : Shared) (H : Hp) (E : XK), fd.code = cdv → A.guards = some [] → Room k (A.deeper (envOfC qual (defScope st) s.heap.objs.size f cdv)) →
      XSs (cxOf CX0 P w K mg base N qual (defScope st) f cdv A outer s H E).nox ps.length W0 (defBody st) b) : FnG P w K mg base (k + 1) f fd ps (spD K (fnOf ps.length N.length b)) := by
  have lenF : ∀ {as : List Sl} {s : Sl} {as' : Ev}, fnOf ps.length N.length b as = .ok s as' → as.length = ps.length := fun {as s as'} e => by
    unfold fnOf at e
    split at e
    · next l => exact l
    · cases e
  refine okG F S (fun vs H Q E ⟨as, s, as', G, e, _⟩ => ?_) (fun cdv A outer s0 H vs Q E hc hg hr h => ?_)
  · have := G.len
    rw [List.length_map, lenF e] at this
    exact this
  · obtain ⟨as, s, as', G, e, q⟩ := h
    have la := lenF e
    have lv : vs.length = ps.length := by
      have := G.len
      rw [List.length_map, la] at this
      exact this
    refine ⟨_, B cdv A outer s0 H E hc hg hr, as ++ List.replicate (N.length - ps.length) .no, ?_, ?_⟩
    · unfold L2.start
      rw [lv]
      exact G.pad _
    · unfold fnOf at e
      rw [if_pos la] at e
      have st0 : L2.start N vs = vs.map some ++ List.replicate (N.length - ps.length) none := by
        unfold L2.start
        rw [lv]
      rw [st0]
      have unp : ∀ {σ' : St} {H' : Hp} {ρ' : Ev}, Stp K ps.length H (vs.map some ++ List.replicate (N.length - ps.length) none) (as ++ List.replicate (N.length - ps.length) .no) H' σ' ρ' → ps.length ≤ ρ'.length := fun {σ' H' ρ'} s => by
        rcases Nat.lt_or_ge ρ'.length ps.length with lt | ge
        · exfalso
          have l1 := s.good.len
          have := (s.par ρ'.length lt).1
          rw [List.getElem?_eq_none (by omega), List.getElem?_append_left (by rw [List.length_map, lv]; exact lt), List.getElem?_map, List.getElem?_eq_getElem (by omega)] at this
          cases this
        · exact ge
      show AftS K ps.length W0 { nx := fun _ H' => Q .non H', rt := Q } H (vs.map some ++ List.replicate (N.length - ps.length) none) (as ++ List.replicate (N.length - ps.length) .no) (b (as ++ List.replicate (N.length - ps.length) .no))
      generalize b (as ++ List.replicate (N.length - ps.length) .no) = z at e
      rw [lv] at q
      cases z with
      | no => cases e
      | ex c d ρ' => cases e
      | ok o ρ' =>
        have e : fin ps.length ρ' o = .ok s as' := e
        cases o with
        | bk => cases e
        | ct => cases e
        | nx =>
          cases e
          intro σ' H' s
          exact q _ _ (s.unpad G la (unp s)) (.dat .non)
        | rf o =>
          cases e
          intro p u σ' H' st np ep r no
          refine q _ _ (st.unpad G la (unp st)) (.own np ep r fun z => no ?_)
          obtain ⟨j, o1, ej, es⟩ := z
          obtain ⟨lj, ej⟩ := take_some ej
          exact ⟨j, o1, ej, by rw [(st.par j lj).1, List.getElem?_append_left (by rw [List.length_map, lv]; exact lj)]; exact es⟩
        | rt r =>
          intro v σ' H' st rv
          cases rv with
          | @d x im =>
            cases e
            exact q _ _ (st.unpad G la (unp st)) (.dat im)
          | @v i ei =>
            unfold fin at e
            dsimp only at e
            split at e
            · next le =>
              split at e
              · next o eo =>
                cases e
                obtain ⟨p, u, e1, e2, r⟩ := st.good.own i o eo
                rw [ei] at e1
                cases e1
                have su := st.unpad G la (unp st)
                refine q _ _ su (.own ?_ e2 r fun z => ?_)
                · rcases st.news p ⟨i, o, eo, ei⟩ with z | z
                  · exfalso
                    obtain ⟨j, o1, ej, es⟩ := z.pad G.len
                    have lj : j < ps.length := by
                      have := (List.getElem?_eq_some_iff.mp ej).1
                      omega
                    obtain ⟨o2, e2⟩ := (st.par j lj).2 o1 (by rw [List.getElem?_append_left (by omega)]; exact ej)
                    have e3 : σ'[j]? = some (some (.ref p)) := by rw [(st.par j lj).1, List.getElem?_append_left (by rw [List.length_map, lv]; exact lj)]; exact es
                    have := st.good.dif i j o o2 p eo e2 ei e3
                    omega
                  · exact z
                · obtain ⟨j, o1, ej, es⟩ := z
                  obtain ⟨lj, ej⟩ := take_some ej
                  have e3 : σ'[j]? = some (some (.ref p)) := by rw [(st.par j lj).1, List.getElem?_append_left (by rw [List.length_map, lv]; exact lj)]; exact es
                  have := st.good.dif i j o o1 p eo ej ei e3
                  omega
              · cases e
            · cases e
end
/-! ### calls -/
@[simp] def argS (ρ : Ev) : List R → Option (List Sl)
  | [] => some []
  | .d x :: rs => (argS ρ rs).map (.dat x :: ·)
  | .v i :: rs => match ρ[i]? with
    | some (.own o) => (argS ρ rs).map (.own o :: ·)
    | _ => none
@[simp] def vIdx : List R → List Nat
  | [] => []
  | .d _ :: rs => vIdx rs
  | .v i :: rs => i :: vIdx rs
@[simp] def backE (ρ : Ev) : List R → List Sl → Ev
  | .d _ :: rs, _ :: ss => backE ρ rs ss
  | .v i :: rs, s :: ss => (backE ρ rs ss).set i s
  | _, _ => ρ
theorem backE_len (ρ : Ev) : ∀ (rs : List R) (ss : List Sl), (backE ρ rs ss).length = ρ.length
  | [], _ => rfl
  | .d _ :: _, [] => rfl
  | .v _ :: _, [] => rfl
  | .d _ :: rs, _ :: ss => backE_len ρ rs ss
  | .v i :: rs, s :: ss => by
    show ((backE ρ rs ss).set i s).length = _
    rw [List.length_set, backE_len ρ rs ss]
theorem backE_out (ρ : Ev) : ∀ (rs : List R) (ss : List Sl) {i : Nat}, i ∉ vIdx rs → (backE ρ rs ss)[i]? = ρ[i]?
  | [], _, _, _ => rfl
  | .d _ :: _, [], _, _ => rfl
  | .v _ :: _, [], _, _ => rfl
  | .d _ :: rs, _ :: ss, _, h => backE_out ρ rs ss h
  | .v j :: rs, s :: ss, i, h => by
    show ((backE ρ rs ss).set j s)[i]? = _
    rw [set_ne fun z => h (by rw [z]; exact List.mem_cons_self)]
    exact backE_out ρ rs ss fun z => h (List.mem_cons_of_mem _ z)
theorem backE_in (ρ : Ev) : ∀ (rs : List R) (ss : List Sl) {i : Nat}, (vIdx rs).Nodup → i ∈ vIdx rs → i < ρ.length → rs.length = ss.length → ∃ (k : Nat) (s : Sl), rs[k]? = some (.v i) ∧ ss[k]? = some s ∧ (backE ρ rs ss)[i]? = some s
  | .d _ :: rs, _ :: ss, i, nd, h, lt, l => by
    obtain ⟨k, s, e1, e2, e3⟩ := backE_in ρ rs ss nd h lt (Nat.succ.inj l)
    exact ⟨k + 1, s, e1, e2, e3⟩
  | .v j :: rs, s :: ss, i, nd, h, lt, l => by
    have nd : (j :: vIdx rs).Nodup := nd
    obtain ⟨nj, nd⟩ := List.nodup_cons.mp nd
    by_cases e : j = i
    · subst e
      exact ⟨0, s, rfl, rfl, set_at (by rw [backE_len]; exact lt)⟩
    · have h : i ∈ j :: vIdx rs := h
      rcases List.mem_cons.mp h with z | z
      · exact absurd z.symm e
      · obtain ⟨k, t, e1, e2, e3⟩ := backE_in ρ rs ss nd z lt (Nat.succ.inj l)
        refine ⟨k + 1, t, e1, e2, ?_⟩
        show ((backE ρ rs ss).set j s)[i]? = _
        rw [set_ne e]
        exact e3
theorem argS_len (ρ : Ev) : ∀ {rs : List R} {as : List Sl}, argS ρ rs = some as → rs.length = as.length
  | [], as, h => by
    cases h
    rfl
  | .d x :: rs, as, h => by
    have h : (argS ρ rs).map (.dat x :: ·) = some as := h
    cases e : argS ρ rs with
    | none =>
      rw [e] at h
      cases h
    | some bs =>
      rw [e] at h
      cases h
      rw [List.length_cons, List.length_cons, argS_len ρ e]
  | .v i :: rs, as, h => by
    unfold argS at h
    split at h
    · cases e : argS ρ rs with
      | none =>
        rw [e] at h
        cases h
      | some bs =>
        rw [e] at h
        cases h
        rw [List.length_cons, List.length_cons, argS_len ρ e]
    · cases h
theorem argS_at (ρ : Ev) : ∀ {rs : List R} {as : List Sl} {k : Nat} {s : Sl}, argS ρ rs = some as → as[k]? = some s → (∃ x, rs[k]? = some (.d x) ∧ s = .dat x) ∨ ∃ i o, rs[k]? = some (.v i) ∧ ρ[i]? = some (.own o) ∧ s = .own o
  | [], as, k, s, h, e => by
    cases h
    cases e
  | .d x :: rs, as, k, s, h, e => by
    have h : (argS ρ rs).map (.dat x :: ·) = some as := h
    cases e1 : argS ρ rs with
    | none =>
      rw [e1] at h
      cases h
    | some bs =>
      rw [e1] at h
      cases h
      cases k with
      | zero =>
        cases e
        exact .inl ⟨x, rfl, rfl⟩
      | succ k => exact argS_at ρ (k := k) e1 e
  | .v i :: rs, as, k, s, h, e => by
    unfold argS at h
    split at h
    · next o eo =>
      cases e1 : argS ρ rs with
      | none =>
        rw [e1] at h
        cases h
      | some bs =>
        rw [e1] at h
        cases h
        cases k with
        | zero =>
          cases e
          exact .inr ⟨i, o, rfl, eo, rfl⟩
        | succ k => exact argS_at ρ (k := k) e1 e
    · cases h
theorem vIdx_mem : ∀ {rs : List R} {k i : Nat}, rs[k]? = some (.v i) → i ∈ vIdx rs
  | .d x :: rs, 0, i, h => by cases h
  | .d x :: rs, k + 1, i, h => vIdx_mem (rs := rs) (k := k) h
  | .v j :: rs, 0, i, h => by
    cases h
    exact List.mem_cons_self
  | .v j :: rs, k + 1, i, h => List.mem_cons_of_mem _ (vIdx_mem (rs := rs) (k := k) h)
theorem vIdx_uniq : ∀ {rs : List R} {k l i : Nat}, (vIdx rs).Nodup → rs[k]? = some (.v i) → rs[l]? = some (.v i) → k = l
  | .d x :: rs, 0, _, i, _, h, _ => by cases h
  | .d x :: rs, _ + 1, 0, i, _, _, h => by cases h
  | .d x :: rs, k + 1, l + 1, i, nd, h, h' => by rw [vIdx_uniq (rs := rs) (k := k) (l := l) nd h h']
  | .v j :: rs, 0, 0, i, _, _, _ => rfl
  | .v j :: rs, 0, l + 1, i, nd, h, h' => by
    cases h
    exact absurd (vIdx_mem (rs := rs) (k := l) h') (List.nodup_cons.mp (show (j :: vIdx rs).Nodup from nd)).1
  | .v j :: rs, k + 1, 0, i, nd, h, h' => by
    cases h'
    exact absurd (vIdx_mem (rs := rs) (k := k) h) (List.nodup_cons.mp (show (j :: vIdx rs).Nodup from nd)).1
  | .v j :: rs, k + 1, l + 1, i, nd, h, h' => by rw [vIdx_uniq (rs := rs) (k := k) (l := l) (List.nodup_cons.mp (show (j :: vIdx rs).Nodup from nd)).2 h h']
theorem RRs.at {K : PySem.W.Frag} {H : Hp} {σ : St} : ∀ {vs : List V} {rs : List R} {k : Nat} {r : R}, RRs K H σ vs rs → rs[k]? = some r → ∃ v, vs[k]? = some v ∧ RR K H σ v r
  | _, _, 0, _, .cons h _, e => by
    cases e
    exact ⟨_, rfl, h⟩
  | _, _, k + 1, _, .cons _ r, e => RRs.at (k := k) r e
section
variable {K : PySem.W.Frag} {n : Nat} {H H' : Hp} {σ : St} {ρ : Ev} {vs : List V} {rs : List R} {as as' : List Sl}
theorem args_good (G : Good K H σ ρ) (rv : RRs K H σ vs rs) (ea : argS ρ rs = some as) (nd : (vIdx rs).Nodup) : Good K H (vs.map some) as := by
  have la := argS_len ρ ea
  refine ⟨by rw [List.length_map, rv.len, la], fun k d h => ?_, fun k o h => ?_, fun k l o o' p h1 h2 h3 h4 => ?_, G.tab, fun k c f d h => ?_⟩
  · rcases argS_at ρ ea h with ⟨x, e, z⟩ | ⟨i, o, e, _, z⟩
    · cases z
      obtain ⟨v, ev, r⟩ := rv.at e
      cases r with
      | d im => exact ⟨v, by rw [List.getElem?_map, ev]; rfl, im⟩
    · cases z
  · rcases argS_at ρ ea h with ⟨x, e, z⟩ | ⟨i, o1, e, eo, z⟩
    · cases z
    · cases z
      obtain ⟨v, ev, r⟩ := rv.at e
      cases r with
      | v ei =>
        obtain ⟨p, u, e1, e2, r⟩ := G.own i o eo
        rw [ei] at e1
        cases e1
        exact ⟨p, u, by rw [List.getElem?_map, ev]; rfl, e2, r⟩
  · rcases argS_at ρ ea h1 with ⟨x, e, z⟩ | ⟨i, o1, e, eo, z⟩
    · cases z
    · rcases argS_at ρ ea h2 with ⟨x, e', z'⟩ | ⟨j, o2, e', eo', z'⟩
      · cases z'
      · obtain ⟨v, ev, r⟩ := rv.at e
        obtain ⟨u, eu, r'⟩ := rv.at e'
        rw [List.getElem?_map, ev] at h3
        rw [List.getElem?_map, eu] at h4
        cases h3
        cases h4
        cases r with
        | v ei => cases r' with
          | v ej =>
            have := G.dif i j o1 o2 p eo eo' ei ej
            subst this
            exact vIdx_uniq nd e e'
  · rcases argS_at ρ ea h with ⟨x, e, z⟩ | ⟨i, o1, e, eo, z⟩
    · cases z
    · cases z
theorem args_own (rv : RRs K H σ vs rs) (ea : argS ρ rs = some as) {p : Addr} (h : Own (vs.map some) as p) : ∃ (i : Nat) (o : Ob) (k : Nat), rs[k]? = some (.v i) ∧ ρ[i]? = some (.own o) ∧ σ[i]? = some (some (.ref p)) := by
  obtain ⟨k, o, e1, e2⟩ := h
  rcases argS_at ρ ea e1 with ⟨x, e, z⟩ | ⟨i, o1, e, eo, z⟩
  · cases z
  · obtain ⟨v, ev, r⟩ := rv.at e
    rw [List.getElem?_map, ev] at e2
    cases e2
    cases r with
    | v ei => exact ⟨i, o1, k, e, eo, ei⟩
/-- behind a call -/
theorem call_stp (G : Good K H σ ρ) (rv : RRs K H σ vs rs) (ea : argS ρ rs = some as) (nd : (vIdx rs).Nodup) (s : Stp K vs.length H (vs.map some) as H' (vs.map some) as') : Stp K n H σ ρ H' σ (backE ρ rs as') ∧ ∀ p, Own σ (backE ρ rs as') p → Own σ ρ p := by
  have la := argS_len ρ ea
  have lv := rv.len
  have la' : rs.length = as'.length := by
    have := s.good.len
    rw [List.length_map] at this
    omega
  have g := s.grow (args_good G rv ea nd)
  -- a slot that was handed in
  have hand : ∀ {i : Nat}, i ∈ vIdx rs → i < ρ.length → ∃ (o : Ob) (o' : Ob) (p : Addr) (u : HO), ρ[i]? = some (.own o) ∧ (backE ρ rs as')[i]? = some (.own o') ∧ σ[i]? = some (some (.ref p)) ∧ H' p = some u ∧ ObR K H' u o' := fun {i} hi lt => by
    obtain ⟨k, t, e1, e2, e3⟩ := backE_in ρ rs as' nd hi lt la'
    have lk : k < rs.length := (List.getElem?_eq_some_iff.mp e1).1
    obtain ⟨t0, et0⟩ : ∃ t0, as[k]? = some t0 := ⟨_, List.getElem?_eq_getElem (by omega)⟩
    rcases argS_at ρ ea et0 with ⟨x, e, z⟩ | ⟨j, o1, e, eo, z⟩
    · rw [e1] at e
      cases e
    · rw [e1] at e
      cases e
      subst z
      obtain ⟨o', eo'⟩ := (s.par k (by omega)).2 o1 et0
      rw [e2] at eo'
      cases eo'
      obtain ⟨v, ev, r⟩ := rv.at e1
      cases r with
      | v ei =>
        obtain ⟨p, u, f1, f2, f3⟩ := s.good.own k o' e2
        rw [List.getElem?_map, ev] at f1
        cases f1
        exact ⟨o1, o', p, u, eo, e3, ei, f2, f3⟩
  have own : ∀ {i : Nat} {o : Ob}, (backE ρ rs as')[i]? = some (.own o) → ∃ o', ρ[i]? = some (.own o') := fun {i o} h => by
    have lt : i < ρ.length := by
      have := (List.getElem?_eq_some_iff.mp h).1
      rw [backE_len] at this
      exact this
    by_cases hi : i ∈ vIdx rs
    · obtain ⟨o1, _, _, _, e, _⟩ := hand hi lt
      exact ⟨o1, e⟩
    · rw [backE_out ρ rs as' hi] at h
      exact ⟨o, h⟩
  have ow : ∀ {p : Addr}, Own (vs.map some) as p → Own σ ρ p := fun {p} h => by
    obtain ⟨i, o, k, _, e1, e2⟩ := args_own rv ea h
    exact ⟨i, o, e1, e2⟩
  refine ⟨⟨⟨by rw [backE_len, G.len], fun i d h => ?_, fun i o h => ?_, fun i j o o' p h1 h2 h3 h4 => ?_, s.good.tab, fun i c f d h => ?_⟩, fun i hi => ⟨rfl, fun o h => ?_⟩, fun b o e nb => s.kept b o e fun z => nb (ow z), fun p h => ?_, s.live⟩, fun p h => ?_⟩
  · have lt : i < ρ.length := by
      have := (List.getElem?_eq_some_iff.mp h).1
      rw [backE_len] at this
      exact this
    by_cases hi : i ∈ vIdx rs
    · obtain ⟨_, _, _, _, _, e, _⟩ := hand hi lt
      rw [h] at e
      cases e
    · rw [backE_out ρ rs as' hi] at h
      obtain ⟨v, e, im⟩ := G.dat i d h
      exact ⟨v, e, im.grow g⟩
  · have lt : i < ρ.length := by
      have := (List.getElem?_eq_some_iff.mp h).1
      rw [backE_len] at this
      exact this
    by_cases hi : i ∈ vIdx rs
    · obtain ⟨_, o', p, u, _, e, e2, e3, e4⟩ := hand hi lt
      rw [h] at e
      cases e
      exact ⟨p, u, e2, e3, e4⟩
    · rw [backE_out ρ rs as' hi] at h
      obtain ⟨p, u, e1, e2, r⟩ := G.own i o h
      refine ⟨p, u, e1, s.kept p u e2 (fun z => hi ?_) (fun ps z => r.no_tbl z), r.grow g⟩
      obtain ⟨j, o1, k, ek, f1, f2⟩ := args_own rv ea z
      have := G.dif i j o o1 p h f1 e1 f2
      subst this
      exact vIdx_mem ek
  · obtain ⟨a, ha⟩ := own h1
    obtain ⟨b, hb⟩ := own h2
    exact G.dif i j a b p ha hb h3 h4
  · have lt : i < ρ.length := by
      have := (List.getElem?_eq_some_iff.mp h).1
      rw [backE_len] at this
      exact this
    by_cases hi : i ∈ vIdx rs
    · obtain ⟨_, _, _, _, _, e, _⟩ := hand hi lt
      rw [h] at e
      cases e
    · rw [backE_out ρ rs as' hi] at h
      exact (G.exc i c f d h).elim fun a q => ⟨a, q.1, q.2.grow g⟩
  · have lt : i < ρ.length := (List.getElem?_eq_some_iff.mp h).1
    by_cases hv : i ∈ vIdx rs
    · obtain ⟨_, o', _, _, _, e, _⟩ := hand hv lt
      exact ⟨o', e⟩
    · exact ⟨o, by rw [backE_out ρ rs as' hv]; exact h⟩
  · obtain ⟨i, o, e1, e2⟩ := h
    obtain ⟨o', e⟩ := own e1
    exact .inl ⟨i, o', e, e2⟩
  · obtain ⟨i, o, e1, e2⟩ := h
    obtain ⟨o', e⟩ := own e1
    exact ⟨i, o', e, e2⟩
end
@[simp] def nodupB : List Nat → Bool
  | [] => true
  | i :: is => !is.contains i && nodupB is
theorem nodupB_iff : ∀ {is : List Nat}, nodupB is = true → is.Nodup
  | [], _ => List.nodup_nil
  | i :: is, h => by
    have h : (!is.contains i && nodupB is) = true := h
    rw [Bool.and_eq_true, Bool.not_eq_true'] at h
    refine List.nodup_cons.mpr ⟨fun z => ?_, nodupB_iff h.2⟩
    rw [List.contains_iff_mem.mpr z] at h
    exact absurd h.1 (by decide)
@[simp] def applyF (F : Fn) (rs : List R) (ρ : Ev) : Rt Sl := match argS ρ rs with
  | none => .no
  | some as => if nodupB (vIdx rs) = true then (F as).bnd fun s as' => .ok s (backE ρ rs as') else .no
@[simp] def eCall (F : Fn) (m : Mo (List R)) : Mo R := fun ρ => (m ρ).bind fun rs ρ1 => (applyF F rs ρ1).bnd fun s ρ2 => match s with
  | .dat x => .ok (.d x) ρ2
  | _ => .no
@[simp] def fCall (F : Fn) (m : Mo (List R)) : Mo Ob := fun ρ => (m ρ).bind fun rs ρ1 => (applyF F rs ρ1).bnd fun s ρ2 => match s with
  | .own o => .ok o ρ2
  | _ => .no
section
variable {X : Cx} {n : Nat} {W : XW} {k : Nat} {f : Addr} {fd : FuncData} {ps : List Str} {x : Str} {p pos : Pos} {e : Expr} {es : List Expr} {m : Mo (List R)} {F : Fn}
theorem apply_ok {rs : List R} {ρ ρ2 : Ev} {s : Sl} (h : applyF F rs ρ = .ok s ρ2) : ∃ as as', argS ρ rs = some as ∧ (vIdx rs).Nodup ∧ F as = .ok s as' ∧ ρ2 = backE ρ rs as' := by
  unfold applyF at h
  cases e : argS ρ rs with
  | none =>
    rw [e] at h
    cases h
  | some as =>
    rw [e] at h
    have h : (if nodupB (vIdx rs) = true then (F as).bnd fun s as' => .ok s (backE ρ rs as') else .no) = Rt.ok s ρ2 := h
    split at h
    · next nd =>
      cases ef : F as with
      | no =>
        rw [ef] at h
        cases h
      | ex c d q =>
        rw [ef] at h
        cases h
      | ok t q =>
        rw [ef] at h
        cases h
        exact ⟨as, q, rfl, nodupB_iff nd, ef, rfl⟩
    · cases h
theorem xd_call (G : FnG X.prog X.w X.K X.mg X.base k f fd ps (spD X.K F)) (g : X.A.guards = some []) (room : Room k X.A) (hg : Gl X x) (hm : X.mg x = some (.ref f)) (hk : PySem.W.keepIn X.K (.ref f) = true) (hb : Binds X.K fd ps [])
    (ha : XA X n W (e :: es) m) (hdb : (x == ("__debug__" : Str)) = false := by decide) (he : starEach (e :: es) X.env = (false, eval e X.env) :: starEach es X.env := by rfl) (hpl : (backTo pos (starEach es X.env)).any (·.1) = false := by rfl) :
    XD X n W (.Call (.Name x p) (e :: es) [] pos) (eCall F m) := weakE (pe_callG G g room hg hm hk hb ha hdb he hpl) fun σ H Q ⟨ρ, Gd, h⟩ => by
  refine ⟨ρ, Gd, (Aft.bind h).mono fun rs ρ1 H1 s1 h1 vs rvs => ?_⟩
  cases ea : applyF F rs ρ1 with
  | no =>
    rw [ea] at h1
    exact h1.elim
  | ex c d q =>
    rw [ea] at h1
    exact h1.elim
  | ok s ρ2 =>
    rw [ea] at h1
    obtain ⟨as, as', eb, nd, ef, rfl⟩ := apply_ok ea
    cases s with
    | no => exact h1.elim
    | exc _ _ _ => exact h1.elim
    | own o => exact h1.elim
    | dat d =>
      rw [List.append_nil]
      refine ⟨as, _, as', args_good s1.good rvs eb nd, ef, fun v H' st sr => ?_⟩
      cases sr with
      | dat im => exact h1 H' (call_stp s1.good rvs eb nd st).1 v (.d im)
theorem xf_call (G : FnG X.prog X.w X.K X.mg X.base k f fd ps (spD X.K F)) (g : X.A.guards = some []) (room : Room k X.A) (hg : Gl X x) (hm : X.mg x = some (.ref f)) (hk : PySem.W.keepIn X.K (.ref f) = true) (hb : Binds X.K fd ps [])
    (ha : XA X n W (e :: es) m) (hdb : (x == ("__debug__" : Str)) = false := by decide) (he : starEach (e :: es) X.env = (false, eval e X.env) :: starEach es X.env := by rfl) (hpl : (backTo pos (starEach es X.env)).any (·.1) = false := by rfl) :
    XF X n W (.Call (.Name x p) (e :: es) [] pos) (fCall F m) := weakE (pe_callG G g room hg hm hk hb ha hdb he hpl) fun σ H Q ⟨ρ, Gd, h⟩ => by
  refine ⟨ρ, Gd, (Aft.bind h).mono fun rs ρ1 H1 s1 h1 vs rvs => ?_⟩
  cases ea : applyF F rs ρ1 with
  | no =>
    rw [ea] at h1
    exact h1.elim
  | ex c d q =>
    rw [ea] at h1
    exact h1.elim
  | ok s ρ2 =>
    rw [ea] at h1
    obtain ⟨as, as', eb, nd, ef, rfl⟩ := apply_ok ea
    cases s with
    | no => exact h1.elim
    | exc _ _ _ => exact h1.elim
    | dat o => exact h1.elim
    | own o =>
      rw [List.append_nil]
      refine ⟨as, _, as', args_good s1.good rvs eb nd, ef, fun v H' st sr => ?_⟩
      cases sr with
      | own np ep r no =>
        obtain ⟨st2, bk⟩ := call_stp (n := n) s1.good rvs eb nd st
        exact h1 H' st2 _ _ (s1.live _ np) ep r fun z => new_own s1.good np (bk _ z)
end
end Q
namespace Q
open PySem PySem.Spec PyProof.Rows L2 Gd
variable [Tbl]
/-! ### operations on data -/
def rQ2 (K : PySem.W.Frag) (F : D → D → Option D) : R2 := fun x y H Q => ∃ a b d, Vw K H x a ∧ Vw K H y b ∧ F a b = some d ∧ ∀ v H', Same H H' → Im K H' v d → Q v H'
def rQ1 (K : PySem.W.Frag) (F : D → Option D) : V → Hp → VK → Prop := fun x H Q => ∃ a d, Vw K H x a ∧ F a = some d ∧ ∀ v H', Same H H' → Im K H' v d → Q v H'
def rQN (K : PySem.W.Frag) (F : List D → Option D) : List V → Hp → VK → Prop := fun xs H Q => ∃ as d, VwL K H xs as ∧ F as = some d ∧ ∀ v H', Same H H' → Im K H' v d → Q v H'
theorem q2 {K : PySem.W.Frag} {F : D → D → Option D} : Op2 K (rQ2 K F) F := fun x y a b d H Q hx hy e q => ⟨a, b, d, hx, hy, e, q⟩
theorem q1 {K : PySem.W.Frag} {F : D → Option D} : Op1 K (rQ1 K F) F := fun x a d H Q hx e q => ⟨a, d, hx, e, q⟩
theorem qN {K : PySem.W.Frag} {F : List D → Option D} : OpN K (rQN K F) F := fun xs as d H Q hx e q => ⟨as, d, hx, e, q⟩
theorem VwL.one {K : PySem.W.Frag} {H : Hp} {xs : List V} {a : D} (h : VwL K H xs [a]) : ∃ x, xs = [x] ∧ Vw K H x a := by
  cases h with
  | cons h r => cases r; exact ⟨_, rfl, h⟩
theorem VwL.two {K : PySem.W.Frag} {H : Hp} {xs : List V} {a b : D} (h : VwL K H xs [a, b]) : ∃ x y, xs = [x, y] ∧ Vw K H x a ∧ Vw K H y b := by
  cases h with
  | cons h r => cases r with
    | cons h2 r => cases r; exact ⟨_, _, rfl, h, h2⟩
section
variable {X : Cx}
/-- t + u: one of them where the other is empty, else a new one -/
def rCatN (K : PySem.W.Frag) : R2 := fun x y H Q => ∃ a b xs ys, x = .ref a ∧ y = .ref b ∧ SqT K H a xs ∧ SqT K H b ys ∧ xs.length + ys.length ≤ sizeLine ∧ (xs = [] → Q (.ref b) H) ∧ (ys = [] → Q (.ref a) H) ∧ ∀ p o, H p = none → o.dict = none → Q (.ref p) (upd H p (.frz o (.tup (xs ++ ys))))
theorem op_catN : OpR X (binaryOp .Add) (rCatN X.K) := by
  rintro pins s σ H x y v u Q I rx ry ⟨a, b, xs, ys, rfl, rfl, ha, hb, hz, q0, q1, q2⟩
  cases rx
  cases ry
  obtain ⟨its, r1, p1, _⟩ := I.tuple ha
  obtain ⟨its2, r2, p2, _⟩ := I.tuple hb
  by_cases hx : xs = []
  · subst hx
    cases r1
    exact cat_tup0 p1 p2 ⟨.ref b, H, I, rfl, q0 rfl⟩
  · have l12 : (its ++ its2).length ≤ sizeLine := by rw [List.length_append, ← r1.length, ← r2.length]; exact hz
    refine HT.cat_tup p1 p2 (fun z => hx (r1.nil_iff.mp z)) (fun z => ⟨.ref a, H, I, rfl, q1 (r2.nil_iff.mp z)⟩) (fun z => ?_) (by rw [← r1.length, ← r2.length]; exact hz)
    exact new_tup I (by rw [List.length_append]; exact hz) (r1.append r2) q2
@[simp] def addD : D → D → Option D
  | .int i, .int j => some (.int (i + j))
  | .str a, .str b => if a.length + b.length ≤ sizeLine then some (.str (a ++ b)) else none
  | .tuple a, .tuple b => if a.length + b.length ≤ sizeLine then some (.tuple (a ++ b)) else none
  | _, _ => none
theorem o_add : OpR X (binaryOp .Add) (rQ2 X.K addD) := by
  rintro pins s σ H x y v u Q I rx ry ⟨a, b, d, ha, hb, e, q⟩
  cases a with
  | int i => cases b with
    | int j =>
      cases e
      exact op_add pins s σ H x y v u Q I rx ry ⟨i, j, ha.int, hb.int, q _ H (Same.refl H) (.int _)⟩
    | _ => cases e
  | str z => cases b with
    | str w =>
      have e : (if z.length + w.length ≤ sizeLine then some (PyData.str (z ++ w)) else none) = some d := e
      split at e
      · next le =>
        cases e
        exact op_add_str pins s σ H x y v u Q I rx ry ⟨z, w, ha.str, hb.str, le, q _ H (Same.refl H) (.str _)⟩
      · cases e
    | _ => cases e
  | tuple as => cases b with
    | tuple bs =>
      have e : (if as.length + bs.length ≤ sizeLine then some (PyData.tuple (as ++ bs)) else none) = some d := e
      split at e
      · next le =>
        cases e
        obtain ⟨p, xs, rfl, hp, ip⟩ := ha.tupleN
        obtain ⟨r, ys, rfl, hr, ir⟩ := hb.tupleN
        refine op_catN pins s σ H _ _ v u Q I rx ry ⟨p, r, xs, ys, rfl, rfl, hp.sq, hr.sq, by rw [ip.len, ir.len]; exact le, fun z => ?_, fun z => ?_, fun t o ht ho => q _ _ (same_upd ht) (.tup ⟨o, upd_same, ho⟩ ((ip.append ir).same (same_upd ht)))⟩
        · subst z
          cases ip
          exact q _ H (Same.refl H) (.tup hr ir)
        · subst z
          cases ir
          rw [List.append_nil] at q
          exact q _ H (Same.refl H) (.tup hp ip)
      · cases e
    | _ => cases e
  | _ => cases e
@[simp] def subD : D → D → Option D
  | .int i, .int j => some (.int (i - j))
  | _, _ => none
noncomputable def mid (i : Int) : Bool := cb (-(2 ^ 64) < i ∧ i < 2 ^ 64)
noncomputable def mulOk (i j : Int) : Bool := mid i || mid j || cb (i.natAbs.log2 + j.natAbs.log2 < 1000000)
noncomputable def mulD : D → D → Option D
  | .int i, .int j => if mulOk i j = true then some (.int (i * j)) else none
  | _, _ => none
theorem o_mul : OpR X (binaryOp .Mult) (rQ2 X.K mulD) := by
  rintro pins s σ H x y v u Q I rx ry ⟨a, b, d, ha, hb, e, q⟩
  cases a with
  | int i => cases b with
    | int j =>
      have e : (if mulOk i j = true then some (PyData.int (i * j)) else none) = some d := e
      split at e
      · next h =>
        cases e
        unfold mulOk at h
        rw [Bool.or_eq_true, Bool.or_eq_true] at h
        rcases h with (h | h) | h
        · exact op_mul pins s σ H x y v u Q I rx ry ⟨i, j, ha.int, hb.int, .inl (of_cb h), q _ H (Same.refl H) (.int _)⟩
        · exact op_mul pins s σ H x y v u Q I rx ry ⟨i, j, ha.int, hb.int, .inr (of_cb h), q _ H (Same.refl H) (.int _)⟩
        · exact op_mulW pins s σ H x y v u Q I rx ry ⟨i, j, ha.int, hb.int, (of_cb h : i.natAbs.log2 + j.natAbs.log2 < 1000000), q _ H (Same.refl H) (.int _)⟩
      · cases e
    | _ => cases e
  | _ => cases e
noncomputable def powD : D → D → Option D
  | .int i, .int j => if cb (0 ≤ j ∧ j ≤ 1000000 ∧ i.natAbs < 2 ^ 64) = true then some (.int (i ^ j.toNat)) else none
  | _, _ => none
theorem o_pow : OpR X (binaryOp .Pow) (rQ2 X.K powD) := by
  rintro pins s σ H x y v u Q I rx ry ⟨a, b, d, ha, hb, e, q⟩
  cases a with
  | int i => cases b with
    | int j =>
      have e : (if cb (0 ≤ j ∧ j ≤ 1000000 ∧ i.natAbs < 2 ^ 64) = true then some (PyData.int (i ^ j.toNat)) else none) = some d := e
      split at e
      · next h =>
        cases e
        exact op_pow pins s σ H x y v u Q I rx ry ⟨i, j, ha.int, hb.int, of_cb h, q _ H (Same.refl H) (.int _)⟩
      · cases e
    | _ => cases e
  | _ => cases e
noncomputable def fdivD : D → D → Option D
  | .int i, .int j => if cb (j ≠ 0 ∧ j.natAbs < 1073741824) = true then some (.int (i.fdiv j)) else none
  | _, _ => none
theorem o_fdiv : OpR X (binaryOp .FloorDiv) (rQ2 X.K fdivD) := by
  rintro pins s σ H x y v u Q I rx ry ⟨a, b, d, ha, hb, e, q⟩
  cases a with
  | int i => cases b with
    | int j =>
      have e : (if cb (j ≠ 0 ∧ j.natAbs < 1073741824) = true then some (PyData.int (i.fdiv j)) else none) = some d := e
      split at e
      · next h =>
        cases e
        exact op_fdivN pins s σ H x y v u Q I rx ry ⟨i, j, ha.int, hb.int, of_cb h, q _ H (Same.refl H) (.int _)⟩
      · cases e
    | _ => cases e
  | _ => cases e
def modD : D → D → Option D
  | .int i, .int j => if 0 < j then some (.int (i % j)) else none
  | _, _ => none
theorem o_mod : OpR X (binaryOp .Mod) (rQ2 X.K modD) := by
  rintro pins s σ H x y v u Q I rx ry ⟨a, b, d, ha, hb, e, q⟩
  cases a with
  | int i => cases b with
    | int j =>
      have e : (if 0 < j then some (PyData.int (i % j)) else none) = some d := e
      split at e
      · next h =>
        cases e
        exact op_mod pins s σ H x y v u Q I rx ry ⟨i, j, ha.int, hb.int, h, q _ H (Same.refl H) (.int _)⟩
      · cases e
    | _ => cases e
  | _ => cases e
@[simp] def negD : D → Option D
  | .int i => some (.int (-i))
  | _ => none
/-- an order of numbers, of texts -/
def ordD (f : Int → Int → Bool) (g : Str → Str → Bool) : D → D → Option D
  | .int i, .int j => some (.bool (f i j))
  | .str i, .str j => some (.bool (g i j))
  | _, _ => none
theorem o_ord {op : CmpOp} {f : Int → Int → Bool} {g : Str → Str → Bool} (h1 : OpR X (compareOp op) (rI0 fun i j => .bl (f i j))) (h2 : OpR X (compareOp op) fun x y H Q => ∃ i j, x = .str i ∧ y = .str j ∧ Q (.bl (g i j)) H) : OpR X (compareOp op) (rQ2 X.K (ordD f g)) := by
  rintro pins s σ H x y v u Q I rx ry ⟨a, b, d, ha, hb, e, q⟩
  cases a with
  | int i => cases b with
    | int j =>
      cases e
      exact h1 pins s σ H x y v u Q I rx ry ⟨i, j, ha.int, hb.int, q _ H (Same.refl H) (.bl _)⟩
    | _ => cases e
  | str i => cases b with
    | str j =>
      cases e
      exact h2 pins s σ H x y v u Q I rx ry ⟨i, j, ha.str, hb.str, q _ H (Same.refl H) (.bl _)⟩
    | _ => cases e
  | _ => cases e
def ltD := ordD (fun i j => decide (i < j)) fun i j => decide (i.cps.toList < j.cps.toList)
def leD := ordD (fun i j => decide (i ≤ j)) fun i j => !decide (j.cps.toList < i.cps.toList)
def gtD := ordD (fun i j => decide (j < i)) fun i j => decide (j.cps.toList < i.cps.toList)
def geD := ordD (fun i j => decide (j ≤ i)) fun i j => !decide (i.cps.toList < j.cps.toList)
theorem o_lt : OpR X (compareOp .Lt) (rQ2 X.K ltD) := o_ord op_lt op_lt_str
theorem o_le : OpR X (compareOp .LtE) (rQ2 X.K leD) := o_ord op_le op_le_str
theorem o_gt : OpR X (compareOp .Gt) (rQ2 X.K gtD) := o_ord op_gt op_gt_str
theorem o_ge : OpR X (compareOp .GtE) (rQ2 X.K geD) := o_ord op_ge op_ge_str
/-! ### equality -/
mutual
theorem Im.dp {K : PySem.W.Frag} {H : Hp} : ∀ {v : V} (d : D), Im K H v d → d.canLay0 = true → Dp K H v d
  | _, .none, .non, _ => .non
  | _, .bool b, .bl _, _ => .bl b
  | _, .int i, .int _, _ => .int i
  | _, .str x, .str _, _ => .str x
  | _, .tuple ds, .tup h r, c => .tup h.sq (ImL.dp ds r c)
  | _, .list ds, .lst h r, c => .lst h.sq (ImL.dp ds r c)
  | _, .dict ds, .dic h r, c => by cases c
  | _, .dict _, .scr h, c => by cases c
  | _, .dict _, .prm _ _ _, c => by cases c
theorem ImL.dp {K : PySem.W.Frag} {H : Hp} : ∀ {vs : List V} (ds : List D), ImL K H vs ds → PyData.canLayAll0 ds = true → DpAll K H vs ds
  | _, [], .nil, _ => .nil
  | _, d :: ds, .cons h r, c => by
    have c : (d.canLay0 && PyData.canLayAll0 ds) = true := c
    rw [Bool.and_eq_true] at c
    exact .cons (Im.dp d h c.1) (ImL.dp ds r c.2)
end
theorem Vw.dp {K : PySem.W.Frag} {H : Hp} {v : V} {d : D} (h : Vw K H v d) (c : d.canLay0 = true) : Dp K H v d := by
  cases h with
  | im h => exact Im.dp d h c
  | lst e r => exact .lst (.inl (.inl e)) (ImL.dp _ r c)
  | dic _ _ => cases c
def eqD (a b : D) : Option Bool := if SeqAt.shaped a = true ∧ SeqAt.shaped b = true then some (PyData.eqv a b) else none
def twoS : D → D → Option Bool
  | .str x, .str y => some (x == y)
  | _, _ => none
theorem twoS_some {a b : D} {r : Bool} (h : twoS a b = some r) : ∃ x y, a = .str x ∧ b = .str y ∧ r = (x == y) := by
  unfold twoS at h
  split at h
  · cases h
    exact ⟨_, _, rfl, rfl, rfl⟩
  · cases h
def eqF (a b : D) : Option D := ((eqD a b).or (twoS a b)).map .bool
def neF (a b : D) : Option D := ((eqD a b).or (twoS a b)).map fun r => .bool (!r)
theorem or_some {α : Type} {a b : Option α} {r : α} (h : a.or b = some r) : a = some r ∨ b = some r := by
  cases a with
  | none => exact .inr h
  | some x => exact .inl h
theorem eqD_some {a b : D} {r : Bool} (h : eqD a b = some r) : SeqAt.shaped a = true ∧ SeqAt.shaped b = true ∧ r = PyData.eqv a b := by
  unfold eqD at h
  split at h
  · next c =>
    cases h
    exact ⟨c.1, c.2, rfl⟩
  · cases h
theorem map_some {α β : Type} {f : α → β} {o : Option α} {b : β} (h : o.map f = some b) : ∃ a, o = some a ∧ b = f a := by
  cases o with
  | none => cases h
  | some a =>
    cases h
    exact ⟨a, rfl, rfl⟩
theorem o_eq (hu : X.A.units + 64 < cLine) : OpR X (compareOp .Eq) (rQ2 X.K eqF) := by
  rintro pins s σ H x y v u Q I rx ry ⟨a, b, d, ha, hb, e, q⟩
  obtain ⟨r, e2, rfl⟩ := map_some e
  rcases or_some e2 with e2 | e2
  · obtain ⟨sa, sb, rfl⟩ := eqD_some e2
    exact op_eqD hu pins s σ H x y v u Q I rx ry ⟨a, b, ha.dp (SeqAt.canLay_of_shaped sa), hb.dp (SeqAt.canLay_of_shaped sb), sa, sb, q _ H (Same.refl H) (.bl _)⟩
  · obtain ⟨c, d, rfl, rfl, rfl⟩ := twoS_some e2
    obtain rfl := ha.str
    obtain rfl := hb.str
    refine op_eq pins s σ H _ _ v u Q I rx ry ⟨rfl, ?_⟩
    rw [dec_str]
    exact q _ H (Same.refl H) (.bl _)
theorem o_ne (hu : X.A.units + 64 < cLine) : OpR X (compareOp .NotEq) (rQ2 X.K neF) := by
  rintro pins s σ H x y v u Q I rx ry ⟨a, b, d, ha, hb, e, q⟩
  obtain ⟨r, e2, rfl⟩ := map_some e
  rcases or_some e2 with e2 | e2
  · obtain ⟨sa, sb, rfl⟩ := eqD_some e2
    exact op_neD hu pins s σ H x y v u Q I rx ry ⟨a, b, ha.dp (SeqAt.canLay_of_shaped sa), hb.dp (SeqAt.canLay_of_shaped sb), sa, sb, q _ H (Same.refl H) (.bl _)⟩
  · obtain ⟨c, d, rfl, rfl, rfl⟩ := twoS_some e2
    obtain rfl := ha.str
    obtain rfl := hb.str
    refine op_ne pins s σ H _ _ v u Q I rx ry ⟨rfl, ?_⟩
    rw [dec_str]
    exact q _ H (Same.refl H) (.bl _)
/-! ### x in xs -/
@[simp] def itemsD : D → Option (List D)
  | .tuple ys => some ys
  | .list ys => some ys
  | _ => none
def inD (x y : D) : Option Bool := (itemsD y).bind fun ys => if SeqAt.shaped x = true ∧ PyData.canLayAll0 ys = true then some (ys.any fun z => PyData.eqv z x) else none
def inF (x y : D) : Option D := (inD x y).map .bool
def ninF (x y : D) : Option D := (inD x y).map fun r => .bool (!r)
theorem inD_some {x y : D} {r : Bool} (h : inD x y = some r) : ∃ ys, (y = .tuple ys ∨ y = .list ys) ∧ SeqAt.shaped x = true ∧ PyData.canLayAll0 ys = true ∧ r = ys.any fun z => PyData.eqv z x := by
  unfold inD at h
  cases y with
  | tuple ys =>
    have h : (if SeqAt.shaped x = true ∧ PyData.canLayAll0 ys = true then some (ys.any fun z => PyData.eqv z x) else none) = some r := h
    split at h
    · next c =>
      cases h
      exact ⟨ys, .inl rfl, c.1, c.2, rfl⟩
    · cases h
  | list ys =>
    have h : (if SeqAt.shaped x = true ∧ PyData.canLayAll0 ys = true then some (ys.any fun z => PyData.eqv z x) else none) = some r := h
    split at h
    · next c =>
      cases h
      exact ⟨ys, .inr rfl, c.1, c.2, rfl⟩
    · cases h
  | _ => cases h
theorem o_in (hu : X.A.units + 65 < cLine) : OpR X (compareOp .In) (rQ2 X.K inF) := by
  rintro pins s σ H x y v u Q I rx ry ⟨a, b, d, ha, hb, e, q⟩
  obtain ⟨r, e2, rfl⟩ := map_some e
  obtain ⟨ys, hy, sx, cy, rfl⟩ := inD_some e2
  obtain ⟨as, r1⟩ := Dp.reads I a x v (ha.dp (SeqAt.canLay_of_shaped sx)) rx
  rcases hy with rfl | rfl
  · obtain ⟨bs, r2⟩ := Dp.reads I _ y u (hb.dp cy) ry
    exact SeqAt.in_tuple_reads r2 r1 cy (SeqAt.canLay_of_shaped sx) (room_in_shaped sx hu) ⟨.bl _, H, I, rfl, q _ H (Same.refl H) (.bl _)⟩
  · obtain ⟨bs, r2⟩ := Dp.reads I _ y u (hb.dp cy) ry
    exact SeqAt.in_list_reads r2 r1 cy (SeqAt.canLay_of_shaped sx) (room_in_shaped sx hu) ⟨.bl _, H, I, rfl, q _ H (Same.refl H) (.bl _)⟩
theorem o_nin (hu : X.A.units + 65 < cLine) : OpR X (compareOp .NotIn) (rQ2 X.K ninF) := by
  rintro pins s σ H x y v u Q I rx ry ⟨a, b, d, ha, hb, e, q⟩
  obtain ⟨r, e2, rfl⟩ := map_some e
  obtain ⟨ys, hy, sx, cy, rfl⟩ := inD_some e2
  obtain ⟨as, r1⟩ := Dp.reads I a x v (ha.dp (SeqAt.canLay_of_shaped sx)) rx
  rcases hy with rfl | rfl
  · obtain ⟨bs, r2⟩ := Dp.reads I _ y u (hb.dp cy) ry
    exact SeqAt.notIn_tuple_reads r2 r1 cy (SeqAt.canLay_of_shaped sx) (room_in_shaped sx hu) ⟨.bl _, H, I, rfl, q _ H (Same.refl H) (.bl _)⟩
  · obtain ⟨bs, r2⟩ := Dp.reads I _ y u (hb.dp cy) ry
    exact SeqAt.notIn_list_reads r2 r1 cy (SeqAt.canLay_of_shaped sx) (room_in_shaped sx hu) ⟨.bl _, H, I, rfl, q _ H (Same.refl H) (.bl _)⟩
/-! ### is None, is True -/
@[simp] def noneB : D → Bool
  | .none => true
  | _ => false
@[simp] def isND : D → D → Option D
  | a, .none => some (.bool (noneB a))
  | _, _ => none
theorem vw_non {K : PySem.W.Frag} {H : Hp} {x : V} {a : D} (h : Vw K H x a) : decide (x = .non) = noneB a := by
  cases h with
  | im h => cases h <;> rfl
  | lst _ _ => rfl
  | dic _ _ => rfl
@[simp] def notND : D → D → Option D
  | a, .none => some (.bool (!noneB a))
  | _, _ => none
theorem o_notN : OpR X (compareOp .IsNot) (rQ2 X.K notND) := by
  rintro pins s σ H x y v u Q I rx ry ⟨a, b, d, ha, hb, e, q⟩
  cases b with
  | none =>
    cases e
    refine op_notN pins s σ H x y v u Q I rx ry ⟨hb.non, ?_⟩
    rw [vw_non ha]
    exact q _ H (Same.refl H) (.bl _)
  | _ => cases e
@[simp] def isBD : D → D → Option D
  | .bool a, .bool b => some (.bool (decide (a = b)))
  | _, _ => none
@[simp] def notBD : D → D → Option D
  | .bool a, .bool b => some (.bool (!decide (a = b)))
  | _, _ => none
/-! ### xs[i] -/
def ixD : D → D → Option D
  | .tuple ds, .int i => atI ds i
  | .list ds, .int i => atI ds i
  | .dict [(.none, .list ds)], .int i => atI ds i
  | .str z, .int i => if z.length ≤ sizeLine then (atI z.cps.toList i).map sign else none
  | _, _ => none
theorem atI_im {K : PySem.W.Frag} {H : Hp} {xs : List V} {ds : List D} {i : Int} {d : D} (r : ImL K H xs ds) (h : atI ds i = some d) : ∃ x, atI xs i = some x ∧ Im K H x d := by
  unfold atI at h ⊢
  rw [r.len]
  cases e : ixN ds.length i with
  | none =>
    rw [e] at h
    cases h
  | some j =>
    rw [e] at h
    exact r.at h
theorem kv_none {K : PySem.W.Frag} {H : Hp} {kvs : List (Key × V)} {d : D} (h : ImKV K H kvs [(.none, d)]) : False := by
  generalize e : [(PyData.none, d)] = z at h
  cases h with
  | nil => cases e
  | @cons k _ _ _ _ _ _ =>
    injection e with e1 e2
    injection e1 with e3 e4
    cases k <;> cases e3
theorem vw_scr {K : PySem.W.Frag} {H : Hp} {v : V} {d : D} (h : Vw K H v (.dict [(.none, d)])) : ∃ (a : Addr) (ns : List Int), v = .ref a ∧ d = .list (ns.map PyData.int) ∧ SqL K H a (ns.map V.int) := by
  cases h with
  | im h => cases h with
    | scr h => exact ⟨_, _, rfl, rfl, h.sq⟩
    | dic h r => exact (kv_none r).elim
  | dic h r => exact (kv_none r).elim
theorem ints_im {K : PySem.W.Frag} {H : Hp} : ∀ (ns : List Int), ImL K H (ns.map V.int) (ns.map PyData.int)
  | [] => .nil
  | i :: ns => .cons (.int i) (ints_im ns)
theorem i_ix : IxR X (rQ2 X.K ixD) := by
  rintro value slice pins s σ H x y v u Q I rx ry ⟨a, b, d, ha, hb, e, q⟩ hs
  have seq : ∀ {p : Addr} {xs : List V} {ds : List D} {i : Int}, x = .ref p → SqL X.K H p xs → ImL X.K H xs ds → y = .int i → atI ds i = some d → wpAny (model X.prog X.w) X.A (subscriptTail value slice v u) (EP X pins σ Q) X.xe s := fun {p xs ds i} ex hp ip ey e => by
    subst ex ey
    obtain ⟨z, ez, iz⟩ := atI_im ip e
    exact ix_list value slice pins s σ H _ _ v u Q I rx ry ⟨p, xs, i, z, rfl, rfl, hp, ez, q _ H (Same.refl H) iz⟩ hs
  unfold ixD at e
  split at e
  · obtain ⟨p, xs, rfl, hp, ip⟩ := ha.tuple
    obtain ⟨z, ez, iz⟩ := atI_im ip e
    exact ix_tup value slice pins s σ H _ y v u Q I rx ry ⟨p, xs, _, z, rfl, hb.int, hp, ez, q _ H (Same.refl H) iz⟩ hs
  · obtain ⟨p, xs, rfl, hp, ip⟩ := ha.list
    exact seq rfl hp ip hb.int e
  · obtain ⟨p, ns, rfl, ed, hp⟩ := vw_scr ha
    cases ed
    exact seq rfl hp (ints_im ns) hb.int e
  · split at e
    · next le =>
      obtain ⟨c, ec, rfl⟩ := map_some e
      exact ix_str value slice pins s σ H _ y v u Q I rx ry ⟨_, _, c, ha.str, hb.int, le, ec, q _ H (Same.refl H) (.str _)⟩ hs
    · cases e
  · cases e
theorem xd_ix {n : Nat} {W : XW} {a b : Expr} {pos : Pos} {f g : Mo R} (ha : XD X n W a f) (hb : XD X n W b g) (hs : PlainIx b) : XD X n W (.Subscript a b pos) (e2 ixD f g) := weakE (pe_ix i_ix ha hb hs) (op2_run q2)
end
end Q
namespace Q
open PySem PySem.Spec PyProof.Rows L2 Gd
variable [Tbl]
section
variable {X : Cx} {n : Nat} {W : XW}
/-! ### built-in calls -/
theorem xd_callB {id : String} {F : List D → Option D} {x : Str} {p pos : Pos} {e : Expr} {es : List Expr} {m : Mo (List R)} (hc : CallR X (.builtin id) (rQN X.K F)) (hg : Gl X x) (hm : X.mg x = none) (hv : bootBuiltins x = some (.builtin id)) (ha : XA X n W (e :: es) m) (hn : x ≠ "__name__" := by decide) (hdb : (x == ("__debug__" : Str)) = false := by decide)
    (he : starEach (e :: es) X.env = (false, eval e X.env) :: starEach es X.env := by rfl) (hpl : (backTo pos (starEach es X.env)).any (·.1) = false := by rfl) : XD X n W (.Call (.Name x p) (e :: es) [] pos) (eN F m) := weakE (pe_callB hc hg hm hv ha hn hdb he hpl) (opN_run qN)
theorem xd_callT {T : String} {F : List D → Option D} {x : Str} {p pos : Pos} {e : Expr} {es : List Expr} {m : Mo (List R)} (hc : CallR X (.type T) (rQN X.K F)) (hg : Gl X x) (hm : X.mg x = none) (hv : bootBuiltins x = some (.type T)) (ha : XA X n W (e :: es) m) (hn : x ≠ "__name__" := by decide) (hdb : (x == ("__debug__" : Str)) = false := by decide)
    (he : starEach (e :: es) X.env = (false, eval e X.env) :: starEach es X.env := by rfl) (hpl : (backTo pos (starEach es X.env)).any (·.1) = false := by rfl) : XD X n W (.Call (.Name x p) (e :: es) [] pos) (eN F m) := weakE (pe_callTy hc hg hm hv ha hn hdb he hpl) (opN_run qN)
@[simp] def lenD : List D → Option D
  | [.tuple ds] => some (.int ds.length)
  | [.list ds] => some (.int ds.length)
  | [.dict [(.none, .list ds)]] => some (.int ds.length)
  | [.str z] => if z.length ≤ sizeLine then some (.int z.length) else none
  | _ => none
theorem c_len : CallR X (.builtin "len") (rQN X.K lenD) := by
  rintro pins s σ H xs us Q I r ⟨as, d, hx, e, q⟩
  unfold lenD at e
  split at e
  · cases e
    obtain ⟨x, rfl, h⟩ := hx.one
    obtain ⟨p, ys, rfl, hp, ip⟩ := h.tuple
    refine call_len pins s σ H _ us Q I r ⟨_, _, rfl, .inr ⟨ys, hp, rfl⟩, ?_⟩
    rw [ip.len]
    exact q _ H (Same.refl H) (.int _)
  · cases e
    obtain ⟨x, rfl, h⟩ := hx.one
    obtain ⟨p, ys, rfl, hp, ip⟩ := h.list
    refine call_len pins s σ H _ us Q I r ⟨_, _, rfl, .inl ⟨ys, hp, rfl⟩, ?_⟩
    rw [ip.len]
    exact q _ H (Same.refl H) (.int _)
  · cases e
    obtain ⟨x, rfl, h⟩ := hx.one
    obtain ⟨p, ns, rfl, ed, hp⟩ := vw_scr h
    cases ed
    refine call_len pins s σ H _ us Q I r ⟨_, _, rfl, .inl ⟨_, hp, rfl⟩, ?_⟩
    rw [List.length_map]
    rw [List.length_map] at q
    exact q _ H (Same.refl H) (.int _)
  · split at e
    · next le =>
      cases e
      obtain ⟨x, rfl, h⟩ := hx.one
      cases h.str
      exact call_len pins s σ H _ us Q I r ⟨_, _, rfl, ⟨le, rfl⟩, q _ H (Same.refl H) (.int _)⟩
    · cases e
  · cases e
def boolsD : List D → Option (List Bool)
  | [] => some []
  | .bool b :: ds => (boolsD ds).map (b :: ·)
  | _ :: _ => none
theorem bools_im {K : PySem.W.Frag} {H : Hp} : ∀ {xs : List V} {ds : List D} {bs : List Bool}, ImL K H xs ds → boolsD ds = some bs → xs = bs.map V.bl
  | _, [], bs, .nil, e => by
    cases e
    rfl
  | _, .bool b :: ds, bs, .cons h r, e => by
    cases h
    obtain ⟨cs, e2, rfl⟩ := map_some (show (boolsD ds).map (b :: ·) = some bs from e)
    rw [List.map_cons, bools_im r e2]
  | _, .none :: _, _, .cons _ _, e => by cases e
  | _, .int _ :: _, _, .cons _ _, e => by cases e
  | _, .str _ :: _, _, .cons _ _, e => by cases e
  | _, .list _ :: _, _, .cons _ _, e => by cases e
  | _, .tuple _ :: _, _, .cons _ _, e => by cases e
  | _, .dict _ :: _, _, .cons _ _, e => by cases e
def allD : List D → Option D
  | [.list ds] => (boolsD ds).map fun bs => .bool (bs.all id)
  | _ => none
def anyD : List D → Option D
  | [.list ds] => (boolsD ds).map fun bs => .bool (bs.any id)
  | _ => none
theorem c_all (hc : X.calm = true) : CallR X (.builtin "all") (rQN X.K allD) := by
  rintro pins s σ H xs us Q I r ⟨as, d, hx, e, q⟩
  unfold allD at e
  split at e
  · next ds =>
    obtain ⟨bs, e2, rfl⟩ := map_some e
    obtain ⟨x, rfl, h⟩ := hx.one
    obtain ⟨p, ys, rfl, hp, ip⟩ := h.list
    rw [bools_im ip e2] at hp
    exact cr_all hc pins s σ H _ us Q I r ⟨p, bs, rfl, hp, q _ H (Same.refl H) (.bl _)⟩
  · cases e
@[simp] def tupleD : List D → Option D
  | [.list ds] => some (.tuple ds)
  | [.tuple ds] => some (.tuple ds)
  | _ => none
theorem c_tuple : CallR X (.type "tuple") (rQN X.K tupleD) := by
  rintro pins s σ H xs us Q I r ⟨as, d, hx, e, q⟩
  unfold tupleD at e
  split at e
  · cases e
    obtain ⟨x, rfl, h⟩ := hx.one
    obtain ⟨p, ys, rfl, hp, ip⟩ := h.list
    obtain ⟨u, rfl, rx⟩ := vals1 r
    cases rx
    obtain ⟨its, r', pl, hz⟩ := I.list hp
    have hlen := r'.length
    refine call_tuple_list pl.isList (fun h' kp => ?_) (by simp only [List.size_toArray] <;> omega)
    exact new_tup (I.kept (t' := s.toks) kp) hz r' fun l o hl ho => q _ _ (same_upd hl) (.tup ⟨o, upd_same, ho⟩ (ip.same (same_upd hl)))
  · cases e
    obtain ⟨x, rfl, h⟩ := hx.one
    obtain ⟨p, ys, rfl, hp, ip⟩ := h.tupleN
    exact call_tuple_of pins s σ H _ us Q I r ⟨p, ys, rfl, .inr ⟨hp.sq, q _ H (Same.refl H) (.tup hp ip)⟩⟩
  · cases e
@[simp] def absD : List D → Option D
  | [.int i] => some (.int (if i < 0 then -i else i))
  | _ => none
theorem c_abs : CallR X (.builtin "abs") (rQN X.K absD) := by
  rintro pins s σ H xs us Q I r ⟨as, d, hx, e, q⟩
  unfold absD at e
  split at e
  · cases e
    obtain ⟨x, rfl, h⟩ := hx.one
    cases h.int
    exact call_abs pins s σ H _ us Q I r ⟨_, rfl, q _ H (Same.refl H) (.int _)⟩
  · cases e
@[simp] def max2D : List D → Option D
  | [.int i, .int j] => some (.int (if j > i then j else i))
  | _ => none
@[simp] def min2D : List D → Option D
  | [.int i, .int j] => some (.int (if j < i then j else i))
  | _ => none
theorem c_max2 (hc : X.calm = true) : CallR X (.builtin "max") (rQN X.K max2D) := by
  rintro pins s σ H xs us Q I r ⟨as, d, hx, e, q⟩
  unfold max2D at e
  split at e
  · cases e
    obtain ⟨x, y, rfl, h, h2⟩ := hx.two
    cases h.int
    cases h2.int
    exact call_max2 hc pins s σ H _ us Q I r ⟨_, _, rfl, q _ H (Same.refl H) (.int _)⟩
  · cases e
theorem c_min2 (hc : X.calm = true) : CallR X (.builtin "min") (rQN X.K min2D) := by
  rintro pins s σ H xs us Q I r ⟨as, d, hx, e, q⟩
  unfold min2D at e
  split at e
  · cases e
    obtain ⟨x, y, rfl, h, h2⟩ := hx.two
    cases h.int
    cases h2.int
    exact call_min2 hc pins s σ H _ us Q I r ⟨_, _, rfl, q _ H (Same.refl H) (.int _)⟩
  · cases e
@[simp] def intD : List D → Option D
  | [.int i] => some (.int i)
  | [.bool k] => some (.int (if k then 1 else 0))
  | _ => none
theorem c_int : CallR X (.type "int") (rQN X.K intD) := by
  rintro pins s σ H xs us Q I r ⟨as, d, hx, e, q⟩
  unfold intD at e
  split at e
  · cases e
    obtain ⟨x, rfl, h⟩ := hx.one
    cases h.int
    exact call_int1 pins s σ H _ us Q I r (.inl ⟨_, rfl, q _ H (Same.refl H) (.int _)⟩)
  · cases e
    obtain ⟨x, rfl, h⟩ := hx.one
    cases h.bl
    exact call_int1 pins s σ H _ us Q I r (.inr ⟨_, rfl, q _ H (Same.refl H) (.int _)⟩)
  · cases e
/-! ### repr -/
def reprD : List D → Option D
  | [d] => if d.showable = true ∧ d.hasDict = false ∧ d.depth ≤ 60 ∧ d.shown.length ≤ sizeLine then some (.str d.shown) else none
  | _ => none
mutual
theorem Im.dp2 {K : PySem.W.Frag} {H : Hp} : ∀ {v : V} (d : D), Im K H v d → d.hasDict = false → Dp K H v d
  | _, .none, .non, _ => .non
  | _, .bool b, .bl _, _ => .bl b
  | _, .int i, .int _, _ => .int i
  | _, .str x, .str _, _ => .str x
  | _, .tuple ds, .tup h r, c => .tup h.sq (ImL.dp2 ds r c)
  | _, .list ds, .lst h r, c => .lst h.sq (ImL.dp2 ds r c)
  | _, .dict ds, .dic h r, c => by cases c
  | _, .dict _, .scr h, c => by cases c
  | _, .dict _, .prm _ _ _, c => by cases c
theorem ImL.dp2 {K : PySem.W.Frag} {H : Hp} : ∀ {vs : List V} (ds : List D), ImL K H vs ds → PyData.hasDictAll ds = false → DpAll K H vs ds
  | _, [], .nil, _ => .nil
  | _, d :: ds, .cons h r, c => by
    have c : (d.hasDict || PyData.hasDictAll ds) = false := c
    rw [Bool.or_eq_false_iff] at c
    exact .cons (Im.dp2 d h c.1) (ImL.dp2 ds r c.2)
end
theorem Vw.dp2 {K : PySem.W.Frag} {H : Hp} {v : V} {d : D} (h : Vw K H v d) (c : d.hasDict = false) : Dp K H v d := by
  cases h with
  | im h => exact Im.dp2 d h c
  | lst e r => exact .lst (.inl (.inl e)) (ImL.dp2 _ r c)
  | dic _ _ => cases c
theorem c_repr (g : X.A.guards = some []) (hu : X.A.units + 64 < cLine) : CallR X (.builtin "repr") (rQN X.K reprD) := by
  rintro pins s σ H xs us Q I r ⟨as, d, hx, e, q⟩
  unfold reprD at e
  split at e
  · next a =>
    split at e
    · next c =>
      cases e
      obtain ⟨x, rfl, h⟩ := hx.one
      exact call_show g hu pins s σ H _ us Q I r ⟨x, a, rfl, h.dp2 c.2.1, c.1, c.2.1, c.2.2.1, c.2.2.2, q _ H (Same.refl H) (.str _)⟩
    · cases e
  · cases e
/-! ### isinstance -/
def kind : D → String
  | .none => "NoneType"
  | .bool _ => "bool"
  | .int _ => "int"
  | .str _ => "str"
  | .list _ => "list"
  | .tuple _ => "tuple"
  | .dict [(.none, _)] => "list"
  | .dict ((.bool _, _) :: _) => "tuple"
  | .dict _ => "dict"
theorem vw_ty {K : PySem.W.Frag} {H : Hp} {x : V} {d : D} (h : Vw K H x d) : TyX K H x (.type (kind d)) := by
  have lst : ∀ {a : Addr} {xs : List V}, SqL K H a xs → TyX K H (.ref a) (.type "list") := fun h => by
    rcases h with (h | ⟨o, h⟩) | ⟨o, its, n, h, c, _⟩
    · exact .base (.lst h)
    · exact .base (.frz h)
    · exact .kList h c
  have tup : ∀ {a : Addr} {xs : List V}, SqT K H a xs → TyX K H (.ref a) (.type "tuple") := fun h => by
    rcases h with (h | ⟨o, h⟩) | ⟨o, its, n, h, c, _⟩
    · exact .base (.tup h)
    · exact .fTuple h
    · exact .kTuple h c
  cases h with
  | im h => cases h with
    | non => exact .base .non
    | bl b => exact .base (.bl b)
    | int i => exact .base (.int i)
    | str z => exact .base (.str z)
    | tup h _ => exact tup h.sq
    | prm h _ _ => exact tup h
    | lst h _ => exact lst h.sq
    | scr h => exact lst h.sq
    | @dic a o ks ds h r =>
      have e : kind (.dict ds) = "dict" := by
        cases r with
        | nil => rfl
        | @cons k _ _ _ _ _ r => cases k <;> rfl
      rw [e]
      exact .fDict h
  | lst h _ => exact .base (.lst h)
  | @dic p ks ds h r =>
    have e : kind (.dict ds) = "dict" := by
      cases r with
      | nil => rfl
      | @cons k _ _ _ _ _ r => cases k <;> rfl
    rw [e]
    exact .base (.dK h)
end
end Q
namespace Q
open PySem PySem.Spec PyProof.Rows L2 Gd
variable [Tbl]
theorem sz1000 {n : Nat} (h : n ≤ 1000) : n ≤ sizeLine := Nat.le_trans h (by decide)
/-! ### sorted(t), t a tuple of texts -/
section
variable {prog : Program} {w : World} {A : Around} {E : Value → Shared → Prop} {s : Shared}
end
def rSortT (K : PySem.W.Frag) : List V → Hp → VK → Prop := fun vs H Q => ∃ (a : Addr) (xs : List Str), vs = [V.ref a] ∧ SqT K H a (xs.map V.str) ∧ xs.length < 64 ∧ ∀ (ys : List Str) (p : Addr), ys.Perm xs → sortedS ys = true → H p = none → Q (.ref p) (upd H p (.lst (ys.map V.str)))
/-! ### what sorted rows are -/
def leS (x y : Str) : Prop := x.cps.toList ≤ y.cps.toList
instance (x y : Str) : Decidable (leS x y) := inferInstanceAs (Decidable (x.cps.toList ≤ y.cps.toList))
theorem leS_trans {x y z : Str} (a : leS x y) (b : leS y z) : leS x z := List.le_trans a b
theorem leS_total (x y : Str) : leS x y ∨ leS y x := List.le_total _ _
theorem leS_antisymm {x y : Str} (a : leS x y) (b : leS y x) : x = y := by
  have e : x.cps.toList = y.cps.toList := List.le_antisymm a b
  obtain ⟨xs⟩ := x
  obtain ⟨ys⟩ := y
  have e2 : xs = ys := Array.toList_inj.mp e
  rw [e2]
theorem rising_pw : ∀ (l : List Str) (p : Str), risingS p l = true → (p :: l).Pairwise leS
  | [], p, _ => List.pairwise_singleton _ _
  | x :: r, p, h => by
    have h : (!ltCps x.cps.toList p.cps.toList && risingS x r) = true := h
    rw [Bool.and_eq_true] at h
    have ih := rising_pw r x h.2
    have px : leS p x := by
      have z := h.1
      rw [ltCps_eq] at z
      simp only [Bool.not_eq_true', decide_eq_false_iff_not] at z
      exact z
    refine List.pairwise_cons.mpr ⟨fun y hy => ?_, ih⟩
    rcases List.mem_cons.mp hy with e | hy
    · rw [e]
      exact px
    · exact leS_trans px ((List.pairwise_cons.mp ih).1 y hy)
theorem sorted_pw {l : List Str} (h : sortedS l = true) : l.Pairwise leS := by
  cases l with
  | nil => exact List.Pairwise.nil
  | cons x r => exact rising_pw r x h
/-- the one sorted list -/
def srt (l : List Str) : List Str := l.mergeSort fun a b => decide (leS a b)
theorem srt_perm (l : List Str) : (srt l).Perm l := List.mergeSort_perm l _
theorem srt_pw (l : List Str) : (srt l).Pairwise leS := by
  have h := List.pairwise_mergeSort (le := fun a b => decide (leS a b)) (fun a b c h1 h2 => by
    simp only [decide_eq_true_eq] at h1 h2 ⊢
    exact leS_trans h1 h2) (fun a b => by
    simp only [Bool.or_eq_true, decide_eq_true_eq]
    exact leS_total a b) l
  exact h.imp fun h => of_decide_eq_true h
theorem pw_one {l m : List Str} (p : l.Perm m) (h : l.Pairwise leS) (h' : m.Pairwise leS) : l = m := List.Perm.eq_of_pairwise (fun a b _ _ x y => leS_antisymm x y) h h' p
theorem srt_one {l m : List Str} (p : l.Perm m) (h : sortedS l = true) : l = srt m := pw_one (p.trans (srt_perm m).symm) (sorted_pw h) (srt_pw m)
theorem srt_eq {l m : List Str} (p : l.Perm m) (h : l.Pairwise leS) : l = srt m := pw_one (p.trans (srt_perm m).symm) h (srt_pw m)
end Q
namespace Q
open PySem PySem.Spec PyProof.Rows L2 Gd
variable [Tbl]
section
variable {X : Cx} {n : Nat} {W : XW}
/-! ### isinstance(x, T) -/
def isiB (T k : String) : Bool := if T = "int" then k == "int" || k == "bool" else k == T
def isiD (T : String) (d : D) : Option D := some (.bool (isiB T (kind d)))
def kits : List String := ["bool", "int", "str", "tuple", "list", "dict"]
theorem kit_all (T : String) (h : T ∈ kits) (d : D) : kitB (kind d) T = some (isiB T (kind d)) := by
  have go : ∀ T ∈ kits, ∀ k ∈ ["NoneType", "bool", "int", "str", "list", "tuple", "dict"], kitB k T = some (isiB T k) := by decide +kernel
  refine go T h (kind d) ?_
  unfold kind
  split <;> simp
theorem xd_isi {T : String} {e : Expr} {p pos q : Pos} {f : Mo R} (hT : T ∈ kits) (hg : Gl X "isinstance") (hm : X.mg "isinstance" = none) (ht : PE X (.Name (Str.ofString T) q) (tC (.ty T))) (he : XD X n W e f)
    (h1 : starEach [e, .Name (Str.ofString T) q] X.env = (false, eval e X.env) :: starEach [.Name (Str.ofString T) q] X.env := by rfl) (h2 : (backTo pos (starEach [.Name (Str.ofString T) q] X.env)).any (·.1) = false := by rfl) (h3 : starEach [.Name (Str.ofString T) q] X.env = (false, eval (.Name (Str.ofString T) q) X.env) :: starEach [] X.env := by rfl) :
    XD X n W (.Call (.Name "isinstance" p) [e, .Name (Str.ofString T) q] [] pos) (e1 (isiD T) f) :=
  weakE (pe_callB call_isi hg hm (by decide +kernel) (pa_cons he (pa_cons ht pa_nil h3) h1) (by decide) (by decide) h1 h2) fun σ H Q h => op1_run (r := fun x H1 Q => rIsi X.K [x, .ty T] H1 Q) (fun x a d H Q hv hf q => by
    cases hf
    exact ⟨x, _, _, _, _, rfl, .ty T, vw_ty hv, kit_ty (kit_all T hT a), q _ H (Same.refl H) (.bl _)⟩) σ H Q h
/-! ### slices -/
def tP (K : PySem.W.Frag) (n : Nat) (W : XW) (m : Mo (Option Int)) : TO := fun σ H Q => ∃ ρ, Good K H σ ρ ∧ Aft K n W H σ ρ (m ρ) fun o _ H' => Q o H'
abbrev XP (X : Cx) (n : Nat) (W : XW) (e : Option Expr) (m : Mo (Option Int)) : Prop := PO X e (tP X.K n W m)
@[simp] def pNo : Mo (Option Int) := fun ρ => .ok none ρ
@[simp] def pSo (f : Mo R) : Mo (Option Int) := fun ρ => (f ρ).bind fun r ρ1 => match look ρ1 r with
  | some (.int i) => .ok (some i) ρ1
  | _ => .no
theorem weakO {e : Option Expr} {t t' : TO} (h : PO X e t) (q : ∀ σ H Q, t' σ H Q → t σ H Q) : PO X e t' := ⟨fun pins s σ H Q I z => h.run pins s σ H Q I (q σ H Q z)⟩
theorem xp_no : XP X n W none pNo := weakO po_none fun σ H Q ⟨ρ, G, h⟩ => Aft.ok G h
theorem xp_so {e : Expr} {f : Mo R} (he : XD X n W e f) : XP X n W (some e) (pSo f) := weakO (po_some he) fun σ H Q ⟨ρ, G, h⟩ => by
  refine ⟨ρ, G, (Aft.bind h).mono fun r ρ1 H1 s1 h1 v rv => ?_⟩
  split at h1
  · next i e => exact ⟨i, (rv.see s1.good e).int, Aft.ok s1.good h1⟩
  · exact h1.elim
def cutL {α : Type} (xs : List α) (lo hi : Option Int) : List α := (xs.drop (HT.sIx xs.length 0 lo)).take (HT.sIx xs.length xs.length hi - HT.sIx xs.length 0 lo)
theorem ImL.cut {K : PySem.W.Frag} {H : Hp} {xs : List V} {ds : List D} (r : ImL K H xs ds) (lo hi : Option Int) : ImL K H (cutV xs lo hi) (cutL ds lo hi) := by
  unfold cutV cutL
  rw [r.len]
  exact (r.drop _).take _
theorem cutL_all {α : Type} (xs : List α) (lo hi : Option Int) (h : HT.sIx xs.length 0 lo = 0 ∧ HT.sIx xs.length xs.length hi = xs.length) : cutL xs lo hi = xs := by
  unfold cutL
  rw [h.1, h.2, List.drop_zero, Nat.sub_zero, List.take_length]
@[simp] def cutD (d : D) (lo hi : Option Int) : Option D := match d with
  | .tuple ds => some (.tuple (cutL ds lo hi))
  | .str z => if z.length ≤ sizeLine then some (.str (cutS z lo hi)) else none
  | _ => none
theorem s_cut : SlR X fun x lo hi H Q => ∃ a d, Vw X.K H x a ∧ cutD a lo hi = some d ∧ ∀ v H', Same H H' → Im X.K H' v d → Q v H' := by
  rintro pins s σ H x v vl vu lo hi sl Q I rx hs pl pu ⟨a, d, ha, e, q⟩
  cases a with
  | tuple ds =>
    cases e
    obtain ⟨p, xs, rfl, hp, ip⟩ := ha.tupleN
    by_cases c : HT.sIx xs.length 0 lo = 0 ∧ HT.sIx xs.length xs.length hi = xs.length
    · refine sl_tupA pins s σ H _ v vl vu lo hi sl Q I rx hs pl pu ⟨p, xs, rfl, hp.sq, fun c => ?_, fun n => absurd c n⟩
      rw [ip.len] at c
      rw [cutL_all ds lo hi c] at q
      exact q _ H (Same.refl H) (.tup hp ip)
    · cases rx
      obtain ⟨its, r, ht, hz⟩ := I.tuple hp.sq
      have hlen : its.toArray.size = xs.length := by rw [List.size_toArray]; exact r.length.symm
      refine ⟨"tuple", _, PyProof.Rows.slot_tuple_getitem.lookup, ht.typeIs, ?_⟩
      refine HT.getItem_tuple_cut ht hs pl pu (by rw [hlen]; exact c) ?_ (by rw [hlen]; exact hz)
      rw [hlen]
      exact new_tup (xs := cutV xs lo hi) I (Nat.le_trans (cutV_length xs lo hi) hz) ((r.drop (HT.sIx xs.length 0 lo)).take (HT.sIx xs.length xs.length hi - HT.sIx xs.length 0 lo)) fun t o ht ho => q _ _ (same_upd ht) (.tup ⟨o, upd_same, ho⟩ ((ip.cut lo hi).same (same_upd ht)))
  | str z =>
    have e : (if z.length ≤ sizeLine then some (PyData.str (cutS z lo hi)) else none) = some d := e
    split at e
    · next le =>
      cases e
      exact sl_str pins s σ H _ v vl vu lo hi sl Q I rx hs pl pu ⟨z, ha.str, le, q _ H (Same.refl H) (.str _)⟩
    · cases e
  | _ => cases e
@[simp] def eSl (f : Mo R) (lo hi : Mo (Option Int)) : Mo R := fun ρ => (f ρ).bind fun r ρ1 => (lo ρ1).bind fun l ρ2 => (hi ρ2).bind fun h ρ3 => lift ((look ρ3 r).bind fun d => cutD d l h) ρ3
theorem xd_sl {e : Expr} {lo hi : Option Expr} {p2 pos : Pos} {f : Mo R} {l h : Mo (Option Int)} (he : XD X n W e f) (hl : XP X n W lo l) (hh : XP X n W hi h) : XD X n W (.Subscript e (.Slice lo hi none p2) pos) (eSl f l h) := weakE (pe_slice s_cut he hl hh) fun σ H Q ⟨ρ, G, h⟩ => by
  refine ⟨ρ, G, (Aft.bind h).mono fun r ρ1 H1 s1 h1 v rv => ⟨ρ1, s1.good, (Aft.bind h1).mono fun l ρ2 H2 s2 h2 => ⟨ρ2, s2.good, (Aft.bind h2).mono fun u ρ3 H3 s3 h3 => ?_⟩⟩⟩
  obtain ⟨d, e, q⟩ := Aft.out s3.good h3
  have g := (s2.grow s1.good).trans (s3.grow s2.good)
  cases ea : look ρ3 r with
  | none =>
    rw [ea] at e
    cases e
  | some x =>
    rw [ea] at e
    exact ⟨x, d, (rv.grow g).see s3.good ea, e, q⟩
/-! ### new lists -/
@[simp] def asL : Option (List D) → Mo Ob := fun o ρ => match o with
  | some ds => .ok (.lst ds) ρ
  | none => .no
theorem new_out {K : PySem.W.Frag} {H0 H : Hp} {σ : St} {ρ : Ev} {o : Option (List D)} {Q : VK} (G : Good K H σ ρ) (h0 : ∀ p, H p = none → H0 p = none) (h : Aft K n W H σ ρ (asL o ρ) fun o _ H' => ∀ p h, H0 p = none → H' p = some h → ObR K H' h o → ¬ Own σ ρ p → Q (.ref p) H') :
    ∃ ds, o = some ds ∧ ∀ p vs, H p = none → ImL K H vs ds → Q (.ref p) (upd H p (.lst vs)) := by
  cases o with
  | none => exact h.elim
  | some ds => exact ⟨ds, rfl, fun p vs hp im => h _ (Stp.same G (same_upd hp)) p _ (h0 p hp) upd_same (.lst (im.same (same_upd hp))) (new_own G hp)⟩
@[simp] def fN (F : List D → Option (List D)) (m : Mo (List R)) : Mo Ob := fun ρ => (m ρ).bind fun rs ρ1 => asL ((looks ρ1 rs).bind F) ρ1
def rFN (K : PySem.W.Frag) (F : List D → Option (List D)) : List V → Hp → VK → Prop := fun xs H Q => ∃ as ds, VwL K H xs as ∧ F as = some ds ∧ ∀ p vs, H p = none → ImL K H vs ds → Q (.ref p) (upd H p (.lst vs))
theorem fN_run {F : List D → Option (List D)} {m : Mo (List R)} (σ : St) (H : Hp) (Q : VK) (h : tF X.K n W (fN F m) σ H Q) : tXs X.K n W m σ H fun xs H1 => rFN X.K F xs H1 Q := by
  obtain ⟨ρ, G, h⟩ := h
  refine ⟨ρ, G, (Aft.bind h).mono fun rs ρ1 H1 s1 h1 vs rvs => ?_⟩
  have h2 : Aft X.K n W H1 σ ρ1 (asL ((looks ρ1 rs).bind F) ρ1) fun o _ H' => ∀ p h, H p = none → H' p = some h → ObR X.K H' h o → ¬ Own σ ρ1 p → Q (.ref p) H' := by
    generalize hz : (looks ρ1 rs).bind F = z at h1 ⊢
    cases z with
    | none => exact h1
    | some ds => exact h1
  obtain ⟨ds, e, q⟩ := new_out s1.good s1.live h2
  cases ea : looks ρ1 rs with
  | none =>
    rw [ea] at e
    cases e
  | some as =>
    rw [ea] at e
    exact ⟨as, ds, rvs.see s1.good ea, e, q⟩
theorem xf_callT {T : String} {F : List D → Option (List D)} {x : Str} {p pos : Pos} {e : Expr} {es : List Expr} {m : Mo (List R)} (hc : CallR X (.type T) (rFN X.K F)) (hg : Gl X x) (hm : X.mg x = none) (hv : bootBuiltins x = some (.type T)) (ha : XA X n W (e :: es) m) (hn : x ≠ "__name__" := by decide) (hdb : (x == ("__debug__" : Str)) = false := by decide)
    (he : starEach (e :: es) X.env = (false, eval e X.env) :: starEach es X.env := by rfl) (hpl : (backTo pos (starEach es X.env)).any (·.1) = false := by rfl) : XF X n W (.Call (.Name x p) (e :: es) [] pos) (fN F m) := weakE (pe_callTy hc hg hm hv ha hn hdb he hpl) fN_run
@[simp] def listD : List D → Option (List D)
  | [.list ds] => some ds
  | [.tuple ds] => some ds
  | _ => none
theorem c_list : CallR X (.type "list") (rFN X.K listD) := by
  rintro pins s σ H xs us Q I r ⟨as, d, hx, e, q⟩
  unfold listD at e
  split at e
  · cases e
    obtain ⟨x, rfl, h⟩ := hx.one
    obtain ⟨p, ys, rfl, hp, ip⟩ := h.list
    exact call_list_of pins s σ H _ us Q I r ⟨p, ys, rfl, .inl hp, fun l hl => q l ys hl ip⟩
  · cases e
    obtain ⟨x, rfl, h⟩ := hx.one
    obtain ⟨p, ys, rfl, hp, ip⟩ := h.tuple
    exact call_list_of pins s σ H _ us Q I r ⟨p, ys, rfl, .inr hp, fun l hl => q l ys hl ip⟩
  · cases e
def strsD : List D → Option (List Str)
  | [] => some []
  | .str x :: ds => (strsD ds).map (x :: ·)
  | _ :: _ => none
theorem strsD_eq : ∀ {ds : List D} {ns : List Str}, strsD ds = some ns → ds = ns.map PyData.str
  | [], ns, e => by
    cases e
    rfl
  | .str x :: ds, ns, e => by
    obtain ⟨cs, e2, rfl⟩ := map_some (show (strsD ds).map (x :: ·) = some ns from e)
    rw [List.map_cons, ← strsD_eq e2]
  | .none :: _, _, e => by cases e
  | .bool _ :: _, _, e => by cases e
  | .int _ :: _, _, e => by cases e
  | .list _ :: _, _, e => by cases e
  | .tuple _ :: _, _, e => by cases e
  | .dict _ :: _, _, e => by cases e
theorem strsD_of : ∀ (ns : List Str), strsD (ns.map PyData.str) = some ns
  | [] => rfl
  | x :: ns => by
    show (strsD (ns.map PyData.str)).map (x :: ·) = _
    rw [strsD_of ns]
    rfl
def sortS (ds : List D) : Option (List D) := (strsD ds).bind fun ns => if ns.length < 64 then some ((srt ns).map PyData.str) else none
def sortedD : List D → Option (List D)
  | [.list ds] => sortS ds
  | [.tuple ds] => sortS ds
  | [.dict kvs] => sortS (kvs.map Prod.fst)
  | _ => none
theorem ImKV.strs {K : PySem.W.Frag} {H : Hp} : ∀ {kvs : List (Key × V)} {ds : List (D × D)} {ns : List Str}, ImKV K H kvs ds → ds.map Prod.fst = ns.map PyData.str → kvs.map (·.1) = ns.map Sum.inr
  | _, _, [], .nil, _ => rfl
  | _, _, _ :: _, .nil, e => by cases e
  | _, _, [], .cons _ _, e => by cases e
  | (k, _) :: _, _, m :: ns, .cons h r, e => by
    injection e with e1 e2
    cases k with
    | inl i => cases e1
    | inr x =>
      cases e1
      rw [List.map_cons, List.map_cons, ImKV.strs r e2]
theorem vw_dict {K : PySem.W.Frag} {H : Hp} {v : V} {ds : List (D × D)} (h : Vw K H v (.dict ds)) (no : ∀ d, ds ≠ [(.none, d)]) (no2 : ∀ a b, ds ≠ [(.bool true, a), (.bool false, b)]) : ∃ a kvs, v = .ref a ∧ Rd H a (.dK kvs) ∧ ImKV K H kvs ds := by
  cases h with
  | im h => cases h with
    | scr h => exact absurd rfl (no _)
    | prm _ _ _ => exact absurd rfl (no2 _ _)
    | dic h r => exact ⟨_, _, rfl, .inr ⟨_, h⟩, r⟩
  | dic h r => exact ⟨_, _, rfl, .inl h, r⟩
/-! ### list + list, list slices -/
theorem list_rd {K : PySem.W.Frag} {H : Hp} {v : V} {ds : List D} (h : Vw K H v (.list ds)) : ∃ a xs, v = .ref a ∧ Rd H a (.lst xs) ∧ ImL K H xs ds := by
  cases h with
  | im h => cases h with
    | lst h r => exact ⟨_, _, rfl, .inr h, r⟩
  | lst h r => exact ⟨_, _, rfl, .inl h, r⟩
theorem rd_obj {pins : List (Addr × Obj)} {σ : L2.St} {H : Hp} {s : Shared} (I : Inv X pins σ H s) {a : Addr} {xs : List V} (h : Rd H a (.lst xs)) : ∃ (its : List Value) (m : Nat), Vals xs its ∧ s.heap.get? a = some { cls := .type "list", data := .seq its.toArray m } := by
  obtain ⟨_, its, m, r, e⟩ := h.ok I.hok
  exact ⟨its, m, r, e⟩
def cat2 : D → D → Option (List D)
  | .list a, .list b => if a.length + b.length ≤ sizeLine then some (a ++ b) else none
  | _, _ => none
def rF2 (K : PySem.W.Frag) (F : D → D → Option (List D)) : R2 := fun x y H Q => ∃ a b ds, Vw K H x a ∧ Vw K H y b ∧ F a b = some ds ∧ ∀ p vs, H p = none → ImL K H vs ds → Q (.ref p) (upd H p (.lst vs))
theorem o_cat : OpR X (binaryOp .Add) (rF2 X.K cat2) := by
  rintro pins s σ H x y v u Q I rx ry ⟨a, b, d, ha, hb, e, q⟩
  unfold cat2 at e
  split at e
  · split at e
    · next le =>
      cases e
      obtain ⟨p, xs, rfl, hp, ip⟩ := list_rd ha
      obtain ⟨t, ys, rfl, ht, it⟩ := list_rd hb
      cases rx
      cases ry
      obtain ⟨its, m, r, e1⟩ := rd_obj I hp
      obtain ⟨its2, m2, r2, e2⟩ := rd_obj I ht
      have l1 := r.length
      have l2 := r2.length
      have l3 := ip.len
      have l4 := it.len
      refine PySem.P.add_list e1 e2 ?_ (by rw [List.size_toArray, List.size_toArray]; omega)
      have ea : its.toArray ++ its2.toArray = (its ++ its2).toArray := by simp
      rw [ea]
      exact ⟨.ref _, _, I.lnew (t' := s.toks) (r.append r2) (by rw [List.length_append]; omega), rfl, q _ _ I.fresh (ip.append it)⟩
    · cases e
  · cases e
@[simp] def f2 (F : D → D → Option (List D)) (f g : Mo R) : Mo Ob := fun ρ => (f ρ).bind fun a ρ1 => (g ρ1).bind fun b ρ2 => asL ((look ρ2 a).bind fun x => (look ρ2 b).bind fun y => F x y) ρ2
@[simp] def fSl (f : Mo R) (lo hi : Mo (Option Int)) : Mo Ob := fun ρ => (f ρ).bind fun r ρ1 => (lo ρ1).bind fun l ρ2 => (hi ρ2).bind fun h ρ3 => asL ((look ρ3 r).bind fun d => match d with
  | .list ds => some (cutL ds l h)
  | _ => none) ρ3
end
end Q
namespace Q
open PySem PySem.Spec PyProof.Rows L2 Gd
variable [Tbl]
section
variable {X : Cx} {n : Nat} {W : XW}
/-! ### methods that change a list of a slot's own -/
def rMut (K : PySem.W.Frag) (F : List D → List D → Option (D × List D)) : V → List V → Hp → VK → Prop := fun x vs H Q => ∃ l xs ds as res ds', x = .ref l ∧ H l = some (.lst xs) ∧ ImL K H xs ds ∧ ImL K H vs as ∧ F ds as = some (res, ds') ∧
  ∀ xs' v, ImL K H xs' ds' → Im K H v res → Q v (upd H l (.lst xs'))
@[simp] def outM (i : Nat) : Option (D × List D) → Mo R
  | some (res, ds'), ρ => .ok (.d res) (ρ.set i (.own (.lst ds')))
  | none, _ => .no
@[simp] def eMut (F : List D → List D → Option (D × List D)) (i : Nat) (m : Mo (List R)) : Mo R := fun ρ => match ρ[i]? with
  | some (.own (.lst _)) => (m ρ).bind fun rs ρ1 => match ρ1[i]? with
    | some (.own (.lst ds)) => outM i ((datas rs).bind (F ds)) ρ1
    | _ => .no
  | _ => .no
theorem own_lst {K : PySem.W.Frag} {H : Hp} {σ : St} {ρ : Ev} (G : Good K H σ ρ) {i : Nat} {ds : List D} (e : ρ[i]? = some (.own (.lst ds))) : ∃ p xs, σ[i]? = some (some (.ref p)) ∧ H p = some (.lst xs) ∧ ImL K H xs ds := by
  obtain ⟨p, h, e1, e2, r⟩ := G.own i _ e
  cases r with
  | lst r => exact ⟨p, _, e1, e2, r⟩
theorem mut_run {F : List D → List D → Option (D × List D)} {i : Nat} {m : Mo (List R)} (σ : St) (H : Hp) (Q : VK) (h : tX X.K n W (eMut F i m) σ H Q) :
    tVar i σ H fun x H1 => tyV X.K "list" x H1 ∧ tXs X.K n W m σ H1 fun vs H2 => rMut X.K F x vs H2 Q := by
  obtain ⟨ρ, G, h⟩ := h
  unfold eMut at h
  split at h
  · next ds0 e0 =>
    obtain ⟨p, xs, e1, e2, _⟩ := own_lst G e0
    refine ⟨_, e1, .inl ⟨rfl, _, .inl (.inl e2)⟩, ρ, G, (Aft.bind h).mono fun rs ρ1 H1 s1 h1 vs rvs => ?_⟩
    split at h1
    · next ds e3 =>
      cases e4 : (datas rs).bind (F ds) with
      | none =>
        rw [e4] at h1
        exact h1.elim
      | some pr =>
        obtain ⟨res, ds'⟩ := pr
        rw [e4] at h1
        obtain ⟨p', xs', f1, f2, im⟩ := own_lst s1.good e3
        rw [e1] at f1
        cases f1
        cases ed : datas rs with
        | none =>
          rw [ed] at e4
          cases e4
        | some as =>
          rw [ed] at e4
          refine ⟨p, xs', ds, as, res, ds', rfl, f2, im, rvs.datas ed, e4, fun ys v i1 i2 => ?_⟩
          have st := Stp.write (n := n) s1.good e3 e1 f2 (.lst im) (h' := .lst ys) (.lst i1)
          exact h1 _ st v (.d (i2.grow (grow_upd f2 trivial (noTab_code (h := .lst _) trivial))))
    · exact h1.elim
  · exact h.elim
theorem xd_mut {F : List D → List D → Option (D × List D)} {name : Str} {id : String} {i : Nat} {x : Str} {p apos cpos : Pos} {e : Expr} {es : List Expr} {m : Mo (List R)} (hm : MtR X id (rMut X.K F)) (slot : Slot "list" name id) (hty : typeOf (.builtin id) = pure (.type "method_descriptor")) (hx : PE X (.Name x p) (tVar i)) (ha : XA X n W (e :: es) m)
    (hbase : attributeBase (.Name x p) name X.env (eval (.Name x p) X.env) = eval (.Name x p) X.env := by rfl)
    (hfew : ((backTo cpos (starEach (e :: es) X.env)).all (fun x => !x.1) && (backToKw cpos (keywordEach [] X.env)).all (fun x => x.1.isSome) && decide ((e :: es).length + ([] : List Keyword).length + (if ([] : List Keyword).isEmpty then 0 else 1) < 30)) = true := by rfl)
    (hline : (apos.endLine == cpos.line) = true := by rfl) (hs : starEach (e :: es) X.env = (false, eval e X.env) :: starEach es X.env := by rfl) (hplain : (backTo cpos (starEach es X.env)).any (·.1) = false := by rfl) :
    XD X n W (.Call (.Attribute (.Name x p) name apos) (e :: es) [] cpos) (eMut F i m) := weakE (pe_bm PySem.F.plainAttrs_list slot hty hm hx ha hbase hfew hline hs hplain) mut_run
def appF (ds : List D) : List D → Option (D × List D)
  | [x] => if ds.length < sizeLine then some (.none, ds ++ [x]) else none
  | _ => none
theorem m_app : MtR X "list.append" (rMut X.K appF) := by
  rintro pins s σ H x vs v us Q I rx rv ⟨l, xs, ds, as, res, ds', rfl, e, im, ia, ef, q⟩
  unfold appF at ef
  split at ef
  · split at ef
    · next lt =>
      cases ef
      cases ia with
      | cons i1 r =>
        cases r
        exact mt_append pins s σ H _ _ v us Q I rx rv ⟨l, xs, _, rfl, rfl, e, by rw [im.len]; exact lt, q _ _ (im.append (.cons i1 .nil)) .non⟩
    · cases ef
  · cases ef
noncomputable def popF (ds : List D) : List D → Option (D × List D)
  | [.int i] => if cb (-(2 ^ 63) ≤ i ∧ i < 2 ^ 63) = true then (seqIndex? i ds.length).bind fun k => ds[k]?.map fun y => (y, ds.eraseIdx k) else none
  | _ => none
theorem ImL.erase {K : PySem.W.Frag} {H : Hp} : ∀ {xs : List V} {ds : List D} (k : Nat), ImL K H xs ds → ImL K H (xs.eraseIdx k) (ds.eraseIdx k)
  | _, _, _, .nil => .nil
  | _, _, 0, .cons _ r => r
  | _, _, k + 1, .cons h r => .cons h (ImL.erase k r)
theorem m_pop : MtR X "list.pop" (rMut X.K popF) := by
  rintro pins s σ H x vs v us Q I rx rv ⟨l, xs, ds, as, res, ds', rfl, e, im, ia, ef, q⟩
  unfold popF at ef
  split at ef
  · next i =>
    split at ef
    · next b =>
      cases ek : seqIndex? i ds.length with
      | none =>
        rw [ek] at ef
        cases ef
      | some k =>
        rw [ek] at ef
        obtain ⟨y, ey, ez⟩ := map_some (show ds[k]?.map (fun y => (y, ds.eraseIdx k)) = some (res, ds') from ef)
        cases ez
        cases ia with
        | cons i1 r =>
          cases r
          cases i1
          obtain ⟨w, ew, iw⟩ := im.at ey
          exact mt_popAt pins s σ H _ _ v us Q I rx rv ⟨l, xs, i, k, w, rfl, rfl, e, (of_cb b).1, (of_cb b).2, by rw [im.len]; exact ek, ew, q _ _ (im.erase k) iw⟩
    · cases ef
  · cases ef
noncomputable def insF (ds : List D) : List D → Option (D × List D)
  | [.int i, y] => if cb (ds.length < sizeLine ∧ 0 ≤ i ∧ i < 2 ^ 63) = true then some (.none, ds.take i.toNat ++ [y] ++ ds.drop i.toNat) else none
  | _ => none
/-! ### xs.extend(ys) -/
def rExtQ (K : PySem.W.Frag) : V → List V → Hp → VK → Prop := fun x vs H Q => ∃ l b xs zs, x = .ref l ∧ vs = [.ref b] ∧ H l = some (.lst xs) ∧ (Rd H b (.lst zs) ∨ SqT K H b zs) ∧ xs.length + zs.length ≤ sizeLine ∧ Q .non (upd H l (.lst (xs ++ zs)))
@[simp] def eExt (i : Nat) (f : Mo R) : Mo R := fun ρ => match ρ[i]? with
  | some (.own (.lst _)) => (f ρ).bind fun r ρ1 => match ρ1[i]? with
    | some (.own (.lst ds)) => match (look ρ1 r).bind itemsD with
      | some es => if ds.length + es.length ≤ sizeLine then .ok (.d .none) (ρ1.set i (.own (.lst (ds ++ es)))) else .no
      | none => .no
    | _ => .no
  | _ => .no
end
end Q
namespace Q
open PySem PySem.Spec PyProof.Rows L2 Gd
variable [Tbl]
/-! ### for i, x in enumerate(t), t a tuple -/
set_option maxHeartbeats 2000000 in
theorem enum_new1 {v : Value} {o : Obj} {W : Heap → Prop} (B : Begins v o W) : Meets (Builtin.«enumerate.__new__» ⟨[.type "enumerate", v], []⟩) (fun _ R s => W s.heap ∧
    R (.ok (.ret (.ref (s.heap.push o).objs.size))) { s with heap := (s.heap.push o).push { cls := .type "enumerate", data := .fields #[.none, .bool false, .ref s.heap.objs.size, rawInt 0, .none, .none] } }) :=
  .of_wp fun prog w A R s hyp => by
    obtain ⟨hp, gn, dr, tk, os⟩ := s
    obtain ⟨h1, hyp⟩ := hyp
    have hsub := sub_enumerate
    have it : ∀ {A' : Around} {E : Value → Shared → Prop} {Q : Value → Shared → Prop}, Q (.ref hp.objs.size) ⟨hp.push o, gn, dr, tk, os⟩ → wpAny (model prog w) A' (pyIter v) Q E ⟨hp, gn, dr, tk, os⟩ := fun z => B.iter prog w _ _ ⟨hp, gn, dr, tk, os⟩ _ h1 z
    wp_walk using it
    refine wpAny_stack_any fun st => wpAny_pure ?_
    split
    · rename_i cc _ _ _ _ _
      cases (cc == Value.type "enumerate") <;> (wp_walk using it; exact ⟨_, rfl, hyp⟩)
    · wp_walk using it
      exact ⟨_, rfl, hyp⟩
theorem call_enum1 {prog : Program} {w : World} {A : Around} {E : Value → Shared → Prop} {s : Shared} {v : Value} {o : Obj} {W : Heap → Prop} {Q : Value → Shared → Prop} (B : Begins v o W) (h1 : W s.heap)
    (h : ∀ h', IsEnum h' (s.heap.objs.size + 1) s.heap.objs.size 0 .none → h'.get? s.heap.objs.size = some o → (∀ b u, s.heap.get? b = some u → h'.get? b = some u) → Q (.ref (s.heap.objs.size + 1)) { s with heap := h' }) :
    wpAny (model prog w) A (call (.type "enumerate") [v]) Q E s := by
  refine callType_new F.called_enumerate (by decide) (F.typeCall_enumerate_1 _) (F.newCall_enumerate_1 _) (fun obj => F.args_object_init_2 obj _) F.entry_enumerate_new (enum_new1 B) ⟨h1, ?_⟩
  have sz : (s.heap.push o).objs.size = s.heap.objs.size + 1 := Heap.size_push ..
  show _ ∧ _
  rw [sz]
  have en : IsEnum ((s.heap.push o).push { cls := .type "enumerate", data := .fields #[.none, .bool false, .ref s.heap.objs.size, rawInt 0, .none, .none] }) (s.heap.objs.size + 1) s.heap.objs.size 0 .none := by
    have z := Heap.get?_push_size (s.heap.push o) (o := { cls := .type "enumerate", data := .fields #[.none, .bool false, .ref s.heap.objs.size, rawInt 0, .none, .none] }) rfl
    rw [sz] at z
    exact z
  exact ⟨⟨_, en, rfl⟩, h _ en (Heap.get?_push_of_some _ (Heap.get?_push_size _ B.free)) fun b u x => Heap.get?_push_of_some _ (Heap.get?_push_of_some _ x)⟩
/-- the tuple at a, each item in a new pair with its place -/
def Ent (K : PySem.W.Frag) (a : Addr) : It :=
  ⟨fun i H => ∃ (xs : List V) (x : V), SqT K H a xs ∧ xs[i]? = some x, fun i H v H' => ∃ T x, v = .ref T ∧ H T = none ∧ H' = upd H T (.tup [.int (i : Nat), x]) ∧ ∀ xs, SqT K H a xs → xs[i]? = some x, fun i H => ∃ xs : List V, SqT K H a xs ∧ xs.length ≤ i⟩
theorem turn_ent {P : Program} {w : World} {K : PySem.W.Frag} {elts : List Expr} {kk : Nat} {tpos : Pos} (a e it : Addr) :
    Turn P w K (.Tuple elts kk tpos) (Ent K a) [e, it] e (fun i h => (∃ old, IsEnum h e it ((i : Nat) : Int) old) ∧ h.IsTupleIter it a i ∧ e ≠ it) where
  mem := by simp
  obj := fun i h st b hb => by
    obtain ⟨⟨old, he⟩, ⟨o, ho, hc, hd⟩, _⟩ := st
    rcases (by simpa using hb : b = e ∨ b = it) with z | z
    · subst z
      exact ⟨_, he, fun v q => nomatch q⟩
    · subst z
      exact ⟨o, ho, fun v q => by rw [hd] at q; cases q⟩
  keep := by
    rintro i h h' ⟨⟨old, he⟩, ⟨o, ho, r⟩, ne⟩ k
    exact ⟨⟨old, k e (by simp) _ he⟩, ⟨o, k it (by simp) _ ho, r⟩, ne⟩
  item := by
    intro X hP hw hK hc i pins s σ H E I hf st hg
    subst hP hw hK
    obtain ⟨⟨old, he⟩, hit, hne⟩ := st
    obtain ⟨xs, x, hq, hx⟩ := hg
    obtain ⟨its, rv, tp, hz⟩ := I.tuple hq
    obtain ⟨u, hu, ru⟩ := rv.get hx
    have hel : e < s.heap.objs.size := Heap.lt_size he
    have hil : it < s.heap.objs.size := by
      obtain ⟨_, z, _⟩ := hit
      exact Heap.lt_size z
    have nai : a ≠ it := fun z => by
      obtain ⟨o1, e1, c1, _⟩ := tp
      obtain ⟨o2, e2, c2, _⟩ := hit
      rw [z, e2] at e1
      cases e1
      rw [c2] at c1
      exact absurd (Value.type.inj c1) (by decide)
    have nae : e ≠ a := fun z => by
      obtain ⟨o1, e1, c1, _⟩ := tp
      rw [← z] at e1
      have e2 : s.heap.get? e = _ := he
      rw [e2] at e1
      cases e1
      exact absurd (Value.type.inj c1) (by decide)
    have hil2 : i < its.toArray.size := by
      rw [List.size_toArray]
      exact (List.getElem?_eq_some_iff.mp hu).1
    refine wpAny_pyNext_enum_itemD (Draws.tuple (A := X.A.in1) (I.ok.hd hc) it a nai its.toArray) he ⟨hit, tp⟩ hil2 hne (by simp [hne, nae]) fun y h' tk py eo st' hT sz hk => ?_
    have ey : y = u := by
      have z : its[i]? = some y := by simpa using py
      rw [hu] at z
      exact (Option.some.inj z).symm
    subst ey
    refine ⟨_, rfl, wpAny_letOwnedTupleGo_enum (s := { s with heap := h', toks := tk + 1 }) eo fun h2 he2 sb => ?_⟩
    have hT2 : h2.get? s.heap.objs.size = some { cls := .type "tuple", data := .seq #[.int i tk, y] } := (sb.2 _ (Nat.ne_of_gt hel)).trans hT
    have new : ObjOk X.prog X.w (upd H s.heap.objs.size (.tup [.int (i : Nat), x])) h2 s.heap.objs.size (.tup [.int (i : Nat), x]) :=
      ⟨(by show 2 ≤ sizeLine; decide), [.int i tk, y], .cons ⟨_, rfl⟩ (.cons ru .nil), ⟨_, hT2, rfl, _, rfl⟩⟩
    have J : Inv X pins σ (upd H s.heap.objs.size (.tup [.int (i : Nat), x])) { s with heap := h2, toks := tk + 1 } := by
      refine I.turnedNew (ch := [e, it]) (fun b ob hb q => ?_) hf (Nat.le_refl _) new
      have n1 : b ≠ e := fun z => hb (by simp [z])
      have n2 : b ≠ it := fun z => hb (by simp [z])
      exact (sb.2 b n1).trans (hk b ob n1 n2 q)
    refine ⟨.ref s.heap.objs.size, _, J, rfl, ⟨_, x, rfl, I.hok.fresh (Nat.le_refl _), rfl, fun ys hy => ?_⟩, ⟨⟨y, ?_⟩, ?_, hne⟩, fun b hb => ?_⟩
    · rw [I.tuple_inj hy hq]
      exact hx
    · have e1 : ((i + 1 : Nat) : Int) = (i : Int) + 1 := by omega
      rw [e1]
      exact he2
    · obtain ⟨o, ho, r⟩ := st'.1
      exact ⟨o, (sb.2 it hne.symm).trans ho, r⟩
    · have lt : b < s.heap.objs.size := by
        rcases (by simpa using hb : b = e ∨ b = it) with z | z
        · rw [z]
          exact hel
        · rw [z]
          exact hil
      rw [upd_ne (Nat.ne_of_lt lt)]
      exact (hf b hb).1
  done := by
    intro X hP hw hK hc i pins s σ H E I hf st hg
    subst hP hw hK
    obtain ⟨⟨old, he⟩, hit, hne⟩ := st
    obtain ⟨xs, hq, hx⟩ := hg
    obtain ⟨its, rv, tp, hz⟩ := I.tuple hq
    obtain ⟨f0, f1, f2, f3, f4, f5⟩ := hf it (by simp)
    have hT : s.TypeIs (.ref e) "enumerate" := ⟨_, he, rfl⟩
    have len := rv.length
    unfold pyNext
    refine wpAny_bind (wpAny_attempt (wpAny_callSpecial?_slot (name := Str.ofString "__next__") hT F.slot_enumerate_next (wpAny_call_entry F.slot_enumerate_next hT F.entry_enumerate_next ?_ (F.args_enumerate_next_1 _))))
    show wpAny _ _ (field (.ref e) 2 >>= _) _ _ _
    refine wpAny_bind (wpAny_field he rfl (x := .ref it) rfl ?_)
    refine wpAny_bind (wpAny_nextOf_tuple_end (I.ok.hd hc) hit tp (by simp; omega) fun h' x he' hx' => ?_)
    obtain ⟨o, ho, hcl⟩ := hx'
    refine wpAny_bind (wpAny_isInstance (T := "StopIteration") (b := true) ⟨o, ho, hcl⟩ isSubtype_stop ?_)
    exact wpAny_pure ⟨rfl, I.turned (t' := s.toks) (fun b o hb q => he' b o hb q) f0 f1 f3 f4 f5⟩
  self := fun A i s Q E st h => let ⟨⟨_, he⟩, _⟩ := st; wpAny_pyIter_enum he h
def iEnt (K : PySem.W.Frag) (ta : TA) : TI := fun σ H R => ta σ H fun vs H1 => ∃ a xs, vs = [.ref a] ∧ SqT K H1 a xs ∧ R (Ent K a) H1
theorem pi_ent {X : Cx} {e : Expr} {ta : TA} {p pos tpos : Pos} {elts : List Expr} {kk : Nat} (hg : Gl X "enumerate") (hm : X.mg "enumerate" = none) (ha : PA X [e] ta) (hs : starEach [e] X.env = [(false, eval e X.env)] := by rfl) :
    PI X (.Tuple elts kk tpos) (.Call (.Name "enumerate" p) [e] [] pos) (iEnt X.K ta) := by
  refine ⟨fun pins s σ H R I h => ?_⟩
  refine Call_ (ld_blt I hg hm boot_enumerate (PyProof.Rows.callWith_type1 (thn (ha.run pos pins s σ H _ I h) ?_) hs rfl))
  rintro us s1 ⟨vs, H1, I1, r1, a, xs, rfl, hq, q⟩
  obtain ⟨u, rfl, rx⟩ := vals1 r1
  cases rx
  obtain ⟨its, rv, tp, hz⟩ := I1.tuple hq
  refine call_enum1 (begins_tuple a its.toArray) tp fun h' en it hk => wpAny_pyIter_enum en ?_
  refine ⟨s1.heap.objs.size + 1, [s1.heap.objs.size + 1, s1.heap.objs.size], _, _, H1, rfl, I1.kept (t' := s1.toks) hk, turn_ent a (s1.heap.objs.size + 1) s1.heap.objs.size, ⟨⟨.none, en⟩, ⟨_, it, rfl, rfl⟩, Nat.succ_ne_self _⟩, fun b hb => ?_, q⟩
  have le : s1.heap.objs.size ≤ b := by
    rcases (by simpa using hb : b = s1.heap.objs.size + 1 ∨ b = s1.heap.objs.size) with z | z
    · rw [z]
      exact Nat.le_add_right _ _
    · rw [z]
      exact Nat.le_refl _
  exact I1.fpOk le (I1.hok.fresh le)
end Q
namespace Q
open PySem PySem.Spec PyProof.Rows L2 Gd RZ
variable [Tbl]
section
variable {X : Cx} {n : Nat} {W : XW}
/-! ### enumerate, zip -/
/-- a pair that a walk makes: it is only taken apart -/
def pairD (a b : D) : D := .dict [(.bool true, a), (.bool false, b)]
def enumD (ds : List D) : List D := ds.zipIdx.map fun p => pairD (.int (p.2 : Nat)) p.1
def zipD (ds es : List D) : List D := List.zipWith pairD ds es
theorem enumD_len (ds : List D) : (enumD ds).length = ds.length := by
  unfold enumD
  rw [List.length_map, List.length_zipIdx]
theorem enumD_at {ds : List D} {i : Nat} {d : D} (h : ds[i]? = some d) : (enumD ds)[i]? = some (pairD (.int (i : Nat)) d) := by
  unfold enumD
  rw [List.getElem?_map, List.getElem?_zipIdx, h, Nat.zero_add]
  rfl
theorem wk_pair {K : PySem.W.Frag} {H : Hp} {ds : List D} {J : It} {G : Hp → Prop} {fx fy : Nat → Option V} (w : Walk J ds.length G (YPair fx fy)) (hG : ∀ H', Grow H H' → G H')
    (hi : ∀ i x y, fx i = some x → fy i = some y → ∃ a b, ds[i]? = some (pairD a b) ∧ Im K H x a ∧ Im K H y b) : Wk K H ds J := by
  refine w.mono hG fun i H1 v H2 lt g y => ?_
  obtain ⟨T, x, z, rfl, nT, rfl, e1, e2⟩ := y
  obtain ⟨a, b, ed, ia, ib⟩ := hi i x z e1 e2
  have sm := same_upd (o := .tup [x, z]) nT
  exact ⟨sm, _, ed, .prm (.inl (.inl upd_same)) ((ia.grow g).same sm) ((ib.grow g).same sm)⟩
theorem walk_entQ {K : PySem.W.Frag} {a : Addr} {xs : List V} : Walk (Ent K a) xs.length (fun H => SqT K H a xs) (YPair (fun i => some (.int (i : Nat))) (fun i => xs[i]?)) := by
  refine ⟨fun i _ hi q => ⟨xs, xs[i], q, by simp [hi]⟩, fun _ q => ⟨xs, q, Nat.le_refl _⟩, fun i H v H' _ q y => ?_⟩
  obtain ⟨T, x, h1, h2, h3, h4⟩ := y
  exact ⟨T, .int (i : Nat), x, h1, h2, h3, rfl, h4 xs q⟩
theorem enum_hi {K : PySem.W.Frag} {H : Hp} {xs : List V} {ds : List D} (r : ImL K H xs ds) : ∀ i x y, (fun i : Nat => some (V.int (i : Nat))) i = some x → (fun i : Nat => xs[i]?) i = some y → ∃ a b, (enumD ds)[i]? = some (pairD a b) ∧ Im K H x a ∧ Im K H y b := fun i x y e1 e2 => by
  cases e1
  obtain ⟨d, ed, id⟩ := r.get e2
  exact ⟨_, d, enumD_at ed, .int _, id⟩
@[simp] def iMap (F : List D → Option (List D)) (m : Mo (List R)) : Mo (List D) := fun ρ => (m ρ).bind fun rs ρ1 => outL ((datas rs).bind F) ρ1
@[simp] def enF : List D → Option (List D)
  | [d] => (itemsD d).map enumD
  | _ => none
theorem xi_enum {e : Expr} {f : Mo (List R)} {p pos tpos : Pos} {elts : List Expr} {kk : Nat} (hg : Gl X "enumerate") (hm : X.mg "enumerate" = none) (ha : XA X n W [e] f) (hs : starEach [e] X.env = [(false, eval e X.env)] := by rfl) :
    XI X n W (.Tuple elts kk tpos) (.Call (.Name "enumerate" p) [e] [] pos) (iMap enF f) := weakI (PI.or (pi_ent hg hm ha hs) (pi_enum hg hm ha hs)) fun σ H Q ⟨ρ, G, h⟩ => by
  unfold iMap at h
  cases ef : f ρ with
  | no =>
    rw [ef] at h
    exact h.elim
  | ex c d ρ' =>
    refine .inl ⟨ρ, G, ?_⟩
    rw [ef] at h ⊢
    exact h
  | ok rs ρ1 =>
    rw [ef] at h
    have h : Aft X.K n W H σ ρ (outL ((datas rs).bind enF) ρ1) fun ds _ H' => ∀ J, Wk X.K H' ds J → Q J H' := h
    cases ed : datas rs with
    | none =>
      rw [ed] at h
      exact h.elim
    | some as =>
      rw [ed] at h
      have h : Aft X.K n W H σ ρ (outL (enF as) ρ1) fun ds _ H' => ∀ J, Wk X.K H' ds J → Q J H' := h
      cases as with
      | nil => exact h.elim
      | cons d rest => cases rest with
        | cons _ _ => exact h.elim
        | nil =>
        cases d with
        | tuple ds =>
          refine .inl ⟨ρ, G, ?_⟩
          rw [ef]
          intro H1 s1 vs rvs
          cases rvs.datas ed with
          | cons i1 r =>
            cases r
            cases i1 with
            | @tup a xs _ ht ir =>
              refine ⟨a, xs, rfl, ht.sq, h H1 s1 _ (wk_pair (G := fun H => SqT X.K H a xs) ?_ (fun H' g => g.t ht.sq) (enum_hi ir))⟩
              rw [enumD_len, ← ir.len]
              exact walk_entQ
        | list ds =>
          refine .inr ⟨ρ, G, ?_⟩
          rw [ef]
          intro H1 s1 vs rvs
          cases rvs.datas ed with
          | cons i1 r =>
            cases r
            cases i1 with
            | @lst a xs _ ht ir =>
              refine ⟨a, xs, rfl, ht.sq, h H1 s1 _ (wk_pair (G := fun H => SqL X.K H a xs) ?_ (fun H' g => (g.l ht).sq) (enum_hi ir))⟩
              rw [enumD_len, ← ir.len]
              exact walk_enum
        | _ => exact h.elim
@[simp] def zipF : List D → Option (List D)
  | [.tuple a, .tuple b] => some (zipD a b)
  | [.list a, .list b] => some (zipD a b)
  | _ => none
theorem zipD_len (a b : List D) : (zipD a b).length = min a.length b.length := List.length_zipWith
theorem zip_hi {K : PySem.W.Frag} {H : Hp} {xs ys : List V} {ds es : List D} (r : ImL K H xs ds) (r' : ImL K H ys es) : ∀ i x y, (fun i : Nat => xs[i]?) i = some x → (fun i : Nat => ys[i]?) i = some y → ∃ a b, (zipD ds es)[i]? = some (pairD a b) ∧ Im K H x a ∧ Im K H y b := fun i x y e1 e2 => by
  obtain ⟨d, ed, id⟩ := r.get e1
  obtain ⟨e, ee, ie⟩ := r'.get e2
  refine ⟨d, e, ?_, id, ie⟩
  unfold zipD
  rw [List.getElem?_zipWith, ed, ee]
theorem walk_zipTQ {K : PySem.W.Frag} {a b : Addr} {xs ys : List V} {k : Nat} (hk : k = min xs.length ys.length) : Walk (ItzT K a b) k (fun H => SqT K H a xs ∧ SqT K H b ys) (YPair (fun i => xs[i]?) (fun i => ys[i]?)) := by
  subst hk
  refine ⟨fun i _ hi q => ?_, fun _ q => ⟨xs, ys, q.1, q.2, by omega⟩, fun i H v H' _ q y => ?_⟩
  · have h1 : i < xs.length := by omega
    have h2 : i < ys.length := by omega
    exact ⟨xs, ys, xs[i], ys[i], q.1, q.2, by simp [h1], by simp [h2]⟩
  · obtain ⟨T, x, z, h1, h2, h3, h4, h5⟩ := y
    exact ⟨T, x, z, h1, h2, h3, h4 xs q.1, h5 ys q.2⟩
theorem xi_zip {e e2 : Expr} {f : Mo (List R)} {p pos tpos : Pos} {elts : List Expr} {kk : Nat} (hg : Gl X "zip") (hm : X.mg "zip" = none) (ha : XA X n W [e, e2] f)
    (hs : starEach [e, e2] X.env = (false, eval e X.env) :: starEach [e2] X.env := by rfl) (hpl : (backTo pos (starEach [e2] X.env)).any (·.1) = false := by rfl) :
    XI X n W (.Tuple elts kk tpos) (.Call (.Name "zip" p) [e, e2] [] pos) (iMap zipF f) := weakI (pi_zipA hg hm ha hs hpl) fun σ H Q ⟨ρ, G, h⟩ => by
  refine ⟨ρ, G, (Aft.bind h).mono fun rs ρ1 H1 s1 h1 vs rvs => ?_⟩
  obtain ⟨ds, e, h1⟩ := h1.outL
  · cases ed : datas rs with
    | none =>
      rw [ed] at e
      cases e
    | some as =>
      rw [ed] at e
      have e : zipF as = some ds := e
      unfold zipF at e
      split at e
      · cases e
        cases rvs.datas ed with
        | cons i1 r => cases r with
          | cons i2 r =>
            cases r
            cases i1 with
            | @tup a xs _ ha ia => cases i2 with
              | @tup b ys _ hb ib =>
                refine ⟨a, b, xs, ys, rfl, .inr ⟨ha.sq, hb.sq, Aft.ok s1.good h1 _ (wk_pair (G := fun H => SqT X.K H a xs ∧ SqT X.K H b ys) (walk_zipTQ ?_) (fun H' g => ⟨g.t ha.sq, g.t hb.sq⟩) (zip_hi ia ib))⟩⟩
                rw [zipD_len, ia.len, ib.len]
      · cases e
        cases rvs.datas ed with
        | cons i1 r => cases r with
          | cons i2 r =>
            cases r
            cases i1 with
            | @lst a xs _ ha ia => cases i2 with
              | @lst b ys _ hb ib =>
                refine ⟨a, b, xs, ys, rfl, .inl ⟨ha.sq, hb.sq, Aft.ok s1.good h1 _ (wk_pair (G := fun H => SqL X.K H a xs ∧ SqL X.K H b ys) (walk_zip ?_) (fun H' g => ⟨(g.l ha).sq, (g.l hb).sq⟩) (zip_hi ia ib))⟩⟩
                rw [zipD_len, ia.len, ib.len]
      · cases e
/-! ### dict([(k, v), ..]) -/
def keyOf : D → Option Key
  | .int i => some (.inl i)
  | .str x => some (.inr x)
  | _ => none
def putG (kvs : List (Key × D)) (k : Key) (v : D) : List (Key × D) := if (kvs.any fun kv => decide (kv.1 = k)) = true then kvs.map (fun kv => if kv.1 = k then (kv.1, v) else kv) else kvs ++ [(k, v)]
def pairsD : List D → Option (List (Key × D))
  | [] => some []
  | .tuple [k, v] :: ds => match keyOf k, pairsD ds with
    | some k, some r => some ((k, v) :: r)
    | _, _ => none
  | _ :: _ => none
def mergeG (kvs more : List (Key × D)) : List (Key × D) := more.foldl (fun acc kv => putG acc kv.1 kv.2) kvs
def toKV (kvs : List (Key × D)) : List (D × D) := kvs.map fun kv => (keyD kv.1, kv.2)
inductive ImG (K : PySem.W.Frag) (H : Hp) : List (Key × V) → List (Key × D) → Prop
  | nil : ImG K H [] []
  | cons {k : Key} {v : V} {d : D} {r : List (Key × V)} {ds : List (Key × D)} : Im K H v d → ImG K H r ds → ImG K H ((k, v) :: r) ((k, d) :: ds)
theorem ImG.kv {K : PySem.W.Frag} {H : Hp} : ∀ {kvs : List (Key × V)} {ds : List (Key × D)}, ImG K H kvs ds → ImKV K H kvs (toKV ds)
  | _, _, .nil => .nil
  | _, _, .cons h r => .cons h (ImG.kv r)
theorem ImG.any {K : PySem.W.Frag} {H : Hp} {k : Key} : ∀ {kvs : List (Key × V)} {ds : List (Key × D)}, ImG K H kvs ds → (kvs.any fun kv => decide (kv.1 = k)) = ds.any fun kv => decide (kv.1 = k)
  | _, _, .nil => rfl
  | _, _, .cons h r => by rw [List.any_cons, List.any_cons, ImG.any r]
theorem ImG.repl {K : PySem.W.Frag} {H : Hp} {k : Key} {v : V} {d : D} (hv : Im K H v d) : ∀ {kvs : List (Key × V)} {ds : List (Key × D)}, ImG K H kvs ds → ImG K H (kvs.map fun kv => if kv.1 = k then (kv.1, v) else kv) (ds.map fun kv => if kv.1 = k then (kv.1, d) else kv)
  | _, _, .nil => .nil
  | _, _, @ImG.cons _ _ k1 _ _ _ _ h r => by
    rw [List.map_cons, List.map_cons]
    by_cases e : k1 = k
    · rw [if_pos e, if_pos e]
      exact .cons hv (ImG.repl hv r)
    · rw [if_neg e, if_neg e]
      exact .cons h (ImG.repl hv r)
theorem ImG.snoc {K : PySem.W.Frag} {H : Hp} {k : Key} {v : V} {d : D} (hv : Im K H v d) : ∀ {kvs : List (Key × V)} {ds : List (Key × D)}, ImG K H kvs ds → ImG K H (kvs ++ [(k, v)]) (ds ++ [(k, d)])
  | _, _, .nil => .cons hv .nil
  | _, _, .cons h r => .cons h (ImG.snoc hv r)
theorem ImG.put {K : PySem.W.Frag} {H : Hp} {k : Key} {v : V} {d : D} (hv : Im K H v d) {kvs : List (Key × V)} {ds : List (Key × D)} (r : ImG K H kvs ds) : ImG K H (putK kvs k v) (putG ds k d) := by
  unfold putK putG
  rw [r.any]
  split
  · exact r.repl hv
  · exact r.snoc hv
theorem ImG.same {K : PySem.W.Frag} {H H' : Hp} (s : Same H H') : ∀ {kvs : List (Key × V)} {ds : List (Key × D)}, ImG K H kvs ds → ImG K H' kvs ds
  | _, _, .nil => .nil
  | _, _, .cons h r => .cons (h.same s) (ImG.same s r)
theorem key_vw {K : PySem.W.Frag} {H : Hp} {v : V} {d : D} {k : Key} (h : Im K H v d) (e : keyOf d = some k) : v = kV k := by
  cases h <;> cases e <;> rfl
@[simp] def fDict (m : Mo (List R)) : Mo Ob := fun ρ => (m ρ).bind fun rs ρ1 => match looks ρ1 rs with
  | some [.list ds] => match pairsD ds with
    | some kd => .ok (.dk (toKV (mergeG [] kd))) ρ1
    | none => .no
  | _ => .no
end
end Q
namespace Q
open PySem PySem.Spec PyProof.Rows L2 Gd
variable [Tbl]
/-! ### t[::-1] -/
section
variable {prog : Program} {w : World} {A : Around} {E : Value → Shared → Prop} {s : Shared}
end
section
variable {X : Cx}
def tRevT (K : PySem.W.Frag) (te : TE) : TE := fun σ H Q => te σ H fun x H1 => ∃ a xs, x = .ref a ∧ SqT K H1 a xs ∧ ∀ p o, H1 p = none → o.dict = none → Q (.ref p) (upd H1 p (.frz o (.tup xs.reverse)))
end
end Q
namespace Q
open PySem PySem.Spec PyProof.Rows L2 Gd
variable [Tbl]
section
variable {X : Cx} {n : Nat} {W : XW}
/-! ### xs[i] = v -/
@[simp] def setIx (i : Nat) (x : D) (j : R) (ρ : Ev) : Rt Out := match look ρ j, ρ[i]? with
  | some (.int k), some (.own (.lst ds)) => match ixN ds.length k with
    | some m => .ok .nx (ρ.set i (.own (.lst (ds.set m x))))
    | none => .no
  | _, _ => .no
@[simp] def bSetIx (i : Nat) (f : Mo R) (g : Mo R) : Mo Out := fun ρ => (f ρ).bind fun r ρ1 => match r, ρ1[i]? with
  | .d x, some (.own (.lst _)) => (g ρ1).bind fun j ρ2 => setIx i x j ρ2
  | _, _ => .no
theorem ImL.set {K : PySem.W.Frag} {H : Hp} {x : V} {d : D} (hx : Im K H x d) : ∀ {xs : List V} {ds : List D} (i : Nat), ImL K H xs ds → ImL K H (xs.set i x) (ds.set i d)
  | _, _, _, .nil => .nil
  | _, _, 0, .cons _ r => .cons hx r
  | _, _, i + 1, .cons h r => .cons h (ImL.set hx i r)
theorem xs_setix {i : Nat} {x : Str} {e j : Expr} {p p2 pos : Pos} {f g : Mo R} (hx : PE X (.Name x p) (tVar i)) (he : XD X n W e f) (hj : XD X n W j g)
    (ha : ∀ v, assign (.Subscript (.Name x p) j p2) X.env v = (do
      let ov ← holding [v] (eval (.Name x p) X.env)
      let iv ← holding [v, ov] (eval j X.env)
      standAt p2
      holding [v, ov, iv] (setItem ov iv v)
      release [v, ov, iv] []) := by intro _; rfl)
    (hs : swapsWithSole [.Subscript (.Name x p) j p2] e pos.line X.env = pure false := by rfl) (hw : swappedStores [.Subscript (.Name x p) j p2] e X.env = pure none := by rfl)
    (h1 : (assignEach [.Subscript (.Name x p) j p2] X.env).map (·.2) = [assign (.Subscript (.Name x p) j p2) X.env] := by rfl) :
    XS X n W (.Assign [.Subscript (.Name x p) j p2] e pos) (bSetIx i f g) := weakS (ps_asg he (pg_sub hx hj set_list ha) hs hw h1) fun E σ H ⟨ρ, G, h⟩ => by
  refine ⟨ρ, G, (AftS.bind h).mono fun r ρ1 H1 s1 h1 v rv => ?_⟩
  cases rv with
  | v _ => exact h1.elim
  | @d x im =>
    split at h1
    · next x' ds0 er e0 =>
      cases er
      obtain ⟨p0, xs0, f1, f2, _⟩ := own_lst s1.good e0
      refine ⟨_, f1, ρ1, s1.good, (AftS.bind h1).mono fun jr ρ2 H2 s2 h2 w rw' => ?_⟩
      unfold setIx at h2
      split at h2
      · next k ds ek eo =>
        split at h2
        · next m em =>
          obtain ⟨q0, xs, g1, g2, il⟩ := own_lst s2.good eo
          rw [f1] at g1
          cases g1
          have ix := im.grow (s2.grow s1.good)
          refine ⟨p0, xs, k, m, rfl, (rw'.see s2.good ek).int, g2, by rw [il.len]; exact em, ?_⟩
          exact h2 σ _ (Stp.write (n := n) s2.good eo f1 g2 (.lst il) (h' := .lst (xs.set m v)) (.lst (il.set ix m)))
        · exact h2.elim
      · exact h2.elim
    · exact h1.elim
/-! ### t[::-1], z * n -/
@[simp] def revF : D → Option D
  | .tuple ds => some (.tuple ds.reverse)
  | _ => none
@[simp] def fRev (f : Mo R) : Mo Ob := fun ρ => (f ρ).bind fun r ρ1 => asL ((look ρ1 r).bind fun d => match d with
  | .list ds => some ds.reverse
  | _ => none) ρ1
end
end Q
namespace Q
open PySem PySem.Spec PyProof.Rows L2 Gd
variable [Tbl]
theorem units65 {k : Nat} {A : Around} (r : Room k A) : A.units + 65 < cLine := by
  have := r.un
  omega
section
variable {X : Cx} {n : Nat} {W : XW}
@[simp] def fNewD : Mo Ob := fun ρ => .ok (.dk []) ρ
theorem xf_newD {pos : Pos} : XF X n W (.Dict [] [] pos) fNewD := weakE pe_dnewK fun σ H Q ⟨ρ, G, h⟩ => fun p hp => h _ (Stp.same G (same_upd hp)) p _ hp upd_same (.dk .nil) (new_own G hp)
/-! ### z * k -/
theorem op_rep_str : OpR X (binaryOp .Mult) (fun x y H Q => ∃ z n, x = .str z ∧ y = .int n ∧ MulOk z n ∧ Q (.str (Txt.mul z n)) H) := by
  rintro pins s σ H x y v u Q I rx ry ⟨z, n, rfl, rfl, ok, q⟩
  obtain ⟨t, rfl⟩ := rx
  obtain ⟨t', rfl⟩ := ry
  exact SB.mul ok fun _ k => ⟨.str _, H, I.tok _, ⟨_, rfl⟩, q⟩
theorem mulOk_of {z : Str} {k : Int} (h : 0 ≤ k ∧ k ≤ 1000 ∧ z.length ≤ 1000) : MulOk z k := by
  obtain ⟨h0, h1, h2⟩ := h
  have m : (z.length : Int) * k ≤ 1000 * 1000 := Int.mul_le_mul (by omega) h1 h0 (by decide)
  refine ⟨by simp; omega, fun a b c => ?_, fun a b => ?_⟩
  · have : (z.length : Int) ≤ (2 ^ 63 - 1) / k := Int.le_ediv_of_mul_le (by omega) (by omega)
    omega
  · have e : ((z.length * k.toNat : Nat) : Int) = (z.length : Int) * k := by
      rw [Int.natCast_mul, Int.toNat_of_nonneg h0]
    have : z.length * k.toNat ≤ 1000000 := by omega
    have e2 : sizeLine = 16777216 := by decide
    show Builtin.Str.tooLong _ = false
    unfold Builtin.Str.tooLong
    simp
    omega
def abcS : Str := "abcdefghijklmnopqrstuvwxyz"
def repSD : D → D → Option D
  | .str z, .int k => if 0 ≤ k ∧ k ≤ 1000 ∧ z.length ≤ 1000 then some (.str (Txt.mul z k)) else none
  | _, _ => none
theorem o_repS : OpR X (binaryOp .Mult) (rQ2 X.K repSD) := by
  rintro pins s σ H x y v u Q I rx ry ⟨a, b, d, ha, hb, e, q⟩
  unfold repSD at e
  split at e
  · split at e
    · next c =>
      cases e
      exact op_rep_str pins s σ H x y v u Q I rx ry ⟨_, _, ha.str, hb.int, mulOk_of c, q _ H (Same.refl H) (.str _)⟩
    · cases e
  · cases e
noncomputable def mulA : D → D → Option D
  | .str z, b => repSD (.str z) b
  | a, b => mulD a b
theorem o_mulA : OpR X (binaryOp .Mult) (rQ2 X.K mulA) := by
  rintro pins s σ H x y v u Q I rx ry ⟨a, b, d, ha, hb, e, q⟩
  cases a with
  | str z => exact o_repS pins s σ H x y v u Q I rx ry ⟨_, b, d, ha, hb, e, q⟩
  | _ => exact o_mul pins s σ H x y v u Q I rx ry ⟨_, b, d, ha, hb, e, q⟩
end
end Q
namespace Q
open PySem PySem.Spec PyProof.Rows L2 Gd
variable [Tbl]
section
variable {X : Cx} {n : Nat} {W : XW}
/-! ### a statement that is not reached -/
@[simp] def bNo : Mo Out := fun _ => .no
/-! ### a < b < c -/
def chainK (F : D → D → Option D) (b : R) (h : Mo R) (r1 : Option D) : Mo R := fun ρ => match r1 with
  | some (.bool k) => if k = true then (h ρ).bind fun c ρ3 => lift (F2 F ρ3 b c) ρ3 else .ok (.d (.bool false)) ρ
  | _ => .no
def eChain (F G : D → D → Option D) (f g h : Mo R) : Mo R := fun ρ => (f ρ).bind fun a ρ1 => (g ρ1).bind fun b ρ2 => chainK G b h (F2 F ρ2 a b) ρ2
theorem chain_run {r r' : R2} {F G : D → D → Option D} {f g h : Mo R} (hF : Op2 X.K r F) (hG : Op2 X.K r' G) (σ : St) (H : Hp) (Q : VK) (hh : tX X.K n W (eChain F G f g h) σ H Q) : tChain r r' (tX X.K n W f) (tX X.K n W g) (tX X.K n W h) σ H Q := by
  obtain ⟨ρ, G0, hh⟩ := hh
  refine ⟨ρ, G0, (Aft.bind hh).mono fun a ρ1 H1 s1 h1 v rv => ⟨ρ1, s1.good, (Aft.bind h1).mono fun b ρ2 H2 s2 h2 u ru => ?_⟩⟩
  have rv2 := rv.grow (s2.grow s1.good)
  cases e1 : F2 F ρ2 a b with
  | none =>
    rw [e1] at h2
    exact h2.elim
  | some d =>
    rw [e1] at h2
    have e2 := e1
    unfold F2 at e2
    split at e2
    · next x y ex ey =>
      cases d with
      | bool k =>
        refine hF v u x y (.bool k) H2 _ (rv2.see s2.good ex) (ru.see s2.good ey) e2 fun z H3 s3 iz => ?_
        cases iz
        refine ⟨k, rfl, ?_⟩
        have st := Stp.same (n := n) s2.good s3
        cases k with
        | false =>
          have h2 : Aft X.K n W H2 σ ρ2 (.ok (.d (.bool false)) ρ2) fun r _ H' => ∀ v, RR X.K H' σ v r → Q v H' := h2
          exact iteF (h2 H3 st _ (.d (.bl false)))
        | true =>
          have h2 : Aft X.K n W H2 σ ρ2 ((h ρ2).bind fun c ρ3 => lift (F2 G ρ3 b c) ρ3) fun r _ H' => ∀ v, RR X.K H' σ v r → Q v H' := h2
          refine iteT ⟨ρ2, st.good, ?_⟩
          have h3 : Aft X.K n W H3 σ ρ2 ((h ρ2).bind fun c ρ3 => lift (F2 G ρ3 b c) ρ3) fun r _ H' => ∀ v, RR X.K H' σ v r → Q v H' := by
            generalize (h ρ2).bind (fun c ρ3 => lift (F2 G ρ3 b c) ρ3) = z at h2
            cases z with
            | no => exact h2
            | ok a ρ' => exact fun H' s => h2 H' (st.trans s)
            | ex c d ρ' => exact fun H' s => h2 H' (st.trans s)
          refine (Aft.bind h3).mono fun c ρ3 H4 s4 h4 w rw' => ?_
          obtain ⟨d2, e3, q⟩ := Aft.out s4.good h4
          unfold F2 at e3
          split at e3
          · next x' y' ex' ey' => exact hG u w x' y' d2 H4 Q (((ru.grow (Grow.same s3)).grow (s4.grow st.good)).see s4.good ex') (rw'.see s4.good ey') e3 q
          · cases e3
      | _ => exact h2.elim
    · cases e2
theorem xd_chain {a b c : Expr} {op op' : CmpOp} {pos : Pos} {r r' : R2} {F G : D → D → Option D} {f g h : Mo R} (ho : OpR X (compareOp op) r) (hF : Op2 X.K r F) (ho' : OpR X (compareOp op') r') (hG : Op2 X.K r' G) (ha : XD X n W a f) (hb : XD X n W b g) (hc : XD X n W c h)
    (hm : lastMarks [op, op'] [b, c] = false := by with_unfolding_all rfl) : XD X n W (.Compare a [op, op'] [b, c] pos) (eChain F G f g h) := weakE (pe_chain ho ho' ha hb hc hm) (chain_run hF hG)
theorem xb_chain {a b c : Expr} {op op' : CmpOp} {pos : Pos} {r r' : R2} {F G : D → D → Option D} {f g h : Mo R} (ho : OpR X (compareOp op) r) (hF : Op2 X.K r F) (ho' : OpR X (compareOp op') r') (hG : Op2 X.K r' G) (ha : XD X n W a f) (hb : XD X n W b g) (hc : XD X n W c h)
    (hm : lastMarks [op, op'] [b, c] = false := by with_unfolding_all rfl) : XB X n W (.Compare a [op, op'] [b, c] pos) (asB (eChain F G f g h)) := weakT (pt_chain ho ho' ha hb hc hm) fun σ H Q hh => chain_run hF hG σ H _ (asB_run hh)
/-! ### numbers of any kind -/
def numD : D → Option Int
  | .int i => some i
  | .bool b => some (if b = true then 1 else 0)
  | _ => none
def addAny (a b : D) : Option D := (addD a b).or (match numD a, b with
  | some i, .int j => some (.int (i + j))
  | _, _ => none)
def subAny (a b : D) : Option D := match numD a, b with
  | some i, .int j => some (.int (i - j))
  | _, _ => none
/-- str of a number -/
noncomputable def strNum : List D → Option D
  | [.int i] => if cb (i.natAbs.log2 < 1920) = true then some (.str (toString i : String)) else none
  | [.bool b] => some (.str (if b then "True" else "False" : String))
  | _ => none
/-! ### t != () -/
def emptyD : D → Option Bool
  | .tuple ds => some ds.isEmpty
  | _ => none
def nilD : D → Bool
  | .tuple [] => true
  | _ => false
def neAny (a b : D) : Option D := if nilD b = true then (emptyD a).map fun r => .bool (!r) else neF a b
/-! ### upper -/
def upperD : D → Option D
  | .str z => if z.length ≤ 5592405 then some (.str (Txt.upper z)) else none
  | _ => none
/-! ### a tuple of one thing, so many times -/
def repTD : D → D → Option D
  | .tuple (d :: ds), .int k => if 0 ≤ k ∧ k ≤ 1000 ∧ ds.length < 1000 then some (.tuple (List.replicate k.toNat (d :: ds)).flatten) else none
  | _, _ => none
/-! ### t.index(x), texts -/
def indexD : D → D → Option D
  | .tuple ds, .str z => (strsD ds).bind fun ns => if z ∈ ns then some (.int (ns.idxOf z : Nat)) else none
  | _, _ => none
def isTup : D → Bool
  | .tuple _ => true
  | _ => false
@[simp] def eIndex (f g : Mo R) : Mo R := fun ρ => (f ρ).bind fun a ρ1 => match a with
  | .d x => if isTup x = true then (g ρ1).bind fun b ρ2 => lift ((look ρ2 b).bind (indexD x)) ρ2 else .no
  | .v _ => .no
end
end Q
namespace Q
open PySem PySem.Spec PyProof.Rows L2 Gd
variable [Tbl]
/-! ### zip of a list and a tuple, in either sequence -/
/-- a tuple, or a list -/
def SqB : Bool → PySem.W.Frag → Hp → Addr → List V → Prop
  | true, K, H, a, xs => SqT K H a xs
  | false, K, H, a, xs => SqL K H a xs
def ItB : Bool → Heap → Addr → Addr → Nat → Prop
  | true, h, it, l, i => h.IsTupleIter it l i
  | false, h, it, l, i => h.IsListIter it l i
def SrcB : Bool → Heap → Addr → Array Value → Prop
  | true, h, l, items => h.IsTuple l items
  | false, h, l, items => h.IsList l items
def begB : Bool → Addr → Obj
  | true, l => { cls := .type "tuple_iterator", data := .fields #[.ref l, .int 0 0] }
  | false, l => { cls := .type "list_iterator", data := .fields #[.ref l, .int 0 0] }
section
variable {X : Cx} {pins : List (Addr × Obj)} {σ : L2.St} {H : Hp} {s : Shared}
end
def ItzM (b1 b2 : Bool) (K : PySem.W.Frag) (a b : Addr) : It :=
  ⟨fun i H => ∃ (xs ys : List V) (x y : V), SqB b1 K H a xs ∧ SqB b2 K H b ys ∧ xs[i]? = some x ∧ ys[i]? = some y,
    fun i H v H' => ∃ T x y, v = .ref T ∧ H T = none ∧ H' = upd H T (.tup [x, y]) ∧ (∀ xs, SqB b1 K H a xs → xs[i]? = some x) ∧ ∀ ys, SqB b2 K H b ys → ys[i]? = some y,
    fun i H => ∃ xs ys : List V, SqB b1 K H a xs ∧ SqB b2 K H b ys ∧ i = min xs.length ys.length⟩
def iZipM (K : PySem.W.Frag) (ta : TA) : TI := fun σ H R => ta σ H fun vs H1 => ∃ b1 b2 a b xs ys, vs = [.ref a, .ref b] ∧ SqB b1 K H1 a xs ∧ SqB b2 K H1 b ys ∧ R (ItzM b1 b2 K a b) H1
section
variable {X : Cx} {n : Nat} {W : XW}
@[simp] def zipM : List D → Option (List D)
  | [.list a, .tuple b] => some (zipD a b)
  | [.tuple a, .list b] => some (zipD a b)
  | [.tuple a, .tuple b] => some (zipD a b)
  | [.list a, .list b] => some (zipD a b)
  | _ => none
end
end Q
namespace Q
open PySem PySem.Spec PyProof.Rows L2 Gd
variable [Tbl]
section
variable {X : Cx} {n : Nat} {W : XW}
/-! ### d[k], k in d -/
def lookKV (ds : List (D × D)) (k : Key) : Option D := (ds.find? fun q => decide (keyOf q.1 = some k)).map (·.2)
def keysOk (ds : List (D × D)) : Bool := ds.all fun q => (keyOf q.1).isSome
def getK : D → D → Option D
  | .dict ds, y => if keysOk ds = true then (keyOf y).bind (lookKV ds) else none
  | _, _ => none
def inK : D → D → Option D
  | y, .dict ds => if keysOk ds = true then (keyOf y).map fun k => .bool (lookKV ds k).isSome else none
  | _, _ => none
def ninK : D → D → Option D
  | y, .dict ds => if keysOk ds = true then (keyOf y).map fun k => .bool (!(lookKV ds k).isSome) else none
  | _, _ => none
theorem keyOf_D (k : Key) : keyOf (keyD k) = some k := by cases k <;> rfl
theorem key_of_vw {K : PySem.W.Frag} {H : Hp} {v : V} {d : D} {k : Key} (h : Vw K H v d) (e : keyOf d = some k) : v = kV k := by
  cases h with
  | im h => exact key_vw h e
  | lst _ _ => cases e
  | dic _ _ => cases e
theorem look_im {K : PySem.W.Frag} {H : Hp} {k : Key} : ∀ {kvs : List (Key × V)} {ds : List (D × D)}, ImKV K H kvs ds → (∀ d, lookKV ds k = some d → ∃ v, valV kvs k = some v ∧ Im K H v d) ∧ (lookKV ds k).isSome = (valV kvs k).isSome
  | _, _, .nil => ⟨fun d e => (by cases e), rfl⟩
  | _, _, @ImKV.cons _ _ k1 v r d ds h t => by
    have ih := look_im (k := k) t
    have e1 : lookKV ((keyD k1, d) :: ds) k = if k1 = k then some d else lookKV ds k := by
      unfold lookKV
      rw [List.find?_cons, keyOf_D]
      by_cases e : k1 = k
      · subst e
        simp
      · have e' : ¬ some k1 = some k := fun q => e (Option.some.inj q)
        simp [e]
    have e2 : valV ((k1, v) :: r) k = if k1 = k then some v else valV r k := by
      unfold valV
      rw [List.find?_cons]
      by_cases e : k1 = k
      · simp [e]
      · simp [e]
    rw [e1, e2]
    by_cases e : k1 = k
    · rw [if_pos e, if_pos e]
      exact ⟨fun d' q => by
        cases q
        exact ⟨v, rfl, h⟩, rfl⟩
    · rw [if_neg e, if_neg e]
      exact ih
theorem keys_no {ds : List (D × D)} (h : keysOk ds = true) : (∀ d, ds ≠ [(.none, d)]) ∧ ∀ a b, ds ≠ [(.bool true, a), (.bool false, b)] := by
  refine ⟨fun d e => ?_, fun a b e => ?_⟩
  · subst e
    cases h
  · subst e
    cases h
theorem o_ninK (hu : X.A.units + 65 < cLine) : OpR X (compareOp .NotIn) (rQ2 X.K ninK) := by
  rintro pins s σ H x y v u Q I rx ry ⟨a, b, d, ha, hb, e, q⟩
  unfold ninK at e
  split at e
  · next ds =>
    split at e
    · next hk =>
      obtain ⟨k, ek, rfl⟩ := Option.map_eq_some_iff.mp e
      obtain ⟨p, kvs, rfl, hr, im⟩ := vw_dict hb (keys_no hk).1 (keys_no hk).2
      cases ry
      have el := (look_im (k := k) im).2
      refine d_notIn (o := valV kvs k) (Nat.lt_of_le_of_lt (Nat.add_le_add_left (by decide) _) hu) I (.inl ⟨kvs, k, hr, key_of_vw ha ek, rfl⟩) rx fun s' I' => ?_
      rw [← el]
      exact ⟨.bl _, H, I', rfl, q _ H (Same.refl H) (.bl _)⟩
    · cases e
  · cases e
end
end Q
namespace Q
open PySem PySem.Spec PyProof.Rows L2 Gd PySem.MeetsSeq PySem.SeqAt
variable [Tbl]
def dctIn : D → D → Option Bool
  | .dict ds, .tuple ys => if keysOk ds = true ∧ (strsD ys).isSome = true then some false else none
  | .dict ds, .list ys => if keysOk ds = true ∧ (strsD ys).isSome = true then some false else none
  | .str z, .tuple ys => (strsD ys).map fun ns => ns.contains z
  | .str z, .list ys => (strsD ys).map fun ns => ns.contains z
  | _, _ => none
def hasS (z : Str) : Value → Bool
  | .str a _ => a == z
  | _ => false
def inAny (x y : D) : Option D := ((inD x y).or (dctIn x y)).map .bool
def ninAny (x y : D) : Option D := ((inD x y).or (dctIn x y)).map fun r => .bool (!r)
section
variable {X : Cx}
end
end Q
namespace Q
open PySem PySem.Spec PyProof.Rows L2 Gd
variable [Tbl]
/-! ### repr of data whose dicts are empty -/
mutual
def nilDs : D → Bool
  | .none => true
  | .bool _ => true
  | .int _ => true
  | .str _ => true
  | .list xs => nilDsL xs
  | .tuple xs => nilDsL xs
  | .dict kvs => kvs.isEmpty
def nilDsL : List D → Bool
  | [] => true
  | x :: xs => nilDs x && nilDsL xs
end
mutual
/-- what stands in the heap; a dict is empty and not the modules' own -/
inductive Rn (h : Heap) : Value → D → Prop
  | non : Rn h .none .none
  | bl (b : Bool) : Rn h (.bool b) (.bool b)
  | int (i : Int) (t : Tok) : Rn h (.int i t) (.int i)
  | str (x : Str) (t : Tok) : Rn h (.str x t) (.str x)
  | lst {a : Addr} {o : Obj} {vs : Array Value} {n : Nat} {xs : List D} : h.get? a = some o → o.cls = .type "list" → o.data = .seq vs n → RnL h vs.toList xs → Rn h (.ref a) (.list xs)
  | tup {a : Addr} {o : Obj} {vs : Array Value} {n : Nat} {xs : List D} : h.get? a = some o → o.cls = .type "tuple" → o.data = .seq vs n → RnL h vs.toList xs → Rn h (.ref a) (.tuple xs)
  | dct {a : Addr} {o : Obj} {n : Nat} : h.get? a = some o → o.cls = .type "dict" → o.data = .dict #[] n → (a == sysModules) = false → Rn h (.ref a) (.dict [])
inductive RnL (h : Heap) : List Value → List D → Prop
  | nil : RnL h [] []
  | cons {v : Value} {vs : List Value} {d : D} {ds : List D} : Rn h v d → RnL h vs ds → RnL h (v :: vs) (d :: ds)
end
mutual
theorem Rn.reads {h : Heap} : ∀ {v : Value} {d : D}, Rn h v d → ∃ as, Reads h v d as
  | _, _, .non => ⟨_, .none⟩
  | _, _, .bl b => ⟨_, .bool b⟩
  | _, _, .int i t => ⟨_, .int i t⟩
  | _, _, .str x t => ⟨_, .str x t⟩
  | _, _, .lst h1 h2 h3 h4 => let ⟨_, q⟩ := RnL.reads h4; ⟨_, .list h1 h2 h3 q⟩
  | _, _, .tup h1 h2 h3 h4 => let ⟨_, q⟩ := RnL.reads h4; ⟨_, .tuple h1 h2 h3 q⟩
  | _, _, .dct h1 h2 h3 _ => ⟨_, .dict h1 h2 h3 .nil .nil⟩
theorem RnL.reads {h : Heap} : ∀ {vs : List Value} {ds : List D}, RnL h vs ds → ∃ as, ReadsAll h vs ds as
  | _, _, .nil => ⟨_, .nil⟩
  | _, _, .cons x r => let ⟨_, p⟩ := Rn.reads x; let ⟨_, q⟩ := RnL.reads r; ⟨_, .cons p q⟩
end
section
variable {P : Program} {w : World} {h : Heap}
/-- the text of a thing, and the things inside it -/
def Tells (P : Program) (w : World) (h : Heap) (v : Value) (d : D) : Prop := ∃ bs, ReadAtMost h d.depth bs ∧ ReprK P w bs h d.depth v d.shown
def TellsL (P : Program) (w : World) (h : Heap) (vs : List Value) (ds : List D) : Prop := ∃ bs, ReadAtMost h (PyData.depthAll ds) bs ∧ ReprAllK P w bs h (PyData.depthAll ds) vs (PyData.shownAll ds)
theorem no_atMost {n : Nat} : ReadAtMost h n [] := fun _ z => nomatch z
mutual
theorem Rn.tells : ∀ {v : Value} {d : D}, Rn h v d → d.showable = true → d.shown.length ≤ sizeLine → Tells P w h v d
  | _, _, .non, _, _ => ⟨[], no_atMost, ReprK.of_is ReprIs.none _ _ _⟩
  | _, _, .bl b, _, _ => ⟨[], no_atMost, ReprK.of_is (ReprIs.bool b) _ _ _⟩
  | _, _, .int i t, hs, _ => ⟨[], no_atMost, ReprK.of_is (ReprIs.int t (of_decide_eq_true hs)) _ _ _⟩
  | _, _, .str x t, _, hz => ⟨[], no_atMost, ReprK.of_is (ReprIs.str x t hz) _ _ _⟩
  | _, _, .lst (a := a) (vs := vs) (xs := xs) h1 h2 h3 h4, hs, hz => by
    have hz : (listText (PyData.shownAll xs)).length ≤ sizeLine := hz
    obtain ⟨bs, hb, hk⟩ := RnL.tells h4 hs fun t ht => Nat.le_trans (listText_mem_le ht) hz
    obtain ⟨_, r⟩ := Rn.reads (Rn.lst h1 h2 h3 h4)
    have dd : PyData.depthAll xs < (PyData.list xs).depth := Nat.lt_succ_self _
    have na := not_mem_of_deeper r dd hb
    refine ⟨a :: bs, ReadAtMost.cons r (Nat.le_of_lt dd) hb, ?_⟩
    show ReprK P w _ h (PyData.depthAll xs + 1) _ (listText (PyData.shownAll xs))
    obtain ⟨l⟩ := vs
    cases l with
    | nil =>
      cases h4
      exact ReprK.listEmpty h1 h2 h3
    | cons x l => exact ReprK.list h1 h2 h3 na (by simpa using hk.length_eq) fun i y e => hk.item i y (by simpa using e)
  | _, _, .tup (a := a) (xs := xs) h1 h2 h3 h4, hs, hz => by
    have hz : (tupleText (PyData.shownAll xs)).length ≤ sizeLine := hz
    obtain ⟨bs, hb, hk⟩ := RnL.tells h4 hs fun t ht => Nat.le_trans (tupleText_mem_le ht) hz
    obtain ⟨_, r⟩ := Rn.reads (Rn.tup h1 h2 h3 h4)
    have dd : PyData.depthAll xs < (PyData.tuple xs).depth := Nat.lt_succ_self _
    exact ⟨a :: bs, ReadAtMost.cons r (Nat.le_of_lt dd) hb, ReprK.tuple h1 h2 h3 (not_mem_of_deeper r dd hb) hk⟩
  | _, _, .dct (a := a) h1 h2 h3 h4, _, _ => by
    obtain ⟨_, r⟩ := Rn.reads (Rn.dct h1 h2 h3 h4)
    exact ⟨[a], ReadAtMost.cons (n := 0) r (Nat.zero_le _) no_atMost, ReprK.dict (d := 0) h1 h2 h3 h4 (fun z => nomatch z) .nil⟩
theorem RnL.tells : ∀ {vs : List Value} {ds : List D}, RnL h vs ds → PyData.showableAll ds = true → (∀ t ∈ PyData.shownAll ds, t.length ≤ sizeLine) → TellsL P w h vs ds
  | _, _, .nil, _, _ => ⟨[], no_atMost, .nil⟩
  | _, _, .cons (d := d) (ds := ds) x r, hs, hz => by
    have hs : (d.showable && PyData.showableAll ds) = true := hs
    rw [Bool.and_eq_true] at hs
    have hz : ∀ t ∈ d.shown :: PyData.shownAll ds, t.length ≤ sizeLine := hz
    obtain ⟨b1, m1, k1⟩ := Rn.tells x hs.1 (hz _ List.mem_cons_self)
    obtain ⟨b2, m2, k2⟩ := RnL.tells r hs.2 fun t ht => hz t (List.mem_cons_of_mem _ ht)
    have l1 : d.depth ≤ PyData.depthAll (d :: ds) := Nat.le_max_left _ _
    have l2 : PyData.depthAll ds ≤ PyData.depthAll (d :: ds) := Nat.le_max_right _ _
    exact ⟨b1 ++ b2, (m1.mono l1).append (m2.mono l2), .cons ((k1.more fun b q => List.mem_append_left _ q).level_le l1) (k2.more_le (fun b q => List.mem_append_right _ q) l2)⟩
end
end
section
variable {X : Cx} {pins : List (Addr × Obj)} {σ : L2.St} {H : Hp} {s : Shared}
mutual
theorem Im.rn (I : Inv X pins σ H s) : ∀ {v : V} (d : D) {u : Value}, Im X.K H v d → nilDs d = true → RelV v u → Rn s.heap u d
  | _, .none, _, .non, _, r => by cases r; exact .non
  | _, .bool b, _, .bl _, _, r => by cases r; exact .bl b
  | _, .int i, _, .int _, _, r => by obtain ⟨t, rfl⟩ := r; exact .int i t
  | _, .str x, _, .str _, _, r => by obtain ⟨t, rfl⟩ := r; exact .str x t
  | _, .tuple ds, _, .tup h q, c, r => by
    cases r
    obtain ⟨its, rv, ⟨o, e, e2, n, e3⟩, _⟩ := I.tuple h.sq
    exact .tup e e2 e3 (by simpa using ImL.rn I ds q c rv)
  | _, .list ds, _, .lst h q, c, r => by
    cases r
    obtain ⟨its, rv, ⟨o, n, e, e2, _, e3⟩, _⟩ := I.list h.sq
    exact .lst e e2 e3 (by simpa using ImL.rn I ds q c rv)
  | _, .dict [], _, .dic h q, c, r => by
    cases r
    cases q
    obtain ⟨_, _, ns, vs, kv, d⟩ := I.hok _ _ h
    cases kv
    obtain ⟨o, es, ep, e, ex, hd, _, hl, _⟩ := d
    have : es = #[] := by
      apply Array.toList_inj.mp
      generalize es.toList = l at hl
      cases hl
      rfl
    subst this
    exact .dct e ex.1 hd ns
theorem ImL.rn (I : Inv X pins σ H s) : ∀ {vs : List V} (ds : List D) {us : List Value}, ImL X.K H vs ds → nilDsL ds = true → Vals vs us → RnL s.heap us ds
  | _, [], _, .nil, _, r => by cases r; exact .nil
  | _, d :: ds, _, .cons h q, c, r => by
    have c : (nilDs d && nilDsL ds) = true := c
    rw [Bool.and_eq_true] at c
    cases r with
    | cons r1 r2 => exact .cons (Im.rn I d h c.1 r1) (ImL.rn I ds q c.2 r2)
end
theorem Vw.rn {v : V} {d : D} {u : Value} (I : Inv X pins σ H s) (h : Vw X.K H v d) (c : nilDs d = true) (r : RelV v u) : Rn s.heap u d := by
  cases h with
  | im h => exact Im.rn I d h c r
  | lst e q =>
    cases r
    obtain ⟨its, rv, ⟨o, n, e, e2, _, e3⟩, _⟩ := I.list (.inl (.inl e))
    exact .lst e e2 e3 (by simpa using ImL.rn I _ q c rv)
  | dic e q =>
    rename_i kvs ds
    cases ds with
    | cons p t => cases c
    | nil =>
    cases r
    cases q
    obtain ⟨_, ns, vs, kv, d⟩ := I.hok _ _ e
    cases kv
    obtain ⟨o, es, ep, e, ex, hd, _, hl, _⟩ := d
    have : es = #[] := by
      apply Array.toList_inj.mp
      generalize es.toList = l at hl
      cases hl
      rfl
    subst this
    exact .dct e ex.1 hd ns
noncomputable def reprE : List D → Option D
  | [d] => if cb (d.showable = true ∧ nilDs d = true ∧ d.depth ≤ 60 ∧ d.shown.length ≤ sizeLine) = true then some (.str d.shown) else none
  | _ => none
end
end Q
namespace M
open PySem PySem.Spec PyProof.Rows L2 Gd
/-! ### len(set(t)), t a tuple of texts -/
/-- how many different texts there are, some seen before -/
def dcount : List Str → List Str → Nat
  | _, [] => 0
  | seen, x :: xs => (if seen.contains x = true then 0 else 1) + dcount (seen ++ [x]) xs
theorem dcount_le : ∀ (xs seen : List Str), dcount seen xs ≤ xs.length
  | [], _ => Nat.le_refl _
  | x :: xs, seen => by
    have h := dcount_le xs (seen ++ [x])
    show (if seen.contains x = true then 0 else 1) + dcount (seen ++ [x]) xs ≤ xs.length + 1
    split <;> omega
theorem dcount_snoc : ∀ (xs seen : List Str) (y : Str), dcount seen (xs ++ [y]) = dcount seen xs + (if (seen ++ xs).contains y = true then 0 else 1)
  | [], seen, y => by
    show (if seen.contains y = true then 0 else 1) + 0 = 0 + _
    rw [List.append_nil, Nat.zero_add, Nat.add_zero]
  | x :: xs, seen, y => by
    show (if seen.contains x = true then 0 else 1) + dcount (seen ++ [x]) (xs ++ [y]) = (if seen.contains x = true then 0 else 1) + dcount (seen ++ [x]) xs + _
    rw [dcount_snoc xs (seen ++ [x]) y, List.append_assoc]
    show _ = _ + (if (seen ++ ([x] ++ xs)).contains y = true then 0 else 1)
    omega
theorem dcount_iff : ∀ (xs seen : List Str), dcount seen xs = xs.length ↔ xs.Nodup ∧ ∀ x ∈ xs, x ∉ seen
  | [], _ => ⟨fun _ => ⟨List.nodup_nil, fun x hx => (nomatch hx)⟩, fun _ => rfl⟩
  | x :: xs, seen => by
    have h := dcount_iff xs (seen ++ [x])
    have l := dcount_le xs (seen ++ [x])
    show (if seen.contains x = true then 0 else 1) + dcount (seen ++ [x]) xs = xs.length + 1 ↔ _
    rw [List.nodup_cons, List.forall_mem_cons]
    constructor
    · intro e
      split at e
      · omega
      · rename_i n
        have n : x ∉ seen := fun z => n (List.contains_iff_mem.mpr z)
        obtain ⟨h1, h2⟩ := h.mp (by omega)
        refine ⟨⟨fun z => ?_, h1⟩, n, fun y hy z => h2 y hy (List.mem_append_left _ z)⟩
        exact h2 x z (List.mem_append_right _ (List.mem_singleton.mpr rfl))
    · rintro ⟨⟨h1, h2⟩, h3, h4⟩
      rw [if_neg (fun z => h3 (List.contains_iff_mem.mp z))]
      rw [h.mpr ⟨h2, fun y hy z => ?_⟩]
      · omega
      · rcases List.mem_append.mp z with z | z
        · exact h4 y hy z
        · rw [List.mem_singleton.mp z] at hy
          exact h1 hy
theorem dcount_all (xs : List Str) : decide (dcount [] xs = xs.length) = decide xs.Nodup := by
  rw [decide_eq_decide, dcount_iff]
  exact ⟨fun h => h.1, fun h => ⟨h, fun x _ z => (nomatch z)⟩⟩
section
variable {prog : Program} {w : World} {A : Around} {R : Result → Shared → Prop} {I : Addr} {fp wr : List Addr} {G : Array GenState → Array GenState → Prop} {n : Nat} {P : Nat → Value → Prop} {St : Nat → Shared → Prop}
theorem any_contains (l : List Str) (y : Str) : (l.any fun x => x == y) = l.contains y := by
  rw [Bool.eq_iff_iff, List.any_eq_true, List.contains_iff_mem]
  exact ⟨fun ⟨x, hx, e⟩ => by rw [← beq_iff_eq.mp e]; exact hx, fun h => ⟨y, h, beq_self_eq_true y⟩⟩
theorem loop_txt (W : WalksS prog w A.in1 I fp wr G n P St) (S : Addr) (hSf : S ∉ fp) (xs : List Str) (hsz : xs.length = n) (hb : n + 1 < scanBound)
    (hval : ∀ i v, P i v → ∃ t, v = .str (xs.getD i Str.empty) t) :
    ∀ (k i : Nat) (s : Shared), n - i = k → i ≤ n → St i s →
      s.heap.SetOf (PySem.strKind prog w) S (fun k' => (xs.take i).any (· == k')) (dcount [] (xs.take i)) →
      (∀ s', Moved (S :: wr) G s s' → s'.heap.SetOf (PySem.strKind prog w) S (fun k' => xs.any (· == k')) (dcount [] xs) → R (.ok (.ret .none)) s') →
      codeAny (model prog w) A (.builtin "set.update.loop" ⟨[.ref S, .ref I], []⟩) R s := by
  have hSw : S ∉ wr := fun h => hSf (W.sub _ h)
  have hsub : ∀ b ∈ wr, b ∈ S :: wr := fun b hb => List.mem_cons_of_mem _ hb
  intro k
  induction k with
  | zero =>
    intro i s hk hi hst hS hR
    have hin : i = n := by omega
    have et : xs.take i = xs := List.take_of_length_le (by omega)
    rw [et] at hS
    subst hin
    refine codeAny_builtin PyProof.Rows.F.entry_set_update_loop ?_
    rw [Around.under_plainId PyProof.Rows.F.plain_set_update_loop _]
    show wpAny _ A.in1 (pyNext (.ref I) >>= _) _ _ s
    refine wpAny_bind (W.done s _ _ hst fun s' hm => ?_)
    show wpAny _ A.in1 (ret Value.none) _ _ s'
    exact wpAny_pure (hR s' (hm.mono hsub) (by
      obtain ⟨o, es, ep, t, ho, rest⟩ := hS
      exact ⟨o, es, ep, t, hm.heap S _ hSw ho, rest⟩))
  | succ k ih =>
    intro i s hk hi hst hS hR
    have hlt : i < n := by omega
    refine codeAny_builtin PyProof.Rows.F.entry_set_update_loop ?_
    rw [Around.under_plainId PyProof.Rows.F.plain_set_update_loop _]
    show wpAny _ A.in1 (pyNext (.ref I) >>= _) _ _ s
    refine wpAny_bind (W.item i s _ _ hlt hst fun v s' hP hst' hm => ?_)
    obtain ⟨t, rfl⟩ := hval i v hP
    have hS' : s'.heap.SetOf (PySem.strKind prog w) S (fun k' => (xs.take i).any (· == k')) (dcount [] (xs.take i)) := by
      obtain ⟨o, es, ep, tb, ho, rest⟩ := hS
      exact ⟨o, es, ep, tb, hm.heap S _ hSw ho, rest⟩
    have hg : xs[i]? = some (xs.getD i Str.empty) := by
      rw [List.getD_eq_getElem?_getD, List.getElem?_eq_getElem (show i < xs.length by omega)]
      rfl
    generalize xs.getD i Str.empty = y at hg ⊢
    have et : xs.take (i + 1) = xs.take i ++ [y] := by
      rw [List.take_add_one, hg]
      rfl
    show wpAny _ A.in1 (holding [Value.str y t] (setAdd S (.str y t)) >>= _) _ _ s'
    refine wpAny_bind (wpAny_holding ?_)
    unfold setAdd
    refine wpAny_holding ?_
    refine wpAny_bind ((PySem.strKind prog w).pyHash (k := y) (strKind_is _ _ _ _) ?_)
    refine wpAny_setAddHashed_of (knd := PySem.strKind prog w) (s := { s' with toks := s'.toks + 1 }) (strKind_is _ _ _ _) rfl hS' (by
      have := dcount_le (xs.take i) []
      rw [List.length_take] at this
      omega) fun h' hsb hS2 => ?_
    have hSi : h'.SetOf (PySem.strKind prog w) S (fun k' => (xs.take (i + 1)).any (· == k')) (dcount [] (xs.take (i + 1))) := by
      refine SetOf_congr hS2 (fun k' => ?_) ?_
      · show ((xs.take i).any (· == k') || decide (k' = y)) = (xs.take (i + 1)).any (· == k')
        rw [et, List.any_append]
        congr 1
        show decide (k' = y) = ((y == k') || false)
        rw [Bool.or_false, Bool.eq_iff_iff, decide_eq_true_eq, beq_iff_eq]
        exact eq_comm
      · rw [et, dcount_snoc, List.nil_append]
        show (if ((xs.take i).any fun x => x == y) = true then _ else _) = _
        rw [any_contains]
        split <;> omega
    refine wpAny_pure ⟨plainId_quiet PyProof.Rows.F.plain_set_update_loop _, ih (i + 1) _ (by omega) hlt (W.frame _ s' _ _ hst' (Nat.le_succ _) fun b hb o e => ?_) hSi fun s'' hm'' hS'' => ?_⟩
    · rw [hsb.2 b (fun h : b = S => hSf (by rw [← h]; exact hb))]; exact e
    · refine hR s'' (Moved.trans W.gtrans ((hm.mono hsub).then_heap (Nat.le_succ _) fun b o hb e => ?_) hm'') hS''
      rw [hsb.2 b (fun h : b = S => hb (by rw [h]; exact List.mem_cons_self))]; exact e
end
section
variable {prog : Program} {w : World} {A : Around} {E : Value → Shared → Prop} {s : Shared}
set_option maxHeartbeats 3200000 in
theorem call_set_txt {l : Addr} {items : Array Value} {xs : List Str} {Q : Value → Shared → Prop}
    (hh : A.handled = none) (hl : s.heap.IsTuple l items) (hi : PyProof.Rows.StrsAre items.toList xs) (hb : xs.length + 1 < scanBound)
    (h : ∀ (h' : Heap) (tk : Nat), h'.SetOf (PySem.strKind prog w) s.heap.objs.size (fun k' => xs.any (· == k')) (dcount [] xs) →
      (∀ b o, s.heap.get? b = some o → h'.get? b = some o) → Q (.ref s.heap.objs.size) { s with heap := h', toks := tk }) :
    wpAny (model prog w) A (call (.type "set") [.ref l]) Q E s := by
  obtain ⟨c, tl, hmro⟩ := PySem.F.called_set.mro
  have hmade := PySem.F.called_set.made
  have hsub := PySem.F.called_set.sub
  refine wpAny_call (codeAny_of_tree ?_)
  show wpAny _ _ (callAny (.type "set") _) _ _ _
  refine wpAny_pure ⟨Code.quiet_builtin _ (by decide +kernel), codeAny_builtin PySem.F.entry_type_call ?_⟩
  rw [Around.under_plain (weight_type_call_type "set" [.ref l] []) rfl]
  have h1 := PySem.F.called_set.notType
  have h2 := PySem.F.called_set.canCreate
  have hct := PySem.F.typeCall_set_1 (.ref l)
  repeat (any_goals (first | assumption | wp_step))
  refine codeAny_mono (code_set_led1 (.ref l) (E := E) (Q₁ := fun obj s₁ => ∃ led : Bool, obj = .ref s.heap.objs.size ∧ s₁ = { s with heap := s.heap.push { cls := .type "set", dict := none, data := .set #[] 0 (.fresh 0 0 led) } }) ⟨_, rfl, rfl⟩) fun r s₁ hr => ?_
  cases r with
  | error e => exact hr
  | ok fl =>
    cases fl with
    | ret obj =>
      obtain ⟨led, rfl, rfl⟩ := hr
      have hS : (s.heap.push { cls := .type "set", dict := none, data := .set #[] 0 (.fresh 0 0 led) }).get? s.heap.objs.size = some { cls := .type "set", dict := none, data := .set #[] 0 (.fresh 0 0 led) } := Heap.get?_push_size _ rfl
      have hT : Shared.TypeIs { s with heap := s.heap.push { cls := .type "set", dict := none, data := .set #[] 0 (.fresh 0 0 led) } } (.ref s.heap.objs.size) "set" := ⟨_, hS, rfl⟩
      have hli := PySem.F.called_set.init.lookup
      have hbi := PySem.F.called_set.init.bind (.ref s.heap.objs.size)
      repeat (any_goals (first | assumption | wp_step))
      refine codeAny_mono (codeAny_call_builtin (R := wants (fun r s₂ => r = .none ∧ ∃ h' tk, s₂ = { s with heap := h', toks := tk } ∧
          h'.SetOf (PySem.strKind prog w) s.heap.objs.size (fun k' => xs.any (· == k')) (dcount [] xs) ∧
          (∀ b o, s.heap.get? b = some o → h'.get? b = some o)) E) PySem.F.called_set.init.plain PySem.F.entry_set_init (check_set_init_1 hT ?_)) fun r₂ s₂ hr₂ => ?_
      · obtain ⟨ol, hol, hcl, nl, hdl⟩ := hl
        obtain ⟨ocls, odict, odata, oslots⟩ := ol
        simp only at hcl hdl
        subst hcl; subst hdl
        have hol' : (s.heap.push { cls := .type "set", dict := none, data := .set #[] 0 (.fresh 0 0 led) }).get? l = some { cls := .type "tuple", dict := odict, data := .seq items nl, slots := oslots } := Heap.get?_push_of_some _ hol
        have hsls := PySem.F.sub_tuple_set
        have hslf := PySem.F.sub_tuple_frozenset
        have hne : (Value.type "tuple" == Value.type "dict") = false := by decide
        have hl1 : (s.heap.push { cls := .type "set", dict := none, data := .set #[] 0 (.fresh 0 0 led) }).IsTuple l items := ⟨_, hol', rfl, nl, rfl⟩
        unfold Builtin.«set.__init__» noKeywords Builtin.Frozenset.updateFrom
        generalize hPI : pyIter = PI
        wp_walk
        subst hPI
        refine wpAny_pyIter_tuple hl1 ?_
        refine wpAny_bind (wpAny_runValue ?_)
        have hlS : l < s.heap.objs.size := Heap.lt_size hol
        have hh3 : A.in1.in1.in1.handled = none := by simp [hh]
        have hneI : l ≠ (s.heap.push { cls := .type "set", dict := none, data := .set #[] 0 (.fresh 0 0 led) }).objs.size := by
          rw [Heap.size_push]; exact Nat.ne_of_lt (Nat.lt_succ_of_lt hlS)
        have hSf : s.heap.objs.size ∉ [(s.heap.push { cls := .type "set", dict := none, data := .set #[] 0 (.fresh 0 0 led) }).objs.size, l] := by
          rw [Heap.size_push]; simp only [List.mem_cons, List.mem_singleton, List.not_mem_nil, or_false, not_or]
          exact ⟨Nat.ne_of_lt (Nat.lt_succ_self _), Nat.ne_of_gt hlS⟩
        have hsz : xs.length = items.size := by rw [← StrsAre.len_eq hi, Array.length_toList]
        have hval : ∀ (i : Nat) (v : Value), items[i]? = some v → ∃ t, v = .str (xs.getD i Str.empty) t := fun i v hv => SS.strs_at hi i v (by rw [Array.getElem?_toList]; exact hv)
        refine loop_txt ((Walks.tuple hh3 _ l hneI items).toS) s.heap.objs.size
          hSf xs hsz (by rw [← hsz]; exact hb) hval (items.size - 0) 0 _ (by omega) (Nat.zero_le _)
          ⟨⟨_, Heap.get?_push_size _ rfl, rfl, rfl⟩, (hl1.push _)⟩ ?hS0 ?hR
        case hS0 =>
          have hget : ((s.heap.push { cls := .type "set", dict := none, data := .set #[] 0 (.fresh 0 0 led) }).push { cls := .type "tuple_iterator", data := .fields #[.ref l, .int 0 0] }).get? s.heap.objs.size
              = some { cls := .type "set", dict := none, data := .set #[] 0 (.fresh 0 0 led) } := Heap.get?_push_of_some _ hS
          exact PyProof.Rows.SetOf_congr ((PyProof.Rows.setObjOf_fresh (knd := PySem.strKind prog w) led).setOf hget (by unfold scanBound; omega)) (fun _ => rfl) rfl
        case hR =>
          intro s' hm hS'
          obtain ⟨h', g', d', tk', os'⟩ := s'
          have eg : g' = s.gens := hm.gens
          have ed : d' = s.drawn := hm.drawn
          have eo : os' = s.os := hm.os
          subst eg; subst ed; subst eo
          show wpAny _ _ _ _ _ _
          refine wpAny_pure ?_
          show wpAny _ _ (ret Value.none) _ _ _
          refine wpAny_pure ⟨rfl, h', tk', rfl, hS', fun b o e => ?_⟩
          have hb0 : b < s.heap.objs.size := Heap.lt_size e
          have hb1 : b ≠ s.heap.objs.size := Nat.ne_of_lt hb0
          have hb2 : b ≠ (s.heap.push { cls := .type "set", dict := none, data := .set #[] 0 (.fresh 0 0 led) }).objs.size := by
            rw [Heap.size_push]; exact Nat.ne_of_lt (Nat.lt_succ_of_lt hb0)
          exact hm.heap b o (by simp only [List.mem_cons, List.mem_singleton, List.not_mem_nil, or_false, not_or]; exact ⟨hb1, hb2⟩) (Heap.get?_push_of_some _ (Heap.get?_push_of_some _ e))
      · cases r₂ with
        | error e => exact hr₂
        | ok fl₂ =>
          cases fl₂ with
          | ret r =>
            obtain ⟨rfl, h', tk, rfl, hS', hk'⟩ := hr₂
            repeat (any_goals (first | assumption | wp_step))
            exact h _ _ hS' hk'
          | _ => exact hr₂.elim
    | _ => exact hr.elim
end
section
variable {X : Cx}
/-- len(set(t)), t a tuple of texts -/
def tLenSetT (K : PySem.W.Frag) (ta : TE) : TE := fun σ H Q => ta σ H fun x H1 => ∃ l, ∃ xs : List Str, x = .ref l ∧ SqT K H1 l (xs.map V.str) ∧ xs.length ≤ 1000 ∧ Q (.int (dcount [] xs)) H1
theorem pe_lenSetT {a : Expr} {ta : TE} {p p2 q pos : Pos} (hc : X.calm = true) (hg : Gl X "len") (hm : X.mg "len" = none) (hg2 : Gl X "set") (hm2 : X.mg "set" = none) (ha : PE X a ta)
    (na : starEach [a] X.env = (false, eval a X.env) :: starEach [] X.env := by rfl) : PE X (.Call (.Name "len" p) [.Call (.Name "set" p2) [a] [] q] [] pos) (tLenSetT X.K ta) := by
  refine ⟨fun pins s σ H Q I h => ?_⟩
  refine Call_ (ld_blt I hg hm boot_len ?_)
  refine PyProof.Rows.callWith_builtin1 (PyProof.Rows.args_cons ?_ rfl) rfl rfl
  refine Call_ (ld_blt I hg2 hm2 boot_set ?_)
  refine PyProof.Rows.callWith_type1 (PyProof.Rows.args_cons (thn (ha.run pins s σ H _ I h) fun v s1 ⟨x, H1, I1, r1, q1⟩ => PyProof.Rows.args_nil ?_) na) na rfl
  obtain ⟨l, xs, rfl, hq, h1, q1⟩ := q1
  cases r1
  obtain ⟨its, r, pl, hz⟩ := I1.tuple hq
  refine call_set_txt (I1.ok.hd hc) pl (by simpa using strsAre_of r) (by show xs.length + 1 < 4096; omega) fun h' tk hS hk => ?_
  refine PyProof.Rows.args_nil ?_
  obtain ⟨o, es, ep, t, ho, hex, hd, _, _, _, hf, hn⟩ := hS
  have I2 : Inv X pins σ H1 { s1 with heap := h', toks := tk } := I1.kept fun b o e => hk b o e
  have dl := dcount_le xs []
  refine call_len_set ho hex hd hf (by rw [hn]; have : scanBound = 4096 := rfl; omega) ⟨.int (dcount [] xs), H1, I2.tok _, ⟨_, by rw [hn]⟩, q1⟩
end
end M
namespace Q
open PySem PySem.Spec PyProof.Rows L2 Gd
variable [Tbl]
variable {X : Cx} {n : Nat} {W : XW}
/-! ### len(set(t)), x.strip(y), x.join(y) -/
def lenSetD : D → Option D
  | .tuple ds => (strsD ds).bind fun ns => if ns.length ≤ 1000 then some (.int (M.dcount [] ns : Nat)) else none
  | _ => none
theorem xd_lenSet {a : Expr} {p p2 q pos : Pos} {f : Mo R} (hc : X.calm = true) (hg : Gl X "len") (hm : X.mg "len" = none) (hg2 : Gl X "set") (hm2 : X.mg "set" = none) (ha : XD X n W a f)
    (na : starEach [a] X.env = (false, eval a X.env) :: starEach [] X.env := by rfl) : XD X n W (.Call (.Name "len" p) [.Call (.Name "set" p2) [a] [] q] [] pos) (e1 lenSetD f) :=
  weakE (M.pe_lenSetT hc hg hm hg2 hm2 ha na) fun σ H Q h => op1_run (r := fun x H1 Q => ∃ l, ∃ xs : List Str, x = .ref l ∧ SqT X.K H1 l (xs.map V.str) ∧ xs.length ≤ 1000 ∧ Q (.int (M.dcount [] xs)) H1) (fun x a d H Q hv hf q => by
    cases a with
    | tuple ds =>
      have hf : ((strsD ds).bind fun ns => if ns.length ≤ 1000 then some (PyData.int (M.dcount [] ns : Nat)) else none) = some d := hf
      cases e : strsD ds with
      | none => rw [e] at hf; cases hf
      | some ns =>
        rw [e] at hf
        have hf : (if ns.length ≤ 1000 then some (PyData.int (M.dcount [] ns : Nat)) else none) = some d := hf
        split at hf
        · next le =>
          cases hf
          obtain ⟨p, xs, rfl, sq, im⟩ := hv.tuple
          rw [strsD_eq e] at im
          rw [ImL.strs im] at sq
          exact ⟨p, ns, rfl, sq, le, q _ H (Same.refl H) (.int _)⟩
        · cases hf
    | _ => cases hf) σ H Q h
/-- a method of a text with one argument -/
@[simp] def eStrM (F : Str → D → Option D) (f g : Mo R) : Mo R := fun ρ => (f ρ).bind fun a ρ1 => match a with
  | .d (.str z) => (g ρ1).bind fun b ρ2 => lift ((look ρ2 b).bind (F z)) ρ2
  | _ => .no
def stripF (z : Str) : D → Option D
  | .str y => if z.length ≤ 10000000 then some (.str (Txt.stripChars z y)) else none
  | _ => none
def joinL (z : Str) (ds : List D) : Option D := (strsD ds).bind fun ys => if (ys.map (·.length)).sum + ys.length * z.length ≤ 16777216 then some (.str (Txt.join z ys)) else none
def joinF (z : Str) : D → Option D
  | .list ds => joinL z ds
  | .tuple ds => joinL z ds
  | _ => none
end Q
namespace Q
open PySem PySem.Spec PyProof.Rows L2 Gd
variable [Tbl]
variable {X : Cx} {n : Nat} {W : XW}
/-! ### len of a dict -/
def lenK : List D → Option D
  | [.dict ds] => if keysOk ds = true then some (.int ds.length) else none
  | _ => none
theorem c_lenK : CallR X (.builtin "len") (rQN X.K lenK) := by
  rintro pins s σ H xs us Q I r ⟨as, d, hx, e, q⟩
  unfold lenK at e
  split at e
  · next ds =>
    split at e
    · next ok =>
      cases e
      obtain ⟨x, rfl, h⟩ := hx.one
      obtain ⟨n1, n2⟩ := keys_no ok
      have fin : ∀ {a : Addr} {kvs : List (Key × V)}, x = .ref a → Rd H a (.dK kvs) → ImKV X.K H kvs ds → wpAny (model X.prog X.w) X.A (call (.builtin "len") us) (EP X pins σ Q) X.xe s := by
        intro a kvs ex ob im
        subst ex
        obtain ⟨u, rfl, rx⟩ := vals1 r
        cases rx
        rw [← im.len] at q
        exact d_len I ob fun t s' I' => ⟨.int kvs.length, H, I', ⟨t, rfl⟩, q _ H (Same.refl H) (.int _)⟩
      cases h with
      | im h => cases h with
        | dic e im => exact fin rfl (.inr ⟨_, e⟩) im
        | scr _ => exact absurd rfl (n1 _)
        | prm _ _ _ => exact absurd rfl (n2 _ _)
      | dic e im => exact fin rfl (.inl e) im
    · cases e
  · cases e
end Q
namespace Q
open PySem PySem.Spec PyProof.Rows L2 Gd
variable [Tbl]
/-! ### errors: what a raise leaves, what a try keeps -/
section
variable {X : Cx} {pins : List (Addr × Obj)} {σ : L2.St} {H : Hp} {s : Shared}
/-- the thing at a, held so far by a pin alone, is known from now on -/
theorem hold_thing {a : Addr} {oe : Obj} (I : Inv X pins σ H s) (ea : s.heap.get? a = some oe) (fe : ∃ vs, oe.data = .fields vs) (na : H a = none) (n0 : X.s_0.heap.get? a = none) (nL : a ≠ X.env.locals) (np : ∀ p ∈ X.pn ++ pins, p.1 ≠ a) :
    Inv X pins σ (upd H a (.frz oe (.ext fun h => h.get? a = some oe))) s := by
  have old : ∀ {b : Addr} {u : HO}, H b = some u → upd H a (.frz oe (.ext fun h => h.get? a = some oe)) b = some u := fun {b u} q => by
    rw [upd_ne (ne_of_none q na)]
    exact q
  have nw : ∀ {b : Addr}, b ≠ a → H b = none → upd H a (.frz oe (.ext fun h => h.get? a = some oe)) b = none := fun {b} ne q => by
    rw [upd_ne ne]
    exact q
  refine ⟨I.ok, I.os, I.bare, ⟨I.base.keep, I.base.slot, fun b o q n x => ?_, I.base.there, fun b xs q => old (I.base.tups b xs q), fun b o u q => old (I.base.frzs b o u q), fun b ps q => ?_⟩, I.loc, I.cell, nw nL.symm I.free, fun x c q => ?_, fun p hp => ?_, fun b u q => ?_, I.len⟩
  · refine nw (fun z => ?_) (I.base.free b o q n x)
    rw [z, n0] at q
    cases q
  · obtain ⟨m, z⟩ := I.base.tbls b ps q
    exact ⟨m, old z⟩
  · refine nw (fun z => ?_) (I.freeC x c q)
    obtain ⟨v, oc, hc, hd⟩ := I.cell x c q
    rw [z, ea] at hc
    cases hc
    obtain ⟨vs, hv⟩ := fe
    rw [hv] at hd
    cases hd
  · obtain ⟨h1, h2, h3, h4, h5⟩ := I.pin p hp
    exact ⟨h1, nw (np p hp) h2, h3, h4, h5⟩
  · by_cases hb : b = a
    · subst hb
      rw [upd_same] at q
      cases q
      exact ⟨ea, ea, ⟨oe, ea⟩, fun h1 h2 z k => k _ z⟩
    · rw [upd_ne hb] at q
      exact (I.hok b u q).stay (fun _ _ _ z => z) (fun c z => old z) fun c xs z => old z
end
/-- what is wished of an error of a try's body that the clause may keep in slot j -/
def wKeep (K : PySem.W.Frag) (c : Value) (i j : Nat) (Wout : WX) (D : Ends) : WX := fun cls d σ H =>
  ∃ b, PySem.W.exmOne K cls c = some b ∧
    (b = true → ∀ (a : Addr) (oe : Obj), H a = none → Zc cls d oe → (∃ vs, oe.data = .fields vs) → D.nx (((σ.set i (some (.ref a))).set j (some (.ref a))).set i none) (upd H a (.frz oe (.ext fun h => h.get? a = some oe)))) ∧ (b = false → Wout cls d σ H)
section
variable {X : Cx} {x n z : Str} {c : Value} {i j : Nat} {body : List Stmt} {np p1 p2 p3 pos pos' : Pos} {tb : WX → TS} {Wout : WX}
/-- try: body, except x as n: z = n -/
theorem ps_try_keep (hx : X.ex = []) (hs : X.stack = X.env :: X.outer) (hf : X.env.frame = some X.env.locals) (hN : X.N.Nodup) (hi : X.N[i]? = some n) (hj : X.N[j]? = some z) (hln : X.env.kindOf n = some .local) (vn : Vis X.env.scope n) (vz : X.env.scope.names.lookup z = some .local) (hc : Names X x c) (tk : Takes X Wout)
    (hb : ∀ (W : WX) (pn : List (Addr × Obj)) (xe : Value → Shared → Prop), Takes (X.tr pn xe) W → PassesOwn (model X.prog X.w) X.A X.env xe → PSs (X.tr pn xe) body (tb W)) (dn : (n == ("__debug__" : Str)) = false := by decide) (dc : (n == ("__classdict__" : Str)) = false := by decide)
    (sw : swapsWith (.Name n p2) (some (.Name z p1)) p3.line X.env = pure false := by rfl) :
    PS X (.Try body [.ExceptHandler (some (.Name x np)) (some n) [.Assign [.Name z p1] (.Name n p2) p3] pos'] [] [] pos) (fun D σ H => tb (wKeep X.K c i j Wout D) D σ H) := by
  refine ⟨fun pins s σ H D I h => wpAny_Try_except ?_⟩
  have ok := I.ok
  have frames : X.A.frames = some (X.env :: X.outer) := by rw [ok.frames, hs]
  have run := (hb (wKeep X.K c i j Wout D) (X.pn ++ pins) (fun e s₁ => wpAny (model X.prog X.w) X.A (noteFrame e X.env) (fun _ s₂ => wpAny (model X.prog X.w) X.A (setFlight e none) (fun _ s₃ =>
    wpAny (model X.prog X.w) X.A (handleBy e X.env [.ExceptHandler (some (.Name x np)) (some n) [.Assign [.Name z p1] (.Name n p2) p3] pos']) (SP X pins D) X.xe s₃) X.xe s₂) X.xe s₁) ?taken PassesOwn.looking).run [] s σ H D (I.toTry _) h
  case taken =>
    rintro u s1 ⟨a, B, s0, q0, σ1, H1, cls, d, rfl, J0, nb, up, sky, na, os, ag, b, eb, yes, no⟩
    have J : Inv X pins σ1 H1 s0 := J0.ofTry ok
    rw [hs] at sky
    refine Sky.land Zc.steady frames hf sky fun h3 fl up3 => ?_
    have J3 : Inv X pins σ1 H1 { s1 with heap := h3 } := J.landed nb fl.1 (up.trans up3) os ag
    obtain ⟨o3, v3, a3, z3, f3⟩ := fl.there
    have out : ∀ {h' : Heap} {o : Obj} {vs : Array Value}, h'.FunFrames B (X.env :: X.outer) → h'.get? a = some o → o.data = .fields vs → a ∉ frs (X.env :: X.outer) := fun {h' o vs} ff e dd m => by
      obtain ⟨_, o', e', hn⟩ := ff.mem m
      rw [e] at e'
      cases e'
      exact hn _ dd
    have nst := out fl.2.2.1 a3 f3
    have nL : a ≠ X.env.locals := fun y => nst (List.mem_filterMap.mpr ⟨X.env, List.mem_cons_self, by rw [hf, y]⟩)
    have nF : a ∉ X.fs := fun m => by
      obtain ⟨e, he, q⟩ := List.mem_filterMap.mp m
      exact nst (List.mem_filterMap.mpr ⟨e, List.mem_cons_of_mem _ he, q⟩)
    have nB : B.get? a = none := fl.2.1
    have nI : s0.heap.get? a = none := by
      cases q : s0.heap.get? a with
      | none => rfl
      | some o =>
        rw [nb a o q (by rw [hs]; exact nst)] at nB
        cases nB
    have n0 : X.s_0.heap.get? a = none := by
      cases q : X.s_0.heap.get? a with
      | none => rfl
      | some o =>
        obtain ⟨o', y⟩ := J.base.there a o q (by rw [hx]; exact fun w => nomatch w)
        rw [nI] at y
        cases y
    have npin : ∀ p ∈ X.pn ++ pins, p.1 ≠ a := fun p hp y => by
      obtain ⟨e, _⟩ := J.pin p hp
      rw [y, nI] at e
      cases e
    have S3 := J3.suite a3 f3 na nL nF
    refine wpAny_handleBy_cons (codeAny_handlers_test ?_) (by intro w; cases w)
    have LT : PySem.W.Looks (model X.prog X.w) h3 (typeOf (.ref a)) cls := fun A Q E s k q => wpAny_typeOf_ref (k _ _ a3) (by rw [z3.1]; exact q)
    have LM := PySem.W.exm_one (M := model X.prog X.w) J3.kIn LT eb
    have ask : ∀ {Q E : Value → Shared → Prop}, Q c { s1 with heap := h3 } → wpAny (model X.prog X.w) (X.A.mark (some (.ref a))) (eval (.Name x np) X.env) Q E { s1 with heap := h3 } := fun {Q E} q => by
      rcases hc with ⟨g, dbg, m | ⟨m, v, nn⟩⟩
      · exact ld_glob (X := X.suite a ((a, o3) :: (X.pn ++ pins))) S3 g m q dbg
      · exact ld_blt (X := X.suite a ((a, o3) :: (X.pn ++ pins))) S3 g m v q nn dbg
    refine ask (LM.here ?_)
    cases b with
    | false =>
      show wpAny _ X.A (handleBy (.ref a) X.env []) _ _ _
      refine wpAny_handleBy_nil ?_
      obtain ⟨_, _, _, oe, vs, T, oT, ts, he, _, hd, h1, _⟩ := id fl
      unfold PySem.passOn
      refine wpAny_bind (wpAny_field he hd h1 ?_)
      rw [if_neg (show ¬ ((Value.ref T == Value.none) = true) by simp)]
      have go : wpAny (model X.prog X.w) X.A (setFlight (.ref a) X.env.frame) (fun _ s4 => wpAny (model X.prog X.w) X.A (throw (.ref a) : Sem Flow) (SP X pins D) X.xe s4) X.xe { s1 with heap := h3 } := by
        rw [hf]
        exact HandSPX.setFlight_upZ fl fun h4 hh up4 => wpAny_throw (tk _ _ ⟨a, B, s0, pins, σ1, H1, cls, d, rfl, J, nb, (up.trans up3).trans up4, .inr (.inr (by rw [hs]; exact hh)), na, os, ag, no rfl⟩)
      first
        | exact wpAny_bind (wpAny_pure (wpAny_bind go))
        | exact wpAny_bind go
    | true =>
      refine codeAny_handlers_suite_as (HandSPX.lands_againZ fl fun h4 fl4 up4 => ?_)
      have J4 : Inv X pins σ1 H1 { s1 with heap := h4 } := J.landed nb fl4.1 ((up.trans up3).trans up4) os ag
      obtain ⟨o4, v4, a4, z4, f4⟩ := fl4.there
      have S4 := J4.suite a4 f4 na nL nF
      refine store_ok (X := X.suite a ((a, o4) :: (X.pn ++ pins))) (v := .ref a) S4 hN hi (.inl hln) rfl (fun s5 S5 => ?_) (.inr hln)
      have ii : i < σ1.length := by
        have l1 := S4.len
        have l2 := (List.getElem?_eq_some_iff.mp hi).1
        have l1 : σ1.length = X.N.length := l1
        omega
      have st : PSs (X.suite a ((a, o4) :: (X.pn ++ pins))) [.Assign [.Name z p1] (.Name n p2) p3] _ := pss_one (ps_asg (X := X.suite a ((a, o4) :: (X.pn ++ pins))) (pe_var (i := i) hi vn dn dc) (pg_name (X := X.suite a ((a, o4) :: (X.pn ++ pins))) (i := j) hN hj (.inl vz) (.inr vz)))
      refine wpAny_mono (st.run [] s5 _ H1 { nx := fun σ' H' => σ' = (σ1.set i (some (.ref a))).set j (some (.ref a)) ∧ H' = H1, rt := fun _ _ => False } S5 ⟨.ref a, set_at ii, rfl, rfl⟩) (fun f s6 hsp => ?_) fun _ _ w => w.elim
      cases f with
      | next =>
        obtain ⟨σ6, H6, S6, rfl, rfl⟩ := hsp
        obtain ⟨e6, _⟩ := S6.pin (a, o4) (List.mem_append_left _ List.mem_cons_self)
        have J6 := hold_thing (S6.unsuite ok) e6 ⟨_, f4⟩ na n0 nL npin
        exact gone_ok J6 hN hi hln fun s7 J7 => ⟨_, _, J7, yes rfl a o4 na z4 ⟨_, f4⟩⟩
      | brk =>
        obtain ⟨_, _, _, w⟩ := hsp
        exact w.elim
      | cont =>
        obtain ⟨_, _, _, w⟩ := hsp
        exact w.elim
      | ret u =>
        obtain ⟨_, _, _, _, _, w⟩ := hsp
        exact w.elim
  refine wpAny_mono run (fun f s1 hsp => ?_) fun e s1 w => w
  cases f with
  | next =>
    obtain ⟨σ', H', J, q⟩ := hsp
    exact wpAny_execs_nil ⟨σ', H', J.ofTry ok, q⟩
  | brk =>
    obtain ⟨σ', H', J, q⟩ := hsp
    exact ⟨σ', H', J.ofTry ok, q⟩
  | cont =>
    obtain ⟨σ', H', J, q⟩ := hsp
    exact ⟨σ', H', J.ofTry ok, q⟩
  | ret u =>
    obtain ⟨v, σ', H', J, r, q⟩ := hsp
    exact ⟨v, σ', H', J.ofTry ok, r, q⟩
end
end Q
namespace Q
open PySem PySem.Spec PyProof.Rows L2 Gd
variable [Tbl]
/-! ### defs that may raise -/
def errD (f : Str) (d : D) : D := .tuple [.str f, d]
/-- a wish about an error's class and field, as a wish about its class and dict -/
def wE (K : PySem.W.Frag) (Wx : WX) : XW := fun c d σ H => ∀ (C dd : Addr) (f : Str) (v : V) (d' : D), d = errD f d' → PySem.W.nsIn K mainGlobals c = some (some (.ref C)) → H dd = some (.xd [(f, v)]) → Im K H v d' → Wx (.ref C) (some dd) σ H
structure FnGX (P : Program) (w : World) (K : PySem.W.Frag) (mg : Str → Option Value) (base : Heap) (k : Nat) (f : Addr) (fd : FuncData) (ps : List Str) (sp : Sp) : Prop where
  len : ∀ vs H Q E, sp vs H Q E → vs.length = ps.length
  go : ∀ {A : Around} {outer : List Env} {s : Shared} {H : Hp} {args : Args} {us : List Value} {vs : List V} {Q : VK} {E : XK}, A.guards = some [] → Room k A →
    Env0 P w K mg base A outer s H → BindsTo s fd args (ps.zip us) → Vals vs us → sp vs H Q E → codeAny (model P w) A (.call (.ref f) args) (CR (L2.CX P w) outer P w H s Q E) s
section
variable {P : Program} {w : World} {K : PySem.W.Frag} {mg : Str → Option Value} {base : Heap} {k : Nat} {f : Addr} {fd : FuncData} {ps : List Str} {sp : Sp}
theorem okGX {x qual : Str} {st : Stmt} {N : List Str} (F : Fun K x qual st f fd) (S : FnScope N ps (defScope st)) (len : ∀ vs H Q E, sp vs H Q E → vs.length = ps.length)
    (B : ∀ (cdv : Value) (A : Around) (outer : List Env) (s : Shared) (H : Hp) (vs : List V) (Q : VK) (E : XK), A.guards = some [] → Room k (A.deeper (envOfC qual (defScope st) s.heap.objs.size f cdv)) → sp vs H Q E →
      ∃ t, PSs (cxOf (L2.CX P w) P w K mg base N qual (defScope st) f cdv A outer s H E) (defBody st) t ∧ t { nx := fun _ H' => Q .non H', rt := Q } (start N vs) H) : FnGX P w K mg base (k + 1) f fd ps sp := by
  obtain ⟨oc, od, kV, doc, pm, an, cdv, ct, osl, rfl, lk, hcd⟩ := F.ex
  refine ⟨len, fun {A outer s H args us vs Q E} g room env0 bt rel want => ?_⟩
  have kin : K.In s.heap := env0.mod.kin.keeps fun b o q => (env0.bs b o q).1
  have nol : s.heap.NoLimit := env0.mod.nolimit.keeps fun b o q => (env0.bs b o q).1
  refine codeAny_call_function room.depth (kin _ _ lk) rfl S.co S.gen rfl (PySem.W.codeRec_of kin hcd) (bt _ _ _ _ ?_)
  refine wpAny_newFunctionEnv_cells S.kind ?_ fun env ee s1 inn => ?_
  · rintro ⟨n, v⟩ hy
    refine (S.par n (List.of_mem_zip hy).1).elim Or.inl fun q => Or.inr ⟨q, ?_⟩
    exact PySem.W.cellsFrom_some _ _ _ (Or.inl q)
  subst ee
  refine ⟨nol.keeps inn.toInCall.keep, codeAny_func ?_⟩
  obtain ⟨t, ht, hq⟩ := B cdv A outer s H vs Q E g (room.deeper _) want
  have I0 := inv_start (CX := L2.CX P w) (E := E) S room.hd env0 (len _ _ _ _ want) rel inn
  refine wpAny_mono (ht.run [] s1 (start N vs) H _ I0 hq) (fun fl s' z => ?_) fun _ _ z => z
  cases fl with
  | ret u =>
    obtain ⟨v, σ', H', J, rv, q⟩ := z
    exact ⟨v, H', J.os, J.bare, J.base, J.hok, rv, q⟩
  | next =>
    obtain ⟨σ', H', J, q⟩ := z
    exact ⟨V.non, H', J.os, J.bare, J.base, J.hok, rfl, q⟩
  | brk => exact z.elim fun _ z => z.elim fun _ z => z.2.elim
  | cont => exact z.elim fun _ z => z.elim fun _ z => z.2.elim
end
section
variable {X : Cx} {k : Nat} {f : Addr} {fd : FuncData} {ps : List Str} {sp : Sp} {x : Str} {p pos : Pos} {e : Expr} {es : List Expr} {t : TA} {Wx : WX}
/-- f(e, ..) of such a def: what it raises is wished for at the caller's slots -/
def tCallX (Wx : WX) (sp : Sp) (t : TA) : TE := fun σ H Q => t σ H fun vs H1 => sp vs H1 Q fun cls d H' => Wx cls d σ H'
theorem pe_callGX (F : FnGX X.prog X.w X.K X.mg X.base k f fd ps sp) (tk : Takes X Wx) (g : X.A.guards = some []) (room : Room k X.A) (hg : Gl X x) (hm : X.mg x = some (.ref f)) (hk : PySem.W.keepIn X.K (.ref f) = true) (hb : Binds X.K fd ps [])
    (ha : PA X (e :: es) t) (hdb : (x == ("__debug__" : Str)) = false := by decide) (he : starEach (e :: es) X.env = (false, eval e X.env) :: starEach es X.env := by rfl) (hpl : (backTo pos (starEach es X.env)).any (·.1) = false := by rfl) :
    PE X (.Call (.Name x p) (e :: es) [] pos) (tCallX Wx sp t) := ⟨fun pins s σ H Q I h => by
  refine wpAny_Call_Name_kw (ld_glob I hg hm ?_ hdb)
  refine PySem.W.callWith_K (h₀ := X.base) I.ok.mod.kin hk (thn (ha.run pos pins s σ H _ I h) ?_) he hpl
  rintro us s1 ⟨vs, H1, I1, r, q⟩
  refine ⟨I1.kIn, ?_⟩
  have r0 : Vals (vs ++ []) (us ++ []) := r.append .nil
  have z := F.len _ _ _ _ q
  have r1 : Vals vs (us ++ []) := by
    rw [List.append_nil]
    exact r
  have z : (us ++ []).length = ps.length := by
    rw [← z]
    exact r1.length.symm
  refine wpAny_call (codeAny_mono (F.go g room I1.env0 (hb s1 us I1.kIn z) r1 q) fun res s' hq => ?_)
  cases res with
  | error u => exact tk _ _ (XE.of_call I1 (fun cls d H' w => w) hq)
  | ok fl =>
    cases fl with
    | ret u => exact I1.after hq
    | next => exact False.elim hq
    | brk => exact False.elim hq
    | cont => exact False.elim hq⟩
end
def OutX (K : PySem.W.Frag) (vs : List V) (H : Hp) (as : List Sl) (r : Rt Sl) (Q : VK) (E : XK) : Prop := match r with
  | .no => False
  | .ok s as' => ∀ v H', Stp K vs.length H (vs.map some) as H' (vs.map some) as' → SR K H H' (vs.map some) as' v s → Q v H'
  | .ex c d as' => ∀ H', Stp K vs.length H (vs.map some) as H' (vs.map some) (as'.take vs.length) → wE K (fun cls dd _ H => E cls dd H) c d [] H'
def spX (K : PySem.W.Frag) (F : Fn) : Sp := fun vs H Q E => ∃ as, Good K H (vs.map some) as ∧ OutX K vs H as (F as) Q E
@[simp] def outX (n : Nat) : Rt Out → Rt Sl
  | .ok o ρ => fin n ρ o
  | .ex c d ρ => .ex c d ρ
  | .no => .no
@[simp] def fnX (n N : Nat) (b : Mo Out) : Fn := fun as => if as.length = n then outX n (b (as ++ List.replicate (N - n) .no)) else .no
section
variable {P : Program} {w : World} {K : PySem.W.Frag} {mg : Str → Option Value} {base : Heap} {k : Nat} {f : Addr} {fd : FuncData}
theorem okDX {x qual : Str} {st : Stmt} {N ps : List Str} {b : Mo Out} (F : Fun K x qual st f fd) (S : FnScope N ps (defScope st)) (hN : ps.length ≤ N.length)
    (B : ∀ (cdv : Value) (A : Around) (outer : List Env) (s : Shared) (H : Hp) (E : XK), A.guards = some [] → Room k (A.deeper (envOfC qual (defScope st) s.heap.objs.size f cdv)) →
      XSs (cxOf (L2.CX P w) P w K mg base N qual (defScope st) f cdv A outer s H E) ps.length (wE K fun cls d _ H' => E cls d H') (defBody st) b) : FnGX P w K mg base (k + 1) f fd ps (spX K (fnX ps.length N.length b)) := by
  have lenF : ∀ {vs : List V} {as : List Sl} {H : Hp} {Q : VK} {E : XK}, OutX K vs H as (fnX ps.length N.length b as) Q E → as.length = ps.length := fun {vs as H Q E} e => by
    unfold fnX at e
    split at e
    · next l => exact l
    · exact e.elim
  refine okGX F S (fun vs H Q E ⟨as, G, e⟩ => ?_) (fun cdv A outer s0 H vs Q E hg hr h => ?_)
  · have := G.len
    rw [List.length_map, lenF e] at this
    exact this
  · obtain ⟨as, G, e⟩ := h
    have la := lenF e
    have lv : vs.length = ps.length := by
      have := G.len
      rw [List.length_map, la] at this
      exact this
    refine ⟨_, B cdv A outer s0 H E hg hr, as ++ List.replicate (N.length - ps.length) .no, ?_, ?_⟩
    · unfold L2.start
      rw [lv]
      exact G.pad _
    · unfold fnX at e
      rw [if_pos la] at e
      have st0 : L2.start N vs = vs.map some ++ List.replicate (N.length - ps.length) none := by
        unfold L2.start
        rw [lv]
      rw [st0]
      have unp : ∀ {σ' : St} {H' : Hp} {ρ' : Ev}, Stp K ps.length H (vs.map some ++ List.replicate (N.length - ps.length) none) (as ++ List.replicate (N.length - ps.length) .no) H' σ' ρ' → ps.length ≤ ρ'.length := fun {σ' H' ρ'} s => by
        rcases Nat.lt_or_ge ρ'.length ps.length with lt | ge
        · exfalso
          have l1 := s.good.len
          have := (s.par ρ'.length lt).1
          rw [List.getElem?_eq_none (by omega), List.getElem?_append_left (by rw [List.length_map, lv]; exact lt), List.getElem?_map, List.getElem?_eq_getElem (by omega)] at this
          cases this
        · exact ge
      show AftS K ps.length (wE K fun cls d _ H' => E cls d H') { nx := fun _ H' => Q .non H', rt := Q } H (vs.map some ++ List.replicate (N.length - ps.length) none) (as ++ List.replicate (N.length - ps.length) .no) (b (as ++ List.replicate (N.length - ps.length) .no))
      generalize b (as ++ List.replicate (N.length - ps.length) .no) = z at e
      cases z with
      | no => exact e.elim
      | ex c d ρ' =>
        intro σ' H' st
        have e : ∀ H', Stp K vs.length H (vs.map some) as H' (vs.map some) (ρ'.take vs.length) → wE K (fun cls dd _ H => E cls dd H) c d [] H' := e
        rw [lv] at e
        exact e H' (st.unpad G la (unp st))
      | ok o ρ' =>
        have e : OutX K vs H as (fin ps.length ρ' o) Q E := e
        cases o with
        | bk => exact e.elim
        | ct => exact e.elim
        | nx =>
          intro σ' H' s
          have e : ∀ v H', Stp K vs.length H (vs.map some) as H' (vs.map some) (ρ'.take ps.length) → SR K H H' (vs.map some) (ρ'.take ps.length) v (.dat .none) → Q v H' := e
          rw [lv] at e
          exact e _ _ (s.unpad G la (unp s)) (.dat .non)
        | rf o =>
          intro p u σ' H' st np ep r no
          have e : ∀ v H', Stp K vs.length H (vs.map some) as H' (vs.map some) (ρ'.take ps.length) → SR K H H' (vs.map some) (ρ'.take ps.length) v (.own o) → Q v H' := e
          rw [lv] at e
          refine e _ _ (st.unpad G la (unp st)) (.own np ep r fun z => no ?_)
          obtain ⟨j, o1, ej, es⟩ := z
          obtain ⟨lj, ej⟩ := take_some ej
          exact ⟨j, o1, ej, by rw [(st.par j lj).1, List.getElem?_append_left (by rw [List.length_map, lv]; exact lj)]; exact es⟩
        | rt r =>
          intro v σ' H' st rv
          cases rv with
          | @d x im =>
            have e : ∀ v H', Stp K vs.length H (vs.map some) as H' (vs.map some) (ρ'.take ps.length) → SR K H H' (vs.map some) (ρ'.take ps.length) v (.dat x) → Q v H' := e
            rw [lv] at e
            exact e _ _ (st.unpad G la (unp st)) (.dat im)
          | @v i ei =>
            unfold fin at e
            dsimp only at e
            split at e
            · next le =>
              split at e
              · next o eo =>
                have e : ∀ v H', Stp K vs.length H (vs.map some) as H' (vs.map some) (ρ'.take ps.length) → SR K H H' (vs.map some) (ρ'.take ps.length) v (.own o) → Q v H' := e
                rw [lv] at e
                obtain ⟨p, u, e1, e2, r⟩ := st.good.own i o eo
                rw [ei] at e1
                cases e1
                refine e _ _ (st.unpad G la (unp st)) (.own ?_ e2 r fun z => ?_)
                · rcases st.news p ⟨i, o, eo, ei⟩ with z | z
                  · exfalso
                    obtain ⟨j, o1, ej, es⟩ := z.pad G.len
                    have lj : j < ps.length := by
                      have := (List.getElem?_eq_some_iff.mp ej).1
                      omega
                    obtain ⟨o2, e2⟩ := (st.par j lj).2 o1 (by rw [List.getElem?_append_left (by omega)]; exact ej)
                    have e3 : σ'[j]? = some (some (.ref p)) := by rw [(st.par j lj).1, List.getElem?_append_left (by rw [List.length_map, lv]; exact lj)]; exact es
                    have := st.good.dif i j o o2 p eo e2 ei e3
                    omega
                  · exact z
                · obtain ⟨j, o1, ej, es⟩ := z
                  obtain ⟨lj, ej⟩ := take_some ej
                  have e3 : σ'[j]? = some (some (.ref p)) := by rw [(st.par j lj).1, List.getElem?_append_left (by rw [List.length_map, lv]; exact lj)]; exact es
                  have := st.good.dif i j o o1 p eo ej ei e3
                  omega
              · exact e.elim
            · exact e.elim
end
/-! ### calls of such defs -/
@[simp] def applyX (F : Fn) (rs : List R) (ρ : Ev) : Rt Sl := match argS ρ rs with
  | none => .no
  | some as => if nodupB (vIdx rs) = true then (match F as with
      | .ok s as' => .ok s (backE ρ rs as')
      | .ex c d as' => .ex c d (backE ρ rs (as'.take rs.length))
      | .no => .no) else .no
@[simp] def eCallX (F : Fn) (m : Mo (List R)) : Mo R := fun ρ => (m ρ).bind fun rs ρ1 => (applyX F rs ρ1).bind fun s ρ2 => match s with
  | .dat x => .ok (.d x) ρ2
  | _ => .no
@[simp] def fCallX (F : Fn) (m : Mo (List R)) : Mo Ob := fun ρ => (m ρ).bind fun rs ρ1 => (applyX F rs ρ1).bind fun s ρ2 => match s with
  | .own o => .ok o ρ2
  | _ => .no
section
variable {X : Cx} {n : Nat} {W : XW} {k : Nat} {f : Addr} {fd : FuncData} {ps : List Str} {x : Str} {p pos : Pos} {e : Expr} {es : List Expr} {m : Mo (List R)} {F : Fn} {Wx : WX}
end
end Q
namespace Q
open PySem PySem.Spec PyProof.Rows L2 Gd
variable [Tbl]
/-! ### an error's class: what the written part says of it -/
structure ExcT (K : PySem.W.Frag) (mg : Str → Option Value) (c f : Str) (C fI : Addr) : Prop where
  gC : mg c = some (.ref C)
  nC : PySem.W.nsIn K mainGlobals c = some (some (.ref C))
  ox : OexC K C
  noN : PySem.W.findIn K (.ref C) f = some none
  iC : PySem.W.findIn K (.ref C) "__init__" = some (some (.ref fI))
  tI : PySem.W.typeIn K (.ref fI) = some (.type "function")
  xf : XfC K C
  cl : (PySem.W.clsIn K C).isSome = true
  ca : PySem.W.findIn K (.ref C) "__class__" = some (some (.builtin "object.__class__"))
  mo : PySem.W.mroIn K C (.type "object") = some true
/-- what of the built-in part isinstance asks -/
structure ExcB (K : PySem.W.Frag) : Prop where
  hn : PySem.W.specialIn K (.builtin "object.__class__") "__get__" = some (some (.builtin "getset_descriptor.__get__"))
  ht : PySem.W.takesIn K (.builtin "object.__class__") = some true
/-- self.f = f in __init__ -/
def spIni (C : Addr) (f : Str) : Sp := fun vs H Q _ => ∃ (a : Addr) (y : V), vs = [.ref a, y] ∧ H a = some (exo a C none) ∧ ∀ dx, H dx = none → dx ≠ a → Q .non (upd (upd H dx (exd dx [(f, y)])) a (exo a C (some dx)))
section
variable {P : Program} {w : World} {K : PySem.W.Frag} {mg : Str → Option Value} {base : Heap} {fI C : Addr} {fd : FuncData} {c f : Str}
theorem ok_ini {qual : Str} {st : Stmt} {q1 q2 q3 q4 : Pos} (F : Fun K "__init__" qual st fI fd) (S : FnScope ["self", f] ["self", f] (defScope st)) (hb : defBody st = [.Assign [.Attribute (.Name "self" q1) f q2] (.Name f q3) q4]) (T : ExcT K mg c f C fI)
    (d1 : (f == ("__debug__" : Str)) = false) (d2 : (f == ("__classdict__" : Str)) = false) : FnOk P w K mg base (L2.CX P w) 1 fI fd ["self", f] (spIni C f) :=
  F.okX S (fun vs H Q E h => by
    obtain ⟨a, y, rfl, _⟩ := h
    rfl) fun cdv A outer s H vs Q E hr h => by
    obtain ⟨a, y, rfl, ea, q⟩ := h
    have v1 : Vis (defScope st) "self" := (S.par "self" (by simp)).elim .inl fun z => .inr (.inl z)
    have v2 : Vis (defScope st) f := (S.par f (by simp)).elim .inl fun z => .inr (.inl z)
    rw [hb]
    refine ⟨_, pss_one (ps_ost (pe_var (i := 0) rfl v1) (pe_var (i := 1) rfl v2 d1 d2)), ?_⟩
    exact ⟨y, rfl, .ref a, rfl, a, C, rfl, T.ox, T.noN, .inl ⟨ea, q⟩⟩
end
@[simp] def bRaise (c f : Str) (m : Mo (List R)) : Mo Out := fun ρ => (m ρ).bind fun rs ρ1 => match datas rs with
  | some [x] => .ex c (errD f x) ρ1
  | _ => .no
section
variable {X : Cx} {n : Nat} {W : XW} {Wx : WX} {c f : Str} {C fI : Addr} {fd : FuncData} {k : Nat} {e : Expr} {p pos pos2 : Pos} {m : Mo (List R)}
theorem xs_raise (hc : X.calm = true) (tk : Takes X Wx) (hW : ∀ c d σ H, W c d σ H → wE X.K Wx c d σ H) (T : ExcT X.K X.mg c f C fI) (F1 : FnOk X.prog X.w X.K X.mg X.base (L2.CX X.prog X.w) k fI fd ["self", f] (spIni C f)) (hb : Binds X.K fd ["self", f] [])
    (hr : Room (k + 1) X.A) (hg : Gl X c) (ha : XA X n W [e] m) (hdb : (c == ("__debug__" : Str)) = false := by decide) (he : starEach [e] X.env = (false, eval e X.env) :: starEach [] X.env := by rfl) (hpl : (backTo pos (starEach [] X.env)).any (·.1) = false := by rfl) :
    XS X n W (.Raise (some (.Call (.Name c p) [e] [] pos)) none pos2) (bRaise c f m) :=
  weakS (ps_raise hc tk (pmk_oex T.ox T.iC T.tI F1 hr hb (dvs := []) .nil L2.passL hg T.gC ha hdb he hpl)) fun E σ H ⟨ρ, G, h⟩ => by
    refine ⟨ρ, G, (AftS.bind h).mono fun rs ρ1 H1 s1 h1 vs rvs => ?_⟩
    split at h1
    · next x ed =>
      have im := rvs.datas ed
      cases im with
      | @cons v _ _ _ im r =>
        cases r
        refine ⟨by show 1 ≤ 1000; decide, fun a na => ⟨a, v, rfl, upd_same, fun dx nd ne => ⟨rfl, dx, [(f, v)], upd_same, by rw [upd_ne ne, upd_same], by rw [upd_ne ne] at nd; exact nd, ?_⟩⟩⟩
        have nd1 : H1 dx = none := by
          rw [upd_ne ne] at nd
          exact nd
        have eq : upd (del (upd (upd (upd H1 a (exo a C none)) dx (exd dx [(f, v)])) a (exo a C (some dx))) a) dx (.xd [(f, v)]) = upd H1 dx (.xd [(f, v)]) := by
          funext b
          by_cases h1 : b = dx
          · rw [h1, upd_same, upd_same]
          · rw [upd_ne h1, upd_ne h1]
            by_cases h2 : b = a
            · rw [h2, del_same, na]
            · rw [del_ne h2, upd_ne h2, upd_ne h1, upd_ne h2]
        rw [eq]
        have sm : Same H1 (upd H1 dx (.xd [(f, v)])) := same_upd nd1
        exact hW _ _ _ _ (h1 _ _ (Stp.same s1.good sm)) C dx f v x rfl T.nC upd_same (im.same sm)
    · exact h1.elim
end
/-! ### a try that keeps its error -/
section
variable {K : PySem.W.Frag} {n : Nat} {H H' : Hp} {σ σ' : L2.St} {ρ ρ' : Ev}
theorem Stp.set_exc (s : Stp K n H σ ρ H' σ' ρ') {i : Nat} (hn : n ≤ i) (hi : i < ρ'.length) {a : Addr} {c f : Str} {d : D} (x : ExcAt K H' a c f d) : Stp K n H σ ρ H' (σ'.set i (some (.ref a))) (ρ'.set i (.exc c f d)) := by
  have his : i < σ'.length := by
    rw [s.good.len]
    exact hi
  have G := s.good
  have ow : ∀ p, Own (σ'.set i (some (.ref a))) (ρ'.set i (.exc c f d)) p → Own σ' ρ' p := fun p h => by
    obtain ⟨j, o, e1, e2⟩ := h
    by_cases z : i = j
    · subst z
      rw [set_at hi] at e1
      cases e1
    · rw [set_ne z] at e1 e2
      exact ⟨j, o, e1, e2⟩
  have get : ∀ {j : Nat} {t : Sl}, (ρ'.set i (.exc c f d))[j]? = some t → (i = j ∧ t = .exc c f d) ∨ (i ≠ j ∧ ρ'[j]? = some t) := fun {j t} h => by
    by_cases z : i = j
    · subst z
      rw [set_at hi] at h
      cases h
      exact .inl ⟨rfl, rfl⟩
    · rw [set_ne z] at h
      exact .inr ⟨z, h⟩
  refine ⟨⟨by rw [List.length_set, List.length_set, G.len], fun j e h => ?_, fun j o h => ?_, fun j k o o' p h1 h2 h3 h4 => ?_, G.tab, fun j c' f' e h => ?_⟩, fun j hj => ?_, s.kept, fun p h => s.news p (ow p h), s.live⟩
  · rcases get h with ⟨_, z⟩ | ⟨z, h⟩
    · cases z
    · rw [set_ne z]
      exact G.dat j e h
  · rcases get h with ⟨_, z⟩ | ⟨z, h⟩
    · cases z
    · rw [set_ne z]
      exact G.own j o h
  · rcases get h1 with ⟨_, z⟩ | ⟨z1, h1⟩
    · cases z
    · rcases get h2 with ⟨_, z⟩ | ⟨z2, h2⟩
      · cases z
      · rw [set_ne z1] at h3
        rw [set_ne z2] at h4
        exact G.dif j k o o' p h1 h2 h3 h4
  · rcases get h with ⟨z, y⟩ | ⟨z, h⟩
    · cases y
      rw [← z]
      exact ⟨a, set_at his, x⟩
    · rw [set_ne z]
      exact G.exc j c' f' e h
  · have ne : i ≠ j := by omega
    rw [set_ne ne, set_ne ne]
    exact s.par j hj
theorem Stp.set_no (s : Stp K n H σ ρ H' σ' ρ') {i : Nat} (hn : n ≤ i) (hi : i < ρ'.length) : Stp K n H σ ρ H' (σ'.set i none) (ρ'.set i .no) := by
  have G := s.good
  have get : ∀ {j : Nat} {t : Sl}, (ρ'.set i .no)[j]? = some t → t ≠ .no → i ≠ j ∧ ρ'[j]? = some t := fun {j t} h ne => by
    by_cases z : i = j
    · subst z
      rw [set_at hi] at h
      cases h
      exact absurd rfl ne
    · rw [set_ne z] at h
      exact ⟨z, h⟩
  have ow : ∀ p, Own (σ'.set i none) (ρ'.set i .no) p → Own σ' ρ' p := fun p h => by
    obtain ⟨j, o, e1, e2⟩ := h
    obtain ⟨z, e1⟩ := get e1 (fun w => nomatch w)
    rw [set_ne z] at e2
    exact ⟨j, o, e1, e2⟩
  refine ⟨⟨by rw [List.length_set, List.length_set, G.len], fun j e h => ?_, fun j o h => ?_, fun j k o o' p h1 h2 h3 h4 => ?_, G.tab, fun j c' f' e h => ?_⟩, fun j hj => ?_, s.kept, fun p h => s.news p (ow p h), s.live⟩
  · obtain ⟨z, h⟩ := get h (fun w => nomatch w)
    rw [set_ne z]
    exact G.dat j e h
  · obtain ⟨z, h⟩ := get h (fun w => nomatch w)
    rw [set_ne z]
    exact G.own j o h
  · obtain ⟨z1, h1⟩ := get h1 (fun w => nomatch w)
    obtain ⟨z2, h2⟩ := get h2 (fun w => nomatch w)
    rw [set_ne z1] at h3
    rw [set_ne z2] at h4
    exact G.dif j k o o' p h1 h2 h3 h4
  · obtain ⟨z, h⟩ := get h (fun w => nomatch w)
    rw [set_ne z]
    exact G.exc j c' f' e h
  · have ne : i ≠ j := by omega
    rw [set_ne ne, set_ne ne]
    exact s.par j hj
end
@[simp] def keepX (tab : List (Str × Bool)) (i j : Nat) : Rt Out → Rt Out
  | .ok o ρ => .ok o ρ
  | .ex c (.tuple [.str f, x]) ρ => match tab.lookup c with
    | some true => nxt ((put j (.exc c f x) ρ).bind (put i .no))
    | some false => .ex c (.tuple [.str f, x]) ρ
    | none => .no
  | _ => .no
@[simp] def bTry (tab : List (Str × Bool)) (i j : Nat) (m : Mo Out) : Mo Out := fun ρ => keepX tab i j (m ρ)
section
variable {X : Cx} {n : Nat} {W : XW} {Wx : WX} {x y z : Str} {cv : Value} {tab : List (Str × Bool)} {i j : Nat} {body : List Stmt} {np p1 p2 p3 pos pos' : Pos} {m : Mo Out}
/-! ### what is asked of a kept error -/
@[simp] def eIsX (tab : List (Str × Bool)) (i : Nat) : Mo R := fun ρ => match ρ[i]? with
  | some (.exc c _ _) => lift ((tab.lookup c).map .bool) ρ
  | _ => .no
@[simp] def eFldX (cs : List Str) (f : Str) (i : Nat) : Mo R := fun ρ => match ρ[i]? with
  | some (.exc c f' d) => lift (if f' = f ∧ c ∈ cs then some d else none) ρ
  | _ => .no
@[simp] def eNonX (i : Nat) : Mo R := fun ρ => match ρ[i]? with
  | some (.exc _ _ _) => .ok (.d (.bool false)) ρ
  | some (.dat d) => .ok (.d (.bool (noneB d))) ρ
  | _ => .no
theorem inst_of {a : Addr} {c f : Str} {d : D} {pins : List (Addr × Obj)} {σ : L2.St} {H : Hp} {s : Shared} (I : Inv X pins σ H s) (x : ExcA X.K H a c f d) : ∃ (C : Addr) (oe : Obj) (od : Obj) (v : V) (u : Value), PySem.W.nsIn X.K mainGlobals c = some (some (.ref C)) ∧ PySem.W.InstAt s.heap a oe C (some od) ∧ PySem.W.lookIn f od = some (some u) ∧ RelV v u ∧ Im X.K H v d := by
  obtain ⟨dd, C, oe, w, v, h1, h2, h3, ⟨vs, h4⟩, h5, h6, h7⟩ := x
  obtain ⟨ha, _⟩ := I.hok a _ h1
  have hx : ObjOk X.prog X.w H s.heap dd (.xd [(f, v)]) := I.hok dd _ h5
  obtain ⟨mA, hns, hr⟩ := hx
  obtain ⟨od, ho, hl⟩ := lookIn_ns hns
  have l : List.lookup f [(f, v)] = some v := by simp [List.lookup]
  obtain ⟨u, hu, ru⟩ := RelO.some_of (v := v) (o := mA f) (by rw [← l]; exact hr f)
  exact ⟨C, oe, od, v, u, h6, ⟨ha, h2, by unfold PySem.W.notCls; rw [h4] <;> rfl, by rw [h3]; exact ho⟩, by rw [hl, hu], ru, h7⟩
/-- isinstance(x, T), x a kept error -/
def rIsX (K : PySem.W.Frag) (tab : List (Str × Bool)) (t : V) : List V → Hp → VK → Prop := fun xs H Q => ∃ (a : Addr) (c f : Str) (d : D) (b : Bool), xs = [.ref a, t] ∧ ExcA K H a c f d ∧ tab.lookup c = some b ∧ Q (.bl b) H
theorem call_isX {t : V} {tv : Value} (B : ExcB X.K) (ht : ∀ u, RelV t u → u = tv) (hT : ∀ c b, tab.lookup c = some b → ∀ C, PySem.W.nsIn X.K mainGlobals c = some (some (.ref C)) → XfC X.K C ∧ (PySem.W.clsIn X.K C).isSome = true ∧ PySem.W.findIn X.K (.ref C) "__class__" = some (some (.builtin "object.__class__")) ∧ PySem.W.mroIn X.K C (.type "object") = some true ∧ PySem.W.kitOne X.K (.ref C) tv = some b) :
    CallR X (.builtin "isinstance") (rIsX X.K tab t) := by
  rintro pins s σ H xs us Q I r ⟨a, c, f, d, b, rfl, x, et, q⟩
  obtain ⟨u1, u2, rfl, r1, r2⟩ := vals2 r
  cases r1
  obtain rfl := ht _ r2
  obtain ⟨C, oe, od, v, u, nC, J, _, _, _⟩ := inst_of I x
  obtain ⟨xf, cl, ca, mo, k1⟩ := hT c b et C nC
  exact PySem.W.kia_one (PySem.W.kitx_exc cl xf.ga xf.gg xf.exC ca B.hn B.ht mo) I.kIn J k1 (fun z => nomatch z) fun tk => ⟨.bl b, H, I.kept (t' := tk) fun _ _ z => z, rfl, q⟩
theorem xd_isX {i : Nat} {x T : Str} {t : V} {tv : Value} {p p1 p2 pos : Pos} (B : ExcB X.K) (ht : ∀ u, RelV t u → u = tv) (hT : ∀ c b, tab.lookup c = some b → ∀ C, PySem.W.nsIn X.K mainGlobals c = some (some (.ref C)) → XfC X.K C ∧ (PySem.W.clsIn X.K C).isSome = true ∧ PySem.W.findIn X.K (.ref C) "__class__" = some (some (.builtin "object.__class__")) ∧ PySem.W.mroIn X.K C (.type "object") = some true ∧ PySem.W.kitOne X.K (.ref C) tv = some b)
    (hg : Gl X "isinstance") (hm : X.mg "isinstance" = none) (hv : PE X (.Name x p1) (tVar i)) (hTn : PE X (.Name T p2) (tC t)) (hne : tab.lookup ("" : Str) = none := by decide)
    (h1 : starEach [.Name x p1, .Name T p2] X.env = (false, eval (.Name x p1) X.env) :: starEach [.Name T p2] X.env := by rfl) (h2 : (backTo pos (starEach [.Name T p2] X.env)).any (·.1) = false := by rfl) (h3 : starEach [.Name T p2] X.env = (false, eval (.Name T p2) X.env) :: starEach [] X.env := by rfl) :
    XD X n W (.Call (.Name "isinstance" p) [.Name x p1, .Name T p2] [] pos) (eIsX tab i) :=
  weakE (pe_callB (call_isX B ht hT) hg hm (by decide +kernel) (pa_cons hv (pa_cons hTn pa_nil h3) h1) (by decide) (by decide) h1 h2) fun σ H Q ⟨ρ, G, h⟩ => by
    unfold eIsX at h
    split at h
    · next c f d e =>
      obtain ⟨a, e1, xa⟩ := G.exc i c f d e
      cases et : tab.lookup c with
      | none =>
        rw [et] at h
        exact h.elim
      | some b =>
        rw [et] at h
        exact ⟨.ref a, e1, a, c, f, d, b, rfl, xa.err (fun z => by rw [z, hne] at et; cases et), et, Aft.ok G h _ (.d (.bl b))⟩
    · exact h.elim
/-- x.f, x a kept error -/
theorem xd_fldX {cs : List Str} {i : Nat} {x f : Str} {p1 pos : Pos} (hT : ∀ (c f' : Str) (C : Addr), PySem.W.nsIn X.K mainGlobals c = some (some (.ref C)) → f' = f → c ∈ cs → XfC X.K C ∧ PySem.W.findIn X.K (.ref C) f = some none)
    (hv : PE X (.Name x p1) (tVar i)) (hb : attributeBase (.Name x p1) f X.env (eval (.Name x p1) X.env) = eval (.Name x p1) X.env := by rfl) (hne : ("" : Str) ∉ cs := by decide) : XD X n W (.Attribute (.Name x p1) f pos) (eFldX cs f i) := ⟨fun pins s σ H Q I ⟨ρ, G, h⟩ => by
  unfold eFldX at h
  split at h
  · next c f' d e =>
    obtain ⟨a, e1, xa⟩ := G.exc i c f' d e
    by_cases hf : f' = f ∧ c ∈ cs
    · rw [if_pos hf] at h
      obtain ⟨rfl, hc⟩ := hf
      refine attr_of hb (thn (hv.run pins s σ H (fun v H1 => v = .ref a ∧ H1 = H) I ⟨.ref a, e1, rfl, rfl⟩) ?_)
      rintro u s1 ⟨v, H1, I1, rx, rfl, rfl⟩
      cases rx
      obtain ⟨C, oe, od, v, u, nC, J, hl, ru, im⟩ := inst_of I1 (xa.err fun z => hne (z ▸ hc))
      obtain ⟨xf, no⟩ := hT c f' C nC rfl hc
      exact HandSPX.exc_get I1.kIn J xf.ga xf.gg xf.exC (PySem.W.findObj_own xf.hdC no rfl hl) (handed_of ru) ⟨v, H1, I1.tok _, ru, Aft.ok G h _ (.d im)⟩
    · rw [if_neg hf] at h
      exact h.elim
  · exact h.elim⟩
end
end Q
namespace Q
open PySem PySem.Spec PyProof.Rows L2 Gd
variable [Tbl]
/-! ### tables of classes -/
theorem tab_nil {P : Str → Bool → Prop} : ∀ c b, ([] : List (Str × Bool)).lookup c = some b → P c b := fun c b h => by cases h
theorem tab_cons {P : Str → Bool → Prop} {c0 : Str} {b0 : Bool} {r : List (Str × Bool)} (h0 : P c0 b0) (hr : ∀ c b, r.lookup c = some b → P c b) : ∀ c b, ((c0, b0) :: r).lookup c = some b → P c b := fun c b h => by
  by_cases e : c = c0
  · subst e
    simp [List.lookup] at h
    rw [← h]
    exact h0
  · have e2 : (c == c0) = false := by simpa using e
    simp [List.lookup, e2] at h
    exact hr c b h
theorem nsC {K : PySem.W.Frag} {mg : Str → Option Value} {c f : Str} {C fI C' : Addr} (T : ExcT K mg c f C fI) (h : PySem.W.nsIn K mainGlobals c = some (some (.ref C'))) : C' = C := by
  have := T.nC.symm.trans h
  cases this
  rfl
theorem tab_ex {K : PySem.W.Frag} {mg : Str → Option Value} {c f : Str} {C fI : Addr} {cv : Value} {b : Bool} (T : ExcT K mg c f C fI) (h : PySem.W.exmOne K (.ref C) cv = some b) : ∀ C', PySem.W.nsIn K mainGlobals c = some (some (.ref C')) → PySem.W.exmOne K (.ref C') cv = some b := fun C' e => by
  rw [nsC T e]
  exact h
theorem tab_is {K : PySem.W.Frag} {mg : Str → Option Value} {c f : Str} {C fI : Addr} {tv : Value} {b : Bool} (T : ExcT K mg c f C fI) (h : PySem.W.kitOne K (.ref C) tv = some b) : ∀ C', PySem.W.nsIn K mainGlobals c = some (some (.ref C')) →
    XfC K C' ∧ (PySem.W.clsIn K C').isSome = true ∧ PySem.W.findIn K (.ref C') "__class__" = some (some (.builtin "object.__class__")) ∧ PySem.W.mroIn K C' (.type "object") = some true ∧ PySem.W.kitOne K (.ref C') tv = some b := fun C' e => by
  rw [nsC T e]
  exact ⟨T.xf, T.cl, T.ca, T.mo, h⟩
theorem fld_nil {K : PySem.W.Frag} {f : Str} : ∀ (c f' : Str) (C : Addr), PySem.W.nsIn K mainGlobals c = some (some (.ref C)) → f' = f → c ∈ ([] : List Str) → XfC K C ∧ PySem.W.findIn K (.ref C) f = some none := fun _ _ _ _ _ h => nomatch h
theorem fld_cons {K : PySem.W.Frag} {mg : Str → Option Value} {c0 f : Str} {C0 fI : Addr} {r : List Str} (T : ExcT K mg c0 f C0 fI) (hr : ∀ (c f' : Str) (C : Addr), PySem.W.nsIn K mainGlobals c = some (some (.ref C)) → f' = f → c ∈ r → XfC K C ∧ PySem.W.findIn K (.ref C) f = some none) :
    ∀ (c f' : Str) (C : Addr), PySem.W.nsIn K mainGlobals c = some (some (.ref C)) → f' = f → c ∈ c0 :: r → XfC K C ∧ PySem.W.findIn K (.ref C) f = some none := fun c f' C e ef h => by
  by_cases z : c = c0
  · subst z
    rw [nsC T e]
    exact ⟨T.xf, T.noN⟩
  · exact hr c f' C e ef ((List.mem_cons.mp h).resolve_left z)
theorem kcls_ref {K : PySem.W.Frag} {t : Value} {C : Addr} {b : Bool} (h1 : PySem.W.isClsIn K C = true) (h2 : PySem.W.typeIn K (.ref C) = some (.type "type")) (h3 : PySem.W.subIn K t (.ref C) = some b) : PySem.W.kitCls K t (.ref C) = some b := by
  have h1 : (PySem.W.clsIn K C).isSome = true := h1
  show (if ((PySem.W.clsIn K C).isSome && PySem.W.typeIn K (.ref C) == some (.type "type")) = true then PySem.W.subIn K t (.ref C) else none) = some b
  rw [h1, h2, if_pos (by rfl)]
  exact h3
theorem exm_own {K : PySem.W.Frag} {t : Value} {C : Addr} {b : Bool} (h0 : PySem.W.subIn K (.ref C) (.type "BaseException") = some true) (h1 : PySem.W.isClsIn K C = true) (h2 : PySem.W.typeIn K (.ref C) = some (.type "type")) (h3 : PySem.W.subIn K t (.ref C) = some b) : PySem.W.exmOne K t (.ref C) = some b := by
  unfold PySem.W.exmOne
  rw [h0, if_pos (by rfl)]
  exact kcls_ref h1 h2 h3
theorem kit_own {K : PySem.W.Frag} {c C : Addr} {b : Bool} (h1 : PySem.W.isClsIn K C = true) (h2 : PySem.W.typeIn K (.ref C) = some (.type "type")) (h3 : PySem.W.subIn K (.ref c) (.ref C) = some b) (h4 : (Value.ref c == Value.ref C) = true → b = true) : PySem.W.kitOne K (.ref c) (.ref C) = some b := by
  unfold PySem.W.kitOne
  split
  · next h =>
    rw [h4 h]
  · exact kcls_ref h1 h2 h3
def cbody : Stmt → List Stmt
  | .ClassDef (body := b) .. => b
  | _ => []
end Q
namespace Q
open PySem PySem.Spec PyProof.Rows L2 Gd
variable [Tbl]
/-! ### d[k] = v -/
def unKV : List (D × D) → Option (List (Key × D))
  | [] => some []
  | (k, v) :: r => match keyOf k, unKV r with
    | some k, some r => some ((k, v) :: r)
    | _, _ => none
@[simp] def setKd (i : Nat) (x : D) (j : R) (ρ : Ev) : Rt Out := match look ρ j, ρ[i]? with
  | some kd, some (.own (.dk ds)) => match keyOf kd, unKV ds with
    | some k, some gd => if ds.length < sizeLine then .ok .nx (ρ.set i (.own (.dk (toKV (putG gd k x))))) else .no
    | _, _ => .no
  | _, _ => .no
@[simp] def bSetK (i : Nat) (f : Mo R) (g : Mo R) : Mo Out := fun ρ => (f ρ).bind fun r ρ1 => match r, ρ1[i]? with
  | .d x, some (.own (.dk _)) => (g ρ1).bind fun j ρ2 => setKd i x j ρ2
  | _, _ => .no
section
variable {X : Cx} {n : Nat} {W : XW}
/-- x is None as a test, x a kept error or data -/
theorem xb_nonX {i : Nat} {a b : Expr} {pos : Pos} (hv : PE X a (tVar i)) (hb : PE X b (tC .non)) (hm : behindInMarks .Is b = false) : XB X n W (.Compare a [.Is] [b] pos) (asB (eNonX i)) := weakT (pt_cmpR op_isN hv hb hm) fun σ H Q h => by
  obtain ⟨ρ, G, h⟩ := asB_run h
  unfold eNonX at h
  split at h
  · next c f d e =>
    obtain ⟨a, e1, xa⟩ := G.exc i c f d e
    exact ⟨.ref a, e1, rfl, Aft.ok G h _ (.d (.bl false))⟩
  · next d e =>
    obtain ⟨v, e1, im⟩ := G.dat i d e
    refine ⟨v, e1, rfl, ?_⟩
    rw [vw_non (.im im)]
    exact Aft.ok G h _ (.d (.bl _))
  · exact h.elim
end
end Q
namespace Q
open PySem PySem.Spec PyProof.Rows L2 Gd
variable [Tbl]
/-! ### a, b, .. = x, y, .. of any kinds -/
@[simp] def runMs : List M1 → Ev → Rt (List Sl)
  | [], ρ => .ok [] ρ
  | m :: ms, ρ => (runM m ρ).bind fun s ρ1 => (runMs ms ρ1).bind fun ss ρ2 => .ok (s :: ss) ρ2
@[simp] def puts : List Nat → List Sl → Ev → Option Ev
  | [], [], ρ => some ρ
  | i :: is, s :: ss, ρ => (put i s ρ).bind (puts is ss)
  | _, _, _ => none
@[simp] def bMany (is : List Nat) (ms : List M1) : Mo Out := fun ρ => (runMs ms ρ).bind fun ss ρ1 => nxt (puts is ss ρ1)
inductive SRs (K : PySem.W.Frag) (H0 H : Hp) (σ : L2.St) (ρ : Ev) : List V → List Sl → Prop
  | nil : SRs K H0 H σ ρ [] []
  | cons {v : V} {s : Sl} {vs : List V} {ss : List Sl} : SR K H0 H σ ρ v s → (∀ (p : Addr) (o : Ob), v = .ref p → s = .own o → ∀ (k : Nat) (o' : Ob), vs[k]? = some (.ref p) → ss[k]? = some (.own o') → False) → SRs K H0 H σ ρ vs ss → SRs K H0 H σ ρ (v :: vs) (s :: ss)
section
variable {K : PySem.W.Frag} {n : Nat} {H0 H1 H H' : Hp} {σ σ' : L2.St} {ρ ρ' : Ev}
theorem SRs.get : ∀ {vs : List V} {ss : List Sl} {k : Nat} {v : V} {s : Sl}, SRs K H0 H σ ρ vs ss → vs[k]? = some v → ss[k]? = some s → SR K H0 H σ ρ v s
  | _, _, 0, _, _, .cons h _ _, a, b => by
    cases a
    cases b
    exact h
  | _, _, k + 1, _, _, .cons _ _ r, a, b => SRs.get (k := k) r a b
end
def tMs (K : PySem.W.Frag) (n : Nat) (W : XW) (ms : List M1) : TA := fun σ H Q => ∃ ρ, Good K H σ ρ ∧ Aft K n W H σ ρ (runMs ms ρ) fun ss ρ' H' => ∀ vs, SRs K H H' σ ρ' vs ss → Q vs H'
section
variable {X : Cx} {n : Nat} {W : XW}
abbrev XMs (X : Cx) (n : Nat) (W : XW) (es : List Expr) (ms : List M1) : Prop := PA X es (tMs X.K n W ms)
def setAll (σ : L2.St) : List Nat → List V → L2.St
  | i :: is, v :: vs => setAll (σ.set i (some v)) is vs
  | _, _ => σ
def gNames (is : List Nat) : TGs := fun vs σ H Q => vs.length = is.length ∧ Q (setAll σ is vs) H
end
end Q
namespace Q
open PySem PySem.Spec PyProof.Rows L2 Gd
variable [Tbl]
/-! ### f(x), x new and f's own from then on -/
@[simp] def eCallN (F : Fn) (m : Mo Ob) : Mo R := fun ρ => (m ρ).bind fun o ρ1 => (F [.own o]).bnd fun s _ => match s with
  | .dat x => .ok (.d x) ρ1
  | _ => .no
section
variable {X : Cx} {n : Nat} {W : XW} {k : Nat} {f : Addr} {fd : FuncData} {ps : List Str} {x : Str} {p pos : Pos} {e : Expr} {m : Mo Ob} {F : Fn}
end
end Q
namespace SetS
open PySem PySem.Spec PyProof.Rows L2 Gd PySem.Froz
/-! ### sets of texts whose walk is known: add, sorted -/
def keyS (e : Int × Value) : Str := match e.2 with
  | .str k _ => k
  | _ => Str.empty
/-- the set at a holds the texts l -/
def Is (P : Program) (w : World) (h : Heap) (a : Addr) (l : List Str) : Prop :=
  ∃ D : SD, h.get? a = some (sObj "set" D) ∧ TxOk P w D l ∧ (D.1.toList.map keyS).Perm l ∧ (∀ e ∈ D.1.toList, ∃ u, e.2 = Value.str (keyS e) u) ∧ Ris D.2.2.place.toList ∧ (w.params.followText "set-order" = true ∨ D.2.2.led = true)
def add (l : List Str) (k : Str) : List Str := if l.contains k = true then l else k :: l
section
variable {P : Program} {w : World} {A : Around} {E : Value → Shared → Prop} {s : Shared} {h h' : Heap} {a : Addr} {l : List Str}
theorem Is.at (R : Is P w h a l) (k : ∀ o, h.get? a = some o → h'.get? a = some o) : Is P w h' a l := by
  obtain ⟨D, ho, rest⟩ := R
  exact ⟨D, k _ ho, rest⟩
theorem tail_ris {ep : Nat} {es : Array (Int × Value)} {t : SetTable} {d : Bool} (r : Ris t.place.toList) : Ris (tailTx ep es t d).2.2.place.toList := by
  unfold tailTx
  split
  · exact relayAll_ris _ _ _
  · exact r
theorem tail_led {ep : Nat} {es : Array (Int × Value)} {t : SetTable} {d : Bool} : (tailTx ep es t d).2.2.led = t.led := by
  unfold tailTx
  split
  · exact relayAll_led _ _ _
  · rfl
theorem tail_perm {ep : Nat} {es : Array (Int × Value)} {t : SetTable} {d : Bool} : (tailTx ep es t d).1.toList.Perm es.toList := by
  unfold tailTx
  split
  · exact relayAll_perm _ _ _
  · exact List.Perm.refl _
theorem add_ris {hs : Int} {v : Value} {D : SD} (r : Ris D.2.2.place.toList) : Ris (addTx hs v D).2.2.place.toList := by
  unfold addTx
  refine tail_ris ?_
  have q := layNew_ris D.2.2 D.1 hs v r
  split <;> exact q
theorem add_led {hs : Int} {v : Value} {D : SD} : (addTx hs v D).2.2.led = D.2.2.led := by
  unfold addTx
  rw [tail_led]
  have q := layNew_led D.2.2 D.1 hs v
  split <;> exact q
theorem add_perm {hs : Int} {v : Value} {D : SD} : (addTx hs v D).1.toList.Perm ((hs, v) :: D.1.toList) := by
  unfold addTx
  refine tail_perm.trans ((layNew_perm D.2.2 D.1 hs v).trans ?_)
  rw [Array.toList_push]
  exact List.perm_append_singleton _ _
/-- what an add makes of it -/
theorem Is.more {k : Str} {u : Tok} {D : SD} (F : TxOk P w D l) (pm : (D.1.toList.map keyS).Perm l) (g : ∀ e ∈ D.1.toList, ∃ u, e.2 = Value.str (keyS e) u) (r : Ris D.2.2.place.toList) (led : w.params.followText "set-order" = true ∨ D.2.2.led = true)
    (ho : h.get? a = some (sObj "set" (addTx (hashStr w k) (.str k u) D))) : Is P w h a (k :: l) := by
  refine ⟨_, ho, add_ok u F, (add_perm.map keyS).trans (pm.cons k), fun e he => ?_, add_ris r, led.imp id fun z => by rw [add_led]; exact z⟩
  rcases List.mem_cons.mp (add_perm.mem_iff.mp he) with z | z
  · rw [z]
    exact ⟨u, rfl⟩
  · exact g e z
theorem add_hashed {k : Str} {u : Tok} {Q : Bool → Shared → Prop} (R : Is P w s.heap a l) (room : l.length + 1 < scanBound)
    (hQ : ∀ b h', Heap.SameBut a s.heap h' → Is P w h' a (add l k) → Q b { s with heap := h' }) : wpAny (model P w) A (setAddHashed a (.str k u) (hashStr w k)) Q E s := by
  obtain ⟨D, ho, F, pm, g, r, led⟩ := R
  by_cases c : l.contains k = true
  · have hk : k ∈ l := List.contains_iff_mem.mp c
    have hQ' := hQ false s.heap (Heap.SameBut.refl a s.heap) (by
      unfold add
      rw [if_pos c]
      exact ⟨D, ho, F, pm, g, r, led⟩)
    obtain ⟨es, ep, t⟩ := D
    have hd : (sObj "set" (es, ep, t)).data = .set es ep t := rfl
    have hf : t.fits es.size = true := F.fit
    have hel : ElemsOf (strKind P w) es.toList := F.el
    have hsz : es.size = l.length := F.sz
    have hkey : (strKind P w).is k (.str k u) = true := is_str k u
    obtain ⟨e, he, ez⟩ := (F.mem k).mp hk
    unfold setAddHashed setAddHashedIn
    refine wpAny_holding (wpAny_bind (wpAny_setState_of ho hd hf ?_))
    dsimp only
    rw [byScan_of rfl (by omega) hel]
    simp only [↓reduceIte]
    unfold setAddByScan
    refine wpAny_bind ?_
    refine wpAny_bind (wpAny_rule ?_)
    refine wpAny_bind (wpAny_setScan_of (knd := strKind P w) (k := k) hkey ho hd hf hel ?_)
    cases hfi : List.findIdx? (fun e => (strKind P w).is k e.2) es.toList with
    | none =>
      have z := List.findIdx?_eq_none_iff.mp hfi e he
      rw [ez] at z
      cases z
    | some j =>
      dsimp only
      exact wpAny_pure (wpAny_pure hQ')
  · have hk : k ∉ l := fun z => c (List.contains_iff_mem.mpr z)
    refine add_x ho F hk room (hQ true _ (Heap.SameBut.update _ a _) ?_)
    unfold add
    rw [if_neg c]
    exact Is.more F pm g r led (get_upd _ ho rfl)
theorem call_add {k : Str} {u : Tok} {Q : Value → Shared → Prop} (R : Is P w s.heap a l) (room : l.length + 1 < scanBound)
    (hQ : ∀ h', Heap.SameBut a s.heap h' → Is P w h' a (add l k) → Q .none { s with heap := h', toks := s.toks + 1 }) : wpAny (model P w) A (call (.builtin "set.add") [.ref a, .str k u]) Q E s := by
  have hT : s.TypeIs (.ref a) "set" := by
    obtain ⟨D, ho, _⟩ := id R
    exact ⟨_, ho, rfl⟩
  refine wpAny_call_entry F.slot_set_add hT F.entry_set_add ?_ (F.args_set_add_2 _ _)
  unfold Builtin.«set.add» Builtin.Frozenset.oneOther
  simp only [List.isEmpty_nil, bind_assoc]
  unfold Builtin.Frozenset.addrOf setAdd
  refine wpAny_bind (wpAny_pure ?_)
  try dsimp only
  refine wpAny_bind (wpAny_pure ?_)
  try dsimp only
  refine wpAny_bind ?_
  refine wpAny_holding ?_
  refine wpAny_bind ((strKind P w).pyHash (is_str k u) ?_)
  refine add_hashed (s := { s with toks := s.toks + 1 }) R room fun b h' sb r => ?_
  show wpAny _ _ (ret Value.none) _ _ _
  exact wpAny_pure ⟨_, rfl, hQ h' sb r⟩
theorem fresh {h : Heap} : Is P w (h.push { cls := .type "set", dict := none, data := .set #[] 0 (.fresh 0 0 (!w.params.followText "set-order")) }) h.objs.size [] :=
  ⟨(#[], 0, .fresh 0 0 (!w.params.followText "set-order")), Heap.get?_push_size _ rfl, TxOk.nil (by rfl), List.Perm.refl _, (fun e he => nomatch he), List.Pairwise.nil, by
    show _ ∨ (!w.params.followText "set-order") = true
    cases w.params.followText "set-order"
    · exact .inr rfl
    · exact .inl rfl⟩
theorem strs_of : ∀ (vs : List Value), (∀ v ∈ vs, ∃ k u, v = Value.str k u) → StrsAre vs (vs.map fun v => keyS (0, v))
  | [], _ => .nil
  | v :: vs, h => by
    obtain ⟨k, u, rfl⟩ := h v List.mem_cons_self
    exact .cons k u (strs_of vs fun v hv => h v (List.mem_cons_of_mem _ hv))
theorem call_sorted {Q : Value → Shared → Prop} (R : Is P w s.heap a l) (hh : A.handled = none) (h64 : l.length < 64)
    (hQ : ∀ s' p (out : Array Value) (c : Nat) (ys : List Str), (∀ b o, s.heap.get? b = some o → s'.heap.get? b = some o) → s'.gens = s.gens → s'.os = s.os → s.heap.objs.size ≤ p →
      s'.heap.get? p = some (seqObj "list" out c) → StrsAre out.toList ys → ys.Perm l → sortedS ys = true → Q (.ref p) s') :
    wpAny (model P w) A (call (.builtin "sorted") [.ref a]) Q E s := by
  obtain ⟨D, ho, F, pm, g, r, led⟩ := R
  have hsz : D.1.size = l.length := F.sz
  refine Calls.call_function_entry kind_sorted plain_sorted entry_sorted (args_sorted1 _) ?_
  unfold Builtin.«sorted»
  refine wpAny_bind (m := checkCount "sorted" 1 1 _) (wpAny_pure ?_)
  refine wpAny_bind (collect_set (A := A.in1) (es := D.1) (ep := D.2.1) (t := D.2.2) hh ⟨_, ho, rfl, rfl⟩ F.fit (by rw [hsz]; exact Nat.lt_trans h64 (by decide)) r led fun s1 vs k1 hz g1 o1 pv => ?_)
  have hvl : vs.length = l.length := by rw [pv.length_eq, List.length_map, Array.length_toList]; exact hsz
  have hS : StrsAre vs (vs.map fun v => keyS (0, v)) := strs_of vs fun v hv => by
    obtain ⟨e, he, q⟩ := List.mem_map.mp (pv.mem_iff.mp hv)
    obtain ⟨u, eu⟩ := g e he
    exact ⟨_, u, by rw [← q]; exact eu⟩
  have pk : (vs.map fun v => keyS (0, v)).Perm l := by
    have q := pv.map fun v => keyS (0, v)
    rw [List.map_map] at q
    exact q.trans pm
  refine wpAny_bind (wpAny_newList ?_ (by rw [hvl, sizeLine_eq]; omega))
  have hoL : (s1.heap.push (seqObj "list" vs.toArray 0)).get? s1.heap.objs.size = some (seqObj "list" vs.toArray 0) := Heap.get?_push_size _ rfl
  refine wpAny_bind (wpAny_holding (wpAny_call_entry slot_list_sort ⟨_, hoL, rfl⟩ entry_list_sort (list_sort_treeK strKind_oneLt (s := { s1 with heap := s1.heap.push (seqObj "list" vs.toArray 0) }) hoL hS.keysOf (fun _ _ _ e => keyKind_strs (by rw [← e]; exact hS)) (by omega) fun st hp hs => ⟨_, rfl, ?_⟩) (args_list_sort _)))
  obtain ⟨ys, g1', g2', g3'⟩ := sorted_out_str hS hp hs
  obtain ⟨c, hc⟩ := sortedHeap_at (vs := vs) (out := (arrOf st).map (·.2)) hoL
  refine wpAny_pure ⟨_, rfl, hQ _ s1.heap.objs.size _ c ys (fun b u e => ?_) g1 o1 hz hc g1' (g2'.trans pk) g3'⟩
  have q := k1 b u e
  have hlt := Heap.lt_size q
  show (sortedHeap (s1.heap.push (seqObj "list" vs.toArray 0)) s1.heap.objs.size vs _).get? b = some u
  rw [sortedHeap_old (Nat.ne_of_lt hlt) (by rw [size_push']; exact Nat.lt_succ_of_lt hlt)]
  exact Heap.get?_push_of_some _ q
end
end SetS
namespace SetS
open PySem PySem.Spec PyProof.Rows L2 Gd PySem.Froz PpSet
/-! ### the text set as a tracked thing -/
def SO (P : Program) (w : World) (a : Addr) (l : List Str) : HO := .ext fun h => Is P w h a l
theorem so_new {w : World} {P : Program} {H : Hp} {h : Heap} {a : Addr} {l : List Str} (R : Is P w h a l) : ObjOk P w H h a (SO P w a l) := by
  have ⟨D, ho, _⟩ := R
  exact ⟨R, ⟨_, ho⟩, fun h1 h2 p k => Is.at p k⟩
section
variable {X : Cx}
theorem so_get {pins : List (Addr × Obj)} {σ : L2.St} {H : Hp} {s : Shared} {a : Addr} {l : List Str} (I : Inv X pins σ H s) (ha : H a = some (SO X.prog X.w a l)) : Is X.prog X.w s.heap a l := (I.hok a _ ha).1
theorem so_add {pins : List (Addr × Obj)} {σ : L2.St} {H : Hp} {s : Shared} {E : Value → Shared → Prop} {D : Addr} {l : List Str} {k : Str} {v : Value} {Q : Value → Shared → Prop} (I : Inv X pins σ H s) (hD : H D = some (SO X.prog X.w D l)) (room : l.length + 1 < scanBound) (r : RelV (.str k) v)
    (h : ∀ s', Inv X pins σ (upd H D (SO X.prog X.w D (add l k))) s' → Q .none s') : wpAny (model X.prog X.w) X.A (call (.builtin "set.add") [.ref D, v]) Q E s := by
  have R := so_get I hD
  obtain ⟨u, rfl⟩ := r
  refine call_add R room fun h' sb new => ?_
  have he : ∃ u, h'.get? D = some u := by
    have ⟨D', ho, _⟩ := new
    exact ⟨_, ho⟩
  exact h _ (I.write (e := D) (t' := s.toks + 1) (by rw [hD]; trivial) (.inl rfl) (fun b u hb hu => (sb.2 b hb).trans hu) he (so_new new))
/-- sorted(s), s a tracked set of texts -/
def rSortS (P : Program) (w : World) : List V → Hp → VK → Prop := fun vs H Q => ∃ (a : Addr) (l : List Str), vs = [V.ref a] ∧ H a = some (SO P w a l) ∧ l.length < 64 ∧ ∀ (ys : List Str) (p : Addr), ys.Perm l → sortedS ys = true → H p = none → Q (.ref p) (upd H p (.lst (ys.map V.str)))
theorem cr_sortS (hc : X.calm = true) : CallR X (.builtin "sorted") (rSortS X.prog X.w) := by
  rintro pins s σ H vs us Q I r ⟨a, l, rfl, ha, h64, q⟩
  obtain ⟨u, rfl, rx⟩ := vals1 r
  cases rx
  refine call_sorted (so_get I ha) (I.ok.hd hc) h64 fun s' p out c ys kk hg ho hz hp hs pm so => ?_
  have small : (ys.map V.str).length ≤ sizeLine := by
    rw [List.length_map, pm.length_eq, sizeLine_eq]
    omega
  have hn : H p = none := I.hok.fresh hz
  have J : Inv X pins σ (upd H p (.lst (ys.map V.str))) s' :=
    I.call' (ch := []) ho (Un.laid kk hz hn) (I.hok.laid kk hz ⟨small, out.toList, c, vals_of_strs hs, by rw [Array.toArray_toList]; exact hp⟩) (by rw [hg]; exact I.bare) (fun _ z => nomatch z)
  exact ⟨.ref p, _, J, rfl, q ys p pm so hn⟩
end
/-! ### the comprehension with two fors -/
section
variable {prog : Program} {w : World} {A : Around} {R : Result → Shared → Prop} {s : Shared} {env : Env} {elt t1 it1 t2 it2 : Expr} {scope : Scope} {pos : Pos} {it acc : Value}
abbrev Sc2 (elt t1 it1 t2 it2 : Expr) (scope : Scope) (pos : Pos) : Expr := .SetComp elt [⟨t1, it1, [], 0⟩, ⟨t2, it2, [], 0⟩] scope pos
theorem turn_in : compTurn (Sc2 elt t1 it1 t2 it2 scope pos) 1 it acc env = (do
      standAt it2.pos
      match ← pyNext it with
      | none => pure (.done .next)
      | some v =>
        letOwnedTupleGo t2 it v
        assign t2 env v
        let mut ok := true
        for c in ([] : List Expr) do
          if ok then ok ← isTrue c env (eval c env)
        if ok then
          (do let v ← eval elt env; standAt elt.pos; let _ ← call (.builtin "set.add") [acc, v])
        again (.compLoop (Sc2 elt t1 it1 t2 it2 scope pos) 1 it acc env)) := by rfl
theorem turn_out : compTurn (Sc2 elt t1 it1 t2 it2 scope pos) 0 it acc env = (do
      standAt it1.pos
      match ← pyNext it with
      | none => pure (.done .next)
      | some v =>
        letOwnedTupleGo t1 it v
        assign t1 env v
        let mut ok := true
        for c in ([] : List Expr) do
          if ok then ok ← isTrue c env (eval c env)
        if ok then
          let x ← eval it2 env
          standAt it2.pos
          let x ← foldedSetIterable it2 env x
          let _ ← runOwn (.compStart (Sc2 elt t1 it1 t2 it2 scope pos) 1 (← holding [x] (pyIter x)) acc env) env
        again (.compLoop (Sc2 elt t1 it1 t2 it2 scope pos) 0 it acc env)) := by rfl
abbrev No : Value → Shared → Prop := fun _ _ => False
theorem loop_in (I : Nat → Shared → Prop)
    (turn : ∀ n s, I n s → wpAny (model prog w) A (pyNext it) (fun r s₁ => match r with
      | none => R (.ok .next) s₁
      | some v => wpAny (model prog w) A (letOwnedTupleGo t2 it v) (fun _ s₁' => wpAny (model prog w) A (assign t2 env v) (fun _ s₂ =>
          wpAny (model prog w) A (eval elt env) (fun x s₄ => wpAny (model prog w) A (call (.builtin "set.add") [acc, x]) (fun _ s₅ => ∃ m, m < n ∧ I m s₅) No s₄) No s₂) No s₁') No s₁) No s)
    (n : Nat) (h : I n s) : codeAny (model prog w) A (.compLoop (Sc2 elt t1 it1 t2 it2 scope pos) 1 it acc env) R s := by
  refine codeAny_loop rfl I (fun n s hI => ?_) n h
  show wpAny _ A ((compTurn (Sc2 elt t1 it1 t2 it2 scope pos) 1 it acc env).onRaise (fun x => do noteFrame x env; theTreesLotGoes x)) _ _ s
  refine wpAny_noted ?_
  rw [turn_in]
  refine wpAny_bind (wpAny_standAt (wpAny_bind (thnF (turn n s hI) fun r s₁ h₁ => ?_)))
  cases r with
  | none => exact wpAny_pure h₁
  | some v =>
    refine wpAny_bind (thnF h₁ fun _ s₁' h₁' => ?_)
    refine wpAny_bind (thnF h₁' fun _ s₂ h₂ => wpAny_bind (wpAny_tests_nil ?_))
    exact wpAny_bind (wpAny_bind (thnF h₂ fun x s₄ h₄ => wpAny_bind (wpAny_standAt (wpAny_bind (thnF h₄ fun _ s₅ h₅ => wpAny_pure (wpAny_pure ⟨rfl, h₅⟩))))))
theorem start_in
    (h0 : codeAny (model prog w) A (.compLoop (Sc2 elt t1 it1 t2 it2 scope pos) 1 it acc env) R s)
    (h : wpAny (model prog w) A (pyIter it) (fun it' s' => codeAny (model prog w) A (.compLoop (Sc2 elt t1 it1 t2 it2 scope pos) 1 it' acc env) R s')
      (notedBy (model prog w) A env fun x s' => R (.error x) s') s) :
    codeAny (model prog w) A (.compStart (Sc2 elt t1 it1 t2 it2 scope pos) 1 it acc env) R s := by
  refine codeAny_of_tree ?_
  show wpAny _ _ ((compStart (Sc2 elt t1 it1 t2 it2 scope pos) 1 it acc env).onRaise (fun x => do noteFrame x env; standAt theWindowsPlace)) _ _ s
  refine wpAny_notedAt ?_
  unfold compStart
  show wpAny _ _ (ask >>= _) _ _ s
  refine wpAny_bind (wpAny_askSetting (wpAny_ite ?_))
  split
  · first
      | exact wpAny_bind (wpAny_pure (wpAny_pure (And.intro rfl h0)))
      | exact wpAny_pure (And.intro rfl h0)
  · first
      | exact wpAny_bind (wpAny_rule (wpAny_bind (wpAny_standAt (wpAny_bind (wpAny_mono h (fun it' s' h' => wpAny_pure (And.intro rfl h')) fun _ _ x => x)))))
      | (refine wpAny_bind (wpAny_rule ?_); show wpAny _ _ (standAt it2.pos >>= _) _ _ s; exact wpAny_bind (wpAny_standAt (wpAny_bind (wpAny_mono h (fun it' s' h' => wpAny_pure (And.intro rfl h')) fun _ _ x => x))))
theorem loop_out (hs : ∀ x, foldedSetIterable it2 env x = pure x) (I : Nat → Shared → Prop)
    (turn : ∀ n s, I n s → wpAny (model prog w) A (pyNext it) (fun r s₁ => match r with
      | none => R (.ok .next) s₁
      | some v => wpAny (model prog w) A (letOwnedTupleGo t1 it v) (fun _ s₁' => wpAny (model prog w) A (assign t1 env v) (fun _ s₂ =>
          wpAny (model prog w) A (eval it2 env) (fun x s₄ => wpAny (model prog w) A (pyIter x) (fun it' s₅ =>
            codeAny (model prog w) A (.compStart (Sc2 elt t1 it1 t2 it2 scope pos) 1 it' acc env) (fun r s' => ∃ f, r = .ok f ∧ ∃ m, m < n ∧ I m s') s₅) No s₄) No s₂) No s₁') No s₁) No s)
    (n : Nat) (h : I n s) : codeAny (model prog w) A (.compLoop (Sc2 elt t1 it1 t2 it2 scope pos) 0 it acc env) R s := by
  refine codeAny_loop rfl I (fun n s hI => ?_) n h
  show wpAny _ A ((compTurn (Sc2 elt t1 it1 t2 it2 scope pos) 0 it acc env).onRaise (fun x => do noteFrame x env; theTreesLotGoes x)) _ _ s
  refine wpAny_noted ?_
  rw [turn_out]
  refine wpAny_bind (wpAny_standAt (wpAny_bind (thnF (turn n s hI) fun r s₁ h₁ => ?_)))
  cases r with
  | none => exact wpAny_pure h₁
  | some v =>
    refine wpAny_bind (thnF h₁ fun _ s₁' h₁' => ?_)
    refine wpAny_bind (thnF h₁' fun _ s₂ h₂ => wpAny_bind (wpAny_tests_nil ?_))
    refine wpAny_bind (thnF h₂ fun x s₄ h₄ => ?_)
    refine wpAny_bind (wpAny_standAt (wpAny_bind (wpAny_of_eq (hs x) ?_)))
    refine wpAny_bind (wpAny_holding (thnF h₄ fun it' s₅ h₅ => ?_))
    refine wpAny_bind (wpAny_runOwn (codeAny_mono h₅ fun r s' ⟨f, e, h⟩ => ?_))
    subst e
    exact wpAny_pure ⟨rfl, h⟩
theorem start_out
    (h0 : codeAny (model prog w) A (.compLoop (Sc2 elt t1 it1 t2 it2 scope pos) 0 it acc env) R s)
    (h : wpAny (model prog w) A (pyIter it) (fun it' s' => codeAny (model prog w) A (.compLoop (Sc2 elt t1 it1 t2 it2 scope pos) 0 it' acc env) R s')
      (notedBy (model prog w) A env fun x s' => R (.error x) s') s) :
    codeAny (model prog w) A (.compStart (Sc2 elt t1 it1 t2 it2 scope pos) 0 it acc env) R s := PpSet.codeAny_compStart_set h0 h
end
end SetS
namespace SetS
open PySem PySem.Spec PyProof.Rows L2 Gd PySem.Froz PpSet
theorem wipe_out' {σ : L2.St} {i : Nat} : ∀ {vs : List Nat}, i ∉ vs → (wipe σ vs)[i]? = σ[i]?
  | [], _ => rfl
  | v :: vs, h => by
    unfold wipe
    rw [List.getElem?_set_ne fun z => h (by rw [z]; exact List.mem_cons_self), wipe_out' fun z => h (List.mem_cons_of_mem _ z)]
def tSc2 (P : Program) (w : World) (wi1 : TI) (g1 : TG) (wi2 : TI) (g2 : TG) (te : TE) (vs vs2 : List Nat) : TE := fun σ H Q => wi1 σ H fun J H1 => ∀ D, H1 D = none → ∃ W : Nat → Nat → Hp → Prop, (∃ m, W 0 m (upd H1 D (SO P w D []))) ∧ ∀ i m H, W i m H →
  (J.stop i H ∧ Q (.ref D) H) ∨ (J.go i H ∧ ∃ Nx : Hp → Prop, (∀ H', Nx H' → ∃ m', m' < m ∧ W (i + 1) m' H') ∧ ∀ x H', J.yld i H x H' → g1 x (wipe σ vs) H' fun σ2 H2 => wipe σ2 vs = wipe σ vs ∧ wi2 σ2 H2 fun J2 H3 =>
    ∃ W2 : Nat → Nat → Hp → Prop, (∃ m, W2 0 m H3) ∧ ∀ i m H, W2 i m H → (J2.stop i H ∧ Nx H) ∨ (J2.go i H ∧ ∃ Nx2 : Hp → Prop, (∀ H', Nx2 H' → ∃ m', m' < m ∧ W2 (i + 1) m' H') ∧ ∀ x H', J2.yld i H x H' → g2 x (wipe σ2 vs2) H' fun σ3 H4 =>
      wipe σ3 vs2 = wipe σ2 vs2 ∧ te σ3 H4 fun y H5 => ∃ c l, y = .str c ∧ H5 D = some (SO P w D l) ∧ l.length + 1 < scanBound ∧ Nx2 (upd H5 D (SO P w D (add l c)))))
section
variable {X : Cx}
theorem sc2_core {pins : List (Addr × Obj)} {s : Shared} {σ : L2.St} {H : Hp} {Q : VK} {elt tg iter tg2 iter2 : Expr} {scope : Scope} {own : List (PySem.Str × Nat)} {vs2 : List Nat} {pos pos' : Pos} {wi1 wi2 : TI} {g1 g2 : TG} {te : TE} {use : Option (Value → Sem Unit)} {Qf : Value → Shared → Prop}
    (hc : X.calm = true) (hN : X.N.Nodup) (I : Inv X pins σ H s) (hi : PI X tg iter wi1) (ok : BlkOk X.N X.env.scope scope own) (hv2 : ∀ v ∈ vs2, v ∈ own.map (·.2))
    (hg : ∀ (s : Shared) (H : Hp) (C : Addr) (cl : List (PySem.Str × Addr)) (fp : List Addr), PG (X.blk s H scope (compEnvC scope cl C X.env) fp) tg g1)
    (hi2 : ∀ (s : Shared) (H : Hp) (C : Addr) (cl : List (PySem.Str × Addr)) (fp : List Addr), PI (X.blk s H scope (compEnvC scope cl C X.env) fp) tg2 iter2 wi2)
    (hg2 : ∀ (s : Shared) (H : Hp) (C : Addr) (cl : List (PySem.Str × Addr)) (fp : List Addr), PG (X.blk s H scope (compEnvC scope cl C X.env) fp) tg2 g2)
    (he : ∀ (s : Shared) (H : Hp) (C : Addr) (cl : List (PySem.Str × Addr)) (fp : List Addr), PE (X.blk s H scope (compEnvC scope cl C X.env) fp) elt te) (hs : ∀ x, foldedSetIterable iter X.env x = pure x) (hs2 : ∀ (env : Env) x, foldedSetIterable iter2 env x = pure x)
    (h : tSc2 X.prog X.w wi1 g1 wi2 g2 te (own.map (·.2)) vs2 σ H Q)
    (hRR : ∀ D C s' m H', Inv X pins σ H' s' → Q (.ref D) H' → s'.heap.Ns C m → FpOk X pins H' C → compPost (model X.prog X.w) X.A X.xe use Qf (.ref D) C (.ok .next) s') :
    wpAny (model X.prog X.w) X.A (comprehension (Sc2 elt tg iter tg2 iter2 scope pos) scope X.env pos' (newSet (.type "set")) false (eval iter X.env) use) Qf X.xe s := by
  have hfree : ∀ y ∈ scope.names, y.2 = .free → ∃ c, X.env.cells.lookup y.1 = some c := fun y hy e => by
    rcases ok.free y hy e with k | k
    · exact I.ok.has _ (.inl k)
    · exact I.ok.has _ (.inr k)
  refine wpAny_comprehension_free (use := use) rfl hs (closure_ok hfree) ok.kind (fun y hy e => by rw [ok.uniq y hy, e])
    (thn (hi.run pins s σ H _ I h) fun xv s1 hx => thn hx fun itv s2 h2 => ?_)
  obtain ⟨it, fp, tn, J, H2, e, I2, T, st2, f2, q⟩ := h2
  subst e
  refine newSet_ok (newEnv_comp ?_)
  generalize hD : s2.heap.objs.size = D
  have hDn : H2 D = none := I2.hok.fresh (Nat.le_of_eq hD)
  obtain ⟨W, ⟨m0, w0⟩, turn⟩ := q D hDn
  generalize hs3 : ({ s2 with heap := s2.heap.push { cls := .type "set", dict := none, data := .set #[] 0 (.fresh 0 0 (!X.w.params.followText "set-order")) } } : Shared) = s3
  have I3 : Inv X pins σ (upd H2 D (SO X.prog X.w D [])) s3 := by
    rw [← hs3]
    refine I2.laid (t' := s2.toks) (fun b o e => Heap.get?_push_of_some _ e) (Nat.le_of_eq hD) ?_
    rw [← hD]
    exact so_new fresh
  have h3 : s3.heap = s2.heap.push { cls := .type "set", dict := none, data := .set #[] 0 (.fresh 0 0 (!X.w.params.followText "set-order")) } := by rw [← hs3]
  have sz : ∀ b ∈ fp, b < s2.heap.objs.size := fun b hb => by
    obtain ⟨o, e, _⟩ := T.obj _ _ st2 b hb
    exact Heap.lt_size e
  have f3 : ∀ b ∈ fp, FpOk X pins (upd H2 D (SO X.prog X.w D [])) b ∧ b < s3.heap.objs.size := fun b hb => by
    have hlt := sz b hb
    refine ⟨⟨?_, (f2 b hb).2⟩, by rw [h3, Heap.size_push]; exact Nat.lt_succ_of_lt hlt⟩
    rw [upd_ne (by rw [← hD]; exact Nat.ne_of_lt hlt)]
    exact (f2 b hb).1
  have st3 : tn 0 s3.heap := T.keep _ _ _ st2 fun b _ o e => by rw [h3]; exact Heap.get?_push_of_some _ e
  have I4 := block_start I3 ok hN f3
  show codeAny _ _ (.compStart (Sc2 elt tg iter tg2 iter2 scope pos) 0 (.ref it) (.ref D) (compEnvC scope (cellsFrom (s3.heap.objs.size + 1) scope.names (cloFrom X.env.cells scope.names [])) s3.heap.objs.size X.env)) (compPost (model X.prog X.w) X.A X.xe use Qf (.ref D) s3.heap.objs.size) { s3 with heap := pushCells (s3.heap.push { cls := .type "dict", data := .dict #[] }) scope.names }
  generalize hcl : cellsFrom (s3.heap.objs.size + 1) scope.names (cloFrom X.env.cells scope.names []) = cl at I4 ⊢
  have pg := hg s3 (upd H2 D (SO X.prog X.w D [])) s3.heap.objs.size cl fp
  have pi2 := hi2 s3 (upd H2 D (SO X.prog X.w D [])) s3.heap.objs.size cl fp
  have pg2 := hg2 s3 (upd H2 D (SO X.prog X.w D [])) s3.heap.objs.size cl fp
  have pe := he s3 (upd H2 D (SO X.prog X.w D [])) s3.heap.objs.size cl fp
  have nfp : ∀ b ∈ fp, (upd H2 D (SO X.prog X.w D [])) b = none := fun b hb => (f3 b hb).1.1
  generalize hce : compEnvC scope cl s3.heap.objs.size X.env = ce at I4 pg pg2 pi2 pe ⊢
  have cL : ce.locals = s3.heap.objs.size := by subst hce; rfl
  generalize hH3 : upd H2 D (SO X.prog X.w D []) = H3 at I3 I4 pg pg2 pi2 pe w0 nfp f3
  generalize hs4 : ({ s3 with heap := pushCells (s3.heap.push { cls := .type "dict", data := .dict #[] }) scope.names } : Shared) = s4 at I4 ⊢
  have st4 : tn 0 s4.heap := T.keep _ _ _ st3 fun b _ o e => by rw [← hs4]; exact pushCells_keeps _ _ _ _ (Heap.get?_push_of_some _ e)
  have stat : ∀ {σ' : L2.St} {H' : Hp} {s' : Shared}, Inv (X.blk s3 H3 scope ce fp) [] σ' H' s' → (∀ b ∈ fp, H' b = none) → ∀ b ∈ fp, FpOk (X.blk s3 H3 scope ce fp) [] H' b := fun {σ' H' s'} I' hn b hb =>
    ⟨hn b hb, (I'.ok.exf b hb).1, I'.ok.exfs b hb, .inl hb, fun x c e => (I'.ok.exf b hb).2 x c e, fun p hp => absurd (show p ∈ ([] : List (Addr × Obj)) ++ [] from hp) (by simp)⟩
  have loop : codeAny (model X.prog X.w) X.A (.compLoop (Sc2 elt tg iter tg2 iter2 scope pos) 0 (.ref it) (.ref D) ce) (compPost (model X.prog X.w) X.A X.xe use Qf (.ref D) s3.heap.objs.size) s4 := by
    refine loop_out (hs2 ce) (fun n s' => ∃ i H', Inv (X.blk s3 H3 scope ce fp) [] (wipe σ (own.map (·.2))) H' s' ∧ tn i s'.heap ∧ (∀ b ∈ fp, H' b = none) ∧ W i n H') ?_ m0 ⟨0, H3, I4, st4, nfp, w0⟩
    rintro n s5 ⟨i, H5, I5, st5, n5, w5⟩
    rcases turn i n H5 w5 with ⟨stop, qq⟩ | ⟨go, Nx, hNx, step⟩
    · have td := T.done (X.blk s3 H3 scope ce fp) rfl rfl rfl hc i [] s5 _ H5 (fun _ _ => False) I5 (stat I5 n5) st5 stop
      refine thnF td fun r s6 ⟨hr, I6⟩ => ?_
      subst hr
      have I7 : Inv X pins σ H5 s6 := I3.call' (ch := fp) I6.os I6.base I6.hok I6.bare fun b hb => ⟨(f3 b hb).1.2.2.2.1, (f3 b hb).1.2.1, (f3 b hb).1.2.2.2.2.1, (f3 b hb).1.2.2.2.2.2⟩
      have nC : H5 s3.heap.objs.size = none := by
        have z : H5 ce.locals = none := I6.free
        rw [cL] at z
        exact z
      obtain ⟨m, hn, _⟩ := I6.loc
      have hn : s6.heap.Ns ce.locals m := hn
      rw [cL] at hn
      exact hRR D s3.heap.objs.size s6 m H5 I7 qq hn (I3.fpOk (Nat.le_refl _) nC)
    · have ti := T.item (X.blk s3 H3 scope ce fp) rfl rfl rfl hc i [] s5 _ H5 (fun _ _ => False) I5 (stat I5 n5) st5 go
      refine thnF ti fun r s6 ⟨u, hr, h6⟩ => ?_
      subst hr
      refine thnF h6 fun _ s7 ⟨x, H7, I7, r7, y7, st7, n7⟩ => ?_
      have I7' := I7.pinned (stat I7 n7) (T.obj _ _ st7)
      refine thnF (pg.run _ s7 _ H7 x u _ I7' r7 (step x H7 y7)) fun _ s8 ⟨σ8, H8, I8, hw8, q8⟩ => ?_
      refine thnF (pi2.run _ s8 σ8 H8 _ I8 q8) fun xv s9 h9 => thnF h9 fun itv s10 h10 => ?_
      obtain ⟨itb, fpb, tnb, J2, H10, e, I10, T2, st10, f10, W2, ⟨m20, w20⟩, turn2⟩ := h10
      subst e
      -- the outer turn's end
      have fin : ∀ {s' : Shared} {H' : Hp}, Inv (X.blk s3 H3 scope ce fp) ([] ++ pinsAt fp s7.heap) (wipe σ8 vs2) H' s' → Nx H' → ∃ m, m < n ∧ ∃ i H', Inv (X.blk s3 H3 scope ce fp) [] (wipe σ (own.map (·.2))) H' s' ∧ tn i s'.heap ∧ (∀ b ∈ fp, H' b = none) ∧ W i m H' := fun {s' H'} I' nx => by
        obtain ⟨m', hm, w'⟩ := hNx H' nx
        have pin' : ∀ b ∈ fp, ∀ o, s7.heap.get? b = some o → s'.heap.get? b = some o ∧ H' b = none := fun b hb o e =>
          let z := I'.pin (b, o) (List.mem_append_right _ (List.mem_append_right _ (mem_pinsAt hb e)))
          ⟨z.1, z.2.1⟩
        have hl : (wipe σ (own.map (·.2))).length = (wipe σ8 vs2).length := by rw [← hw8, wipe_length, wipe_length]
        refine ⟨m', hm, i + 1, H', (I'.unpinned (pins := [])).weak hl (fun j v e => ?_), T.keep _ _ _ st7 fun b hb o e => (pin' b hb o e).1, fun b hb => ?_, w'⟩
        · rw [← hw8] at e
          obtain ⟨e1, e2⟩ := wipe_some e
          rw [wipe_out' fun z => e2 (hv2 _ z)]
          exact e1
        · obtain ⟨o, e, _⟩ := T.obj _ _ st7 b hb
          exact (pin' b hb o e).2
      have stat2 : ∀ {H' : Hp}, (∀ b ∈ fpb, H' b = none) → ∀ b ∈ fpb, FpOk (X.blk s3 H3 scope ce fp) ([] ++ pinsAt fp s7.heap) H' b := fun {H'} hn b hb => ⟨hn b hb, (f10 b hb).2⟩
      have I10' : Inv (X.blk s3 H3 scope ce fp) ([] ++ pinsAt fp s7.heap) (wipe σ8 vs2) H10 s10 := I10.weak (wipe_length _ _) fun j v e => (wipe_some e).1
      have loop2 : codeAny (model X.prog X.w) X.A (.compLoop (Sc2 elt tg iter tg2 iter2 scope pos) 1 (.ref itb) (.ref D) ce) (fun r s' => ∃ f, r = .ok f ∧ ∃ m, m < n ∧ ∃ i H', Inv (X.blk s3 H3 scope ce fp) [] (wipe σ (own.map (·.2))) H' s' ∧ tn i s'.heap ∧ (∀ b ∈ fp, H' b = none) ∧ W i m H') s10 := by
        refine loop_in (fun n2 s' => ∃ j H', Inv (X.blk s3 H3 scope ce fp) ([] ++ pinsAt fp s7.heap) (wipe σ8 vs2) H' s' ∧ tnb j s'.heap ∧ (∀ b ∈ fpb, H' b = none) ∧ W2 j n2 H') ?_ m20 ⟨0, H10, I10', st10, fun b hb => (f10 b hb).1, w20⟩
        rintro n2 s11 ⟨j, H11, I11, st11, n11, w11⟩
        rcases turn2 j n2 H11 w11 with ⟨stop, nx⟩ | ⟨go2, Nx2, hNx2, step2⟩
        · have td := T2.done (X.blk s3 H3 scope ce fp) rfl rfl rfl hc j _ s11 _ H11 (fun _ _ => False) I11 (stat2 n11) st11 stop
          refine thnF td fun r s12 ⟨hr, I12⟩ => ?_
          subst hr
          exact ⟨_, rfl, fin I12 nx⟩
        · have ti := T2.item (X.blk s3 H3 scope ce fp) rfl rfl rfl hc j _ s11 _ H11 (fun _ _ => False) I11 (stat2 n11) st11 go2
          refine thnF ti fun r s12 ⟨u2, hr, h12⟩ => ?_
          subst hr
          refine thnF h12 fun _ s13 ⟨x2, H13, I13, r13, y13, st13, n13⟩ => ?_
          have I13' := I13.pinned (stat2 n13) (T2.obj _ _ st13)
          refine thnF (pg2.run _ s13 _ H13 x2 u2 _ I13' r13 (step2 x2 H13 y13)) fun _ s14 ⟨σ14, H14, I14, hw14, q14⟩ => ?_
          refine thnF (pe.run _ s14 σ14 H14 _ I14 q14) fun z s15 ⟨yv, H15, I15, r15, cb, l, ey, hD15, hz15, nx⟩ => ?_
          subst ey
          refine so_add (X := X.blk s3 H3 scope ce fp) I15 hD15 hz15 r15 fun s16 I16 => ?_
          obtain ⟨m', hm, w'⟩ := hNx2 _ nx
          have pin' : ∀ b ∈ fpb, ∀ o, s13.heap.get? b = some o → s16.heap.get? b = some o ∧ (upd H15 D (SO X.prog X.w D (add l cb))) b = none := fun b hb o e =>
            let z := I16.pin (b, o) (List.mem_append_right _ (List.mem_append_right _ (mem_pinsAt hb e)))
            ⟨z.1, z.2.1⟩
          have hl : (wipe σ8 vs2).length = σ14.length := by rw [← hw14, wipe_length]
          refine ⟨m', hm, j + 1, _, (I16.unpinned (pins := [] ++ pinsAt fp s7.heap)).weak hl (fun k v e => ?_), T2.keep _ _ _ st13 fun b hb o e => (pin' b hb o e).1, fun b hb => ?_, w'⟩
          · rw [← hw14] at e
            exact (wipe_some e).1
          · obtain ⟨o, e, _⟩ := T2.obj _ _ st13 b hb
            exact (pin' b hb o e).2
      exact start_in loop2 (T2.self X.A 0 _ _ _ st10 loop2)
  exact start_out loop (T.self X.A 0 _ _ _ st4 loop)
theorem pe_sc2 {elt tg iter tg2 iter2 : Expr} {scope : Scope} {own : List (PySem.Str × Nat)} {vs2 : List Nat} {pos : Pos} {wi1 wi2 : TI} {g1 g2 : TG} {te : TE}
    (hc : X.calm = true) (hN : X.N.Nodup) (hi : PI X tg iter wi1) (ok : BlkOk X.N X.env.scope scope own) (hv2 : ∀ v ∈ vs2, v ∈ own.map (·.2))
    (hg : ∀ (s : Shared) (H : Hp) (C : Addr) (cl : List (PySem.Str × Addr)) (fp : List Addr), PG (X.blk s H scope (compEnvC scope cl C X.env) fp) tg g1)
    (hi2 : ∀ (s : Shared) (H : Hp) (C : Addr) (cl : List (PySem.Str × Addr)) (fp : List Addr), PI (X.blk s H scope (compEnvC scope cl C X.env) fp) tg2 iter2 wi2)
    (hg2 : ∀ (s : Shared) (H : Hp) (C : Addr) (cl : List (PySem.Str × Addr)) (fp : List Addr), PG (X.blk s H scope (compEnvC scope cl C X.env) fp) tg2 g2)
    (he : ∀ (s : Shared) (H : Hp) (C : Addr) (cl : List (PySem.Str × Addr)) (fp : List Addr), PE (X.blk s H scope (compEnvC scope cl C X.env) fp) elt te) (hs : ∀ x, foldedSetIterable iter X.env x = pure x := by intro _; rfl) (hs2 : ∀ (env : Env) x, foldedSetIterable iter2 env x = pure x := by intro _ _; rfl) :
    PE X (Sc2 elt tg iter tg2 iter2 scope pos) (tSc2 X.prog X.w wi1 g1 wi2 g2 te (own.map (·.2)) vs2) := by
  refine ⟨fun pins s σ H Q I h => ?_⟩
  rw [PpSet.eval_SetComp]
  refine sc2_core hc hN I hi ok hv2 hg hi2 hg2 he hs hs2 h fun D C s' m H' I' q hn f => ⟨m, hn, fun h'' sb => ?_⟩
  obtain ⟨f0, f1, f2, f3, f4, f5⟩ := f
  exact ⟨.ref D, H', I'.turned (t' := s'.toks) (fun b o hb e => (sb.2 b hb).trans e) f0 f1 f3 f4 f5, rfl, q⟩
end
end SetS
namespace Q
open PySem PySem.Spec PyProof.Rows L2 Gd
variable [Tbl]
/-! ### sorted({elt for x in xs for y in ys}), elt a text -/
def comp2D (g1 : Tg) (it2 : Mo (List D)) (g2 : Tg) (e : Mo R) (vs vs2 : List Nat) : List D → Mo (List D)
  | [], ρ => .ok [] ρ
  | d :: ds, ρ => match g1 d ρ with
    | none => .no
    | some ρ1 => (it2 ρ1).bnd fun ds2 ρ2 => (compD g2 bYes e vs2 ds2 (wipeE ρ2 vs2)).bnd fun xs ρ3 => (comp2D g1 it2 g2 e vs vs2 ds (wipeE ρ3 vs)).bnd fun ys ρ4 => .ok (xs ++ ys) ρ4
def addAll : List Str → List Str → List Str
  | l, [] => l
  | l, x :: xs => addAll (SetS.add l x) xs
theorem addAll_app : ∀ (xs l ys : List Str), addAll l (xs ++ ys) = addAll (addAll l xs) ys
  | [], _, _ => rfl
  | x :: xs, l, ys => addAll_app xs (SetS.add l x) ys
theorem add_len (l : List Str) (x : Str) : (SetS.add l x).length ≤ l.length + 1 := by
  unfold SetS.add
  split
  · exact Nat.le_succ _
  · exact Nat.le_refl _
theorem addAll_len : ∀ (xs l : List Str), (addAll l xs).length ≤ l.length + xs.length
  | [], l => Nat.le_refl _
  | x :: xs, l => by
    have a := addAll_len xs (SetS.add l x)
    have b := add_len l x
    show (addAll (SetS.add l x) xs).length ≤ l.length + (xs.length + 1)
    omega
def setOut (ρ1 : Ev) (vs : List Nat) (xs : List D) (ρ2 : Ev) : Rt Ob := match strsD xs with
  | some ns => if ns.length ≤ 4000 ∧ (addAll [] ns).length < 64 then .ok (.lst ((srt (addAll [] ns)).map PyData.str)) (mixE ρ1 ρ2 vs) else .no
  | none => .no
def fSc2 (it1 : Mo (List D)) (g1 : Tg) (it2 : Mo (List D)) (g2 : Tg) (e : Mo R) (vs vs2 : List Nat) : Mo Ob := fun ρ => (it1 ρ).bind fun ds ρ1 => if noOwn ρ1 vs = true then (comp2D g1 it2 g2 e vs vs2 ds (wipeE ρ1 vs)).bnd fun xs ρ2 => setOut ρ1 vs xs ρ2 else .no
theorem wk_it {J : It} {n : Nat} {G : Hp → Prop} {Y : Nat → Hp → V → Hp → Prop} (w : Walk J n G Y) {Step : V → Hp → (Hp → Prop) → Prop} {H0 : Hp} {Qd : Hp → Prop} (Pv : Nat → Hp → Prop) (h0 : Pv 0 H0) (hG : ∀ i H, i ≤ n → Pv i H → G H)
    (hs : ∀ i x H H', i < n → Pv i H → Y i H x H' → Step x H' (Pv (i + 1))) (hd : ∀ H, Pv n H → Qd H) :
    ∃ W : Nat → Nat → Hp → Prop, (∃ m, W 0 m H0) ∧ ∀ i m H, W i m H →
      (J.stop i H ∧ Qd H) ∨ (J.go i H ∧ ∃ Nx : Hp → Prop, (∀ H', Nx H' → ∃ m', m' < m ∧ W (i + 1) m' H') ∧ ∀ x H', J.yld i H x H' → Step x H' Nx) := by
  refine ⟨fun i m H => m = n - i ∧ i ≤ n ∧ Pv i H, ⟨n, by simp, Nat.zero_le _, h0⟩, ?_⟩
  rintro i m H ⟨rfl, hi, p⟩
  have q := hG i H hi p
  by_cases hlt : i < n
  · exact .inr ⟨w.goes i H hlt q, Pv (i + 1), fun H' p' => ⟨n - (i + 1), by omega, rfl, hlt, p'⟩, fun x H' y => hs i x H H' hlt p (w.yields i H x H' hlt q y)⟩
  · have e : i = n := by omega
    subst e
    exact .inl ⟨w.stops H q, hd H p⟩
theorem Rt.bnd_ok {α β : Type} {r : Rt α} {k : α → Ev → Rt β} {b : β} {ρ : Ev} (h : r.bnd k = .ok b ρ) : ∃ a ρ1, r = .ok a ρ1 ∧ k a ρ1 = .ok b ρ := by
  cases r with
  | no => cases h
  | ex c d ρ' => cases h
  | ok a ρ1 => exact ⟨a, ρ1, rfl, h⟩
section
variable {K : PySem.W.Frag} {n : Nat} {W : XW}
theorem ow_keep {Ha Hb : Hp} {σa σb : St} {ρa ρb : Ev} {D : Addr} {o : HO} (nt : ∀ ps, o ≠ .tbl ps) (e : Ha D = some o) (no : ¬ Own σa ρa D) (s : Stp K n Ha σa ρa Hb σb ρb) : Hb D = some o ∧ ¬ Own σb ρb D := by
  refine ⟨s.kept _ _ e no nt, fun z => ?_⟩
  rcases s.news _ z with z | z
  · exact no z
  · rw [e] at z
    cases z
theorem so_nt {P : Program} {w : World} {a : Addr} {l : List Str} (ps) : SetS.SO P w a l ≠ .tbl ps := fun z => by
  unfold SetS.SO at z
  cases z
theorem so_code {P : Program} {w : World} {a : Addr} {l : List Str} (q : Str) : SetS.SO P w a l ≠ LamX.CodeO a q := fun z => by
  unfold SetS.SO LamX.CodeO at z
  injection z with z
  have hg : ({ objs := Array.replicate (a + 1) ({ cls := .none, data := .fields #[.none, .str q 0] } : Obj) } : Heap).get? a = some { cls := .none, data := .fields #[.none, .str q 0] } :=
    Heap.get?_some_iff.mpr ⟨by simp, rfl⟩
  have h2 := (congrFun z _).mpr ⟨_, _, _, hg, rfl, rfl⟩
  obtain ⟨D, ho, _⟩ := h2
  rw [hg] at ho
  cases ho
theorem Stp.besideX {H H' : Hp} {σ σ' : St} {ρ ρ' : Ev} (s : Stp K n H σ ρ H' σ' ρ') {p : Addr} {h u : HO} (np : H p = none) (e : H' p = some h) (m : Mut (some h)) (m1 : ∀ ps, h ≠ .tbl ps) (m2 : ∀ q, h ≠ LamX.CodeO p q) (no : ¬ Own σ' ρ' p) : Stp K n H σ ρ (L2.upd H' p u) σ' ρ' := by
  refine ⟨s.good.grow (grow_upd e m m2) (fun q o hq eq => ?_) (TabOk.updX e m m1 m2), s.par, fun b o eb nb nt => ?_, s.news, fun b hb => s.live b (live_upd e b hb)⟩
  · rw [upd_ne fun z => no (by rw [← z]; exact hq)]
    exact eq
  · rw [upd_ne (ne_of_none eb np)]
    exact s.kept b o eb nb nt
theorem sc2_run {P : Program} {w : World} {is1 is2 vs vs2 : List Nat} {it1 it2 : Mo (List D)} {g1 g2 : Tg} {e : Mo R} (hi1 : ∀ i ∈ is1, i ∈ vs) (hi2 : ∀ i ∈ is2, i ∈ vs2) (h2 : ∀ v ∈ vs2, v ∈ vs) (hn : ∀ v ∈ vs, n ≤ v) (σ : St) (H : Hp) (Q : VK) (h : tF K n W (fSc2 it1 g1 it2 g2 e vs vs2) σ H Q) :
    SetS.tSc2 P w (tI K n W it1) (tG K n is1 g1) (tI K n W0 it2) (tG K n is2 g2) (tX K n W0 e) vs vs2 σ H fun x H1 => SetS.rSortS P w [x] H1 Q := by
  obtain ⟨ρ, G, h⟩ := h
  have hn2 : ∀ v ∈ vs2, n ≤ v := fun v hv => hn v (h2 v hv)
  refine ⟨ρ, G, (Aft.bind h).mono fun ds ρ1 H1 s1 h1 J wk D hD => ?_⟩
  split at h1
  case isFalse => exact h1.elim
  case isTrue hno =>
  have sD := same_upd (o := SetS.SO P w D []) hD
  have no1 : ¬ Own (wipe σ vs) (wipeE ρ1 vs) D := fun z => new_own s1.good hD z.wipe
  have stD : Stp K n H1 (wipe σ vs) (wipeE ρ1 vs) (upd H1 D (SetS.SO P w D [])) (wipe σ vs) (wipeE ρ1 vs) := Stp.same (s1.good.wipe vs) sD
  obtain ⟨ns, ρ2, ec, l4, l64, h1⟩ : ∃ (ns : List Str) (ρ2 : Ev), comp2D g1 it2 g2 e vs vs2 ds (wipeE ρ1 vs) = .ok (ns.map PyData.str) ρ2 ∧ ns.length ≤ 4000 ∧ (addAll [] ns).length < 64 ∧
      Aft K n W H1 σ ρ1 (Rt.ok (Ob.lst ((srt (addAll [] ns)).map PyData.str)) (mixE ρ1 ρ2 vs)) fun o ρ' H' => ∀ p h, H p = none → H' p = some h → ObR K H' h o → ¬ Own σ ρ' p → Q (.ref p) H' := by
    cases hc : comp2D g1 it2 g2 e vs vs2 ds (wipeE ρ1 vs) with
    | no =>
      rw [hc] at h1
      exact h1.elim
    | ex c d ρ' =>
      rw [hc] at h1
      exact h1.elim
    | ok xs ρ2 =>
      rw [hc] at h1
      have h1 : Aft K n W H1 σ ρ1 (setOut ρ1 vs xs ρ2) fun o ρ' H' => ∀ p h, H p = none → H' p = some h → ObR K H' h o → ¬ Own σ ρ' p → Q (.ref p) H' := h1
      unfold setOut at h1
      cases es : strsD xs with
      | none =>
        rw [es] at h1
        exact h1.elim
      | some ns =>
        rw [es] at h1
        dsimp only at h1
        split at h1
        · next q => exact ⟨ns, ρ2, by rw [strsD_eq es], q.1, q.2, h1⟩
        · exact h1.elim
  refine wk_it wk (fun i H' => ∃ ρ' pn xn, Stp K n H1 (wipe σ vs) (wipeE ρ1 vs) H' (wipe σ vs) ρ' ∧ H' D = some (SetS.SO P w D (addAll [] pn)) ∧ ¬ Own (wipe σ vs) ρ' D ∧ ns = pn ++ xn ∧ comp2D g1 it2 g2 e vs vs2 (ds.drop i) ρ' = .ok (xn.map PyData.str) ρ2)
    ⟨_, [], ns, stD, upd_same, no1, rfl, ec⟩ (fun i H' _ hP => ?_) (fun i x H' H2 hi hP hY => ?_) (fun H' hP => ?_)
  · obtain ⟨ρ', _, _, st, _⟩ := hP
    exact st.grow (s1.good.wipe vs)
  · obtain ⟨ρ', pn, xn, st, eD, no, en, ec⟩ := hP
    obtain ⟨sm, d, ed, imx⟩ := hY
    have lt : i < ds.length := hi
    have es : ds.drop i = d :: ds.drop (i + 1) := by
      rw [List.drop_eq_getElem_cons lt]
      rw [List.getElem?_eq_getElem lt] at ed
      rw [Option.some.inj ed]
    rw [es] at ec
    have st2 := st.trans (Stp.same st.good sm)
    have eD2 := sm _ _ eD
    unfold comp2D at ec
    cases eg : g1 d ρ' with
    | none =>
      rw [eg] at ec
      cases ec
    | some ρ3 =>
      rw [eg] at ec
      obtain ⟨ds2, ρ4, e4, ec⟩ := Rt.bnd_ok ec
      obtain ⟨ys, ρ5, e5, ec⟩ := Rt.bnd_ok ec
      obtain ⟨zs, ρ6, e6, ec⟩ := Rt.bnd_ok ec
      have exs : ys ++ zs = xn.map PyData.str ∧ ρ6 = ρ2 := by
        injection ec with a b
        exact ⟨a, b⟩
      obtain ⟨exs, rfl⟩ := exs
      obtain ⟨yn, zn, rfl, rfl, rfl⟩ := List.map_eq_append_iff.mp exs.symm
      refine ⟨ρ', d, st2.good, imx, ρ3, eg, fun σ3 H3 s3 nj l3 => ?_⟩
      have l3 : σ3.length = σ.length := by rw [l3, wipe_length]
      have ew : wipe σ3 vs = wipe σ vs := wipe_eq l3 fun j hj => nj j fun z => hj (hi1 j z)
      obtain ⟨eD3, no3⟩ := ow_keep (so_nt) eD2 no s3
      have st3 := st2.trans s3
      refine ⟨ew, ρ3, s3.good, ?_⟩
      rw [e4]
      intro H4 s4 J2 wk2
      obtain ⟨eD4, no4⟩ := ow_keep so_nt eD3 no3 s4
      have st4 := st3.trans s4
      have stI : Stp K n H1 (wipe σ vs) (wipeE ρ1 vs) H4 (wipe σ3 vs2) (wipeE ρ4 vs2) := st4.wiped hn2
      refine wk_it wk2 (fun j H' => ∃ ρ' qn rn, Grow H4 H' ∧ Stp K n H1 (wipe σ vs) (wipeE ρ1 vs) H' (wipe σ3 vs2) ρ' ∧ H' D = some (SetS.SO P w D (addAll [] (pn ++ qn))) ∧ ¬ Own (wipe σ3 vs2) ρ' D ∧ yn = qn ++ rn ∧ compD g2 bYes e vs2 (ds2.drop j) ρ' = .ok (rn.map PyData.str) ρ5)
        ⟨_, [], yn, Grow.refl _, stI, by rw [List.append_nil]; exact eD4, fun z => no4 z.wipe, rfl, e5⟩ (fun j H' _ hP => ?_) (fun j x H' H5 hj hP hY => ?_) (fun H' hP => ?_)
      · obtain ⟨ρ', _, _, gr, _⟩ := hP
        exact gr
      · obtain ⟨ρ7, qn, rn, grJ, stJ, eDJ, noJ, eyn, ecJ⟩ := hP
        obtain ⟨sm, d2, ed, imx⟩ := hY
        have lt : j < ds2.length := hj
        have es : ds2.drop j = d2 :: ds2.drop (j + 1) := by
          rw [List.drop_eq_getElem_cons lt]
          rw [List.getElem?_eq_getElem lt] at ed
          rw [Option.some.inj ed]
        rw [es] at ecJ
        have stK := stJ.trans (Stp.same stJ.good sm)
        have eDK := sm _ _ eDJ
        unfold compD at ecJ
        cases eg2 : g2 d2 ρ7 with
        | none =>
          rw [eg2] at ecJ
          cases ecJ
        | some ρ8 =>
          rw [eg2] at ecJ
          have ecJ : (e ρ8).bnd (fun r ρ3 => match r with
            | .d x => (compD g2 bYes e vs2 (ds2.drop (j + 1)) (wipeE ρ3 vs2)).bnd fun xs ρ4 => .ok (x :: xs) ρ4
            | .v _ => .no) = .ok (rn.map PyData.str) ρ5 := ecJ
          obtain ⟨r, ρ9, e9, ecJ⟩ := Rt.bnd_ok ecJ
          refine ⟨ρ7, d2, stK.good, imx, ρ8, eg2, fun σ8 H8 s8 nj8 l8 => ?_⟩
          have l8 : σ8.length = σ3.length := by rw [l8, wipe_length]
          have ew8 : wipe σ8 vs2 = wipe σ3 vs2 := wipe_eq l8 fun k hk => nj8 k fun z => hk (hi2 k z)
          obtain ⟨eD8, no8⟩ := ow_keep so_nt eDK noJ s8
          refine ⟨ew8, ρ8, s8.good, ?_⟩
          rw [e9]
          intro H9 s9 v rv
          obtain ⟨eD9, no9⟩ := ow_keep so_nt eD8 no8 s9
          have st9 := (stK.trans s8).trans s9
          cases rv with
          | v _ => cases ecJ
          | @d x9 imv =>
            obtain ⟨us, ρ10, e10, ecJ⟩ := Rt.bnd_ok (show (compD g2 bYes e vs2 (ds2.drop (j + 1)) (wipeE ρ9 vs2)).bnd (fun xs ρ4 => Rt.ok (x9 :: xs) ρ4) = .ok (rn.map PyData.str) ρ5 from ecJ)
            obtain ⟨ex, rfl⟩ : x9 :: us = rn.map PyData.str ∧ ρ10 = ρ5 := by
              injection ecJ with a b
              exact ⟨a, b⟩
            cases rn with
            | nil => cases ex
            | cons c rn =>
              injection ex with ex1 ex2
              subst ex1
              subst ex2
              have ev : v = .str c := by cases imv; rfl
              have lq : (addAll [] (pn ++ qn)).length ≤ 0 + (pn ++ qn).length := addAll_len (pn ++ qn) []
              have le : ns.length = pn.length + (yn.length + zn.length) := by rw [en, List.length_append, List.length_append]
              have ly : yn.length = qn.length + (rn.length + 1) := by rw [eyn, List.length_append]; rfl
              rw [List.length_append] at lq
              refine ⟨c, _, ev, eD9, Nat.lt_of_le_of_lt (show (addAll [] (pn ++ qn)).length + 1 ≤ 4000 by omega) (by decide), wipeE ρ9 vs2, qn ++ [c], rn, (grJ.trans (Grow.same sm)).trans ((s8.grow stK.good).trans ((s9.grow s8.good).trans (grow_upd eD9 trivial so_code))), ?_, ?_, fun z => ?_, by rw [eyn, List.append_assoc]; rfl, e10⟩
              · have := (st9.besideX (u := SetS.SO P w D (SetS.add (addAll [] (pn ++ qn)) c)) hD eD9 trivial so_nt so_code no9).wiped (vs := vs2) hn2
                rw [ew8] at this
                exact this
              · rw [upd_same, ← List.append_assoc, addAll_app (pn ++ qn) [] [c]]
                rfl
              · rw [← ew8] at z
                exact no9 z.wipe
      · obtain ⟨ρ7, qn, rn, grJ, stJ, eDJ, noJ, eyn, ecJ⟩ := hP
        rw [List.drop_length] at ecJ
        obtain ⟨e0, rfl⟩ : ([] : List PyData) = rn.map PyData.str ∧ ρ7 = ρ5 := by
          injection ecJ with a b
          exact ⟨a, b⟩
        cases rn with
        | cons _ _ => cases e0
        | nil =>
        rw [List.append_nil] at eyn
        subst eyn
        have ew2 : wipe (wipe σ3 vs2) vs = wipe σ vs := by
          rw [← ew]
          exact wipe_eq (by rw [wipe_length]) fun k hk => by rw [wipe_out fun z => hk (h2 k z), wipe_out hk]
        refine ⟨wipeE ρ7 vs, pn ++ yn, zn, ?_, eDJ, fun z => ?_, by rw [en, List.append_assoc], e6⟩
        · have := stJ.wiped (vs := vs) hn
          rw [ew2] at this
          exact this
        · rw [← ew2] at z
          exact noJ z.wipe
  · obtain ⟨ρ', pn, xn, st, eD, no, en, ec⟩ := hP
    rw [List.drop_length] at ec
    obtain ⟨e0, rfl⟩ : ([] : List PyData) = xn.map PyData.str ∧ ρ' = ρ2 := by
      injection ec with a b
      exact ⟨a, b⟩
    cases xn with
    | cons _ _ => cases e0
    | nil =>
    rw [List.append_nil] at en
    subst en
    refine ⟨D, _, rfl, eD, l64, fun ys p pm so hp => ?_⟩
    have stF := Stp.mixed s1.good hn (noOwn_at hno) st
    rw [srt_one pm so]
    exact h1 _ (stF.trans (Stp.same stF.good (same_upd hp))) p _ (s1.live _ (stF.live p hp)) upd_same (.lst (ImL.of_strs _)) (new_own stF.good hp)
end
section
variable {X : Cx} {n : Nat} {W : XW}
theorem xf_sortSc2 {elt tg iter tg2 iter2 : Expr} {scope : Scope} {own : List (Str × Nat)} {is1 is2 vs vs2 : List Nat} {p cpos pos : Pos} {it1 it2 : Mo (List D)} {g1 g2 : Tg} {e : Mo R} (hc : X.calm = true) (hgs : Gl X "sorted") (hms : X.mg "sorted" = none) (hN : X.N.Nodup) (hv : vs = own.map (·.2)) (hi1 : ∀ i ∈ is1, i ∈ vs) (hi2 : ∀ i ∈ is2, i ∈ vs2) (h2 : ∀ v ∈ vs2, v ∈ vs) (hn : ∀ v ∈ vs, n ≤ v)
    (hi : XI X n W tg iter it1) (ok : BlkOk X.N X.env.scope scope own)
    (hg : ∀ (s : Shared) (H : Hp) (C : Addr) (cl : List (Str × Addr)) (fp : List Addr), PG (X.blk s H scope (compEnvC scope cl C X.env) fp) tg (tG X.K n is1 g1))
    (hj : ∀ (s : Shared) (H : Hp) (C : Addr) (cl : List (Str × Addr)) (fp : List Addr), PI (X.blk s H scope (compEnvC scope cl C X.env) fp) tg2 iter2 (tI X.K n W0 it2))
    (hg2 : ∀ (s : Shared) (H : Hp) (C : Addr) (cl : List (Str × Addr)) (fp : List Addr), PG (X.blk s H scope (compEnvC scope cl C X.env) fp) tg2 (tG X.K n is2 g2))
    (he : ∀ (s : Shared) (H : Hp) (C : Addr) (cl : List (Str × Addr)) (fp : List Addr), PE (X.blk s H scope (compEnvC scope cl C X.env) fp) elt (tX X.K n W0 e)) (hs : ∀ x, foldedSetIterable iter X.env x = pure x := by intro _; rfl) (hs2 : ∀ (env : Env) x, foldedSetIterable iter2 env x = pure x := by intro _ _; rfl)
    (hst : starEach [SetS.Sc2 elt tg iter tg2 iter2 scope cpos] X.env = (false, eval (SetS.Sc2 elt tg iter tg2 iter2 scope cpos) X.env) :: starEach [] X.env := by rfl) :
    XF X n W (.Call (.Name "sorted" p) [SetS.Sc2 elt tg iter tg2 iter2 scope cpos] [] pos) (fSc2 it1 g1 it2 g2 e vs vs2) := by
  subst hv
  refine weakE (pe_callB (SetS.cr_sortS hc) hgs hms (by decide +kernel) (pa_cons (SetS.pe_sc2 hc hN hi ok h2 hg hj hg2 he hs hs2) pa_nil) (by decide) (by decide) hst (by rfl)) fun σ H Q h => ?_
  exact sc2_run hi1 hi2 h2 hn σ H Q h
end
end Q
namespace Q
open PySem PySem.Spec PyProof.Rows L2 Gd
variable [Tbl]
/-! ### max(xs), min(xs), xs a list of ints -/
def intsD : List D → Option (List Int)
  | [] => some []
  | .int i :: ds => (intsD ds).map (i :: ·)
  | _ => none
theorem intsD_eq : ∀ {ds : List D} {ns : List Int}, intsD ds = some ns → ds = ns.map PyData.int
  | [], ns, h => by cases h; rfl
  | .int i :: ds, ns, h => by
    have h : (intsD ds).map (i :: ·) = some ns := h
    cases e : intsD ds with
    | none =>
      rw [e] at h
      cases h
    | some ms =>
      rw [e] at h
      cases h
      rw [intsD_eq e]
      rfl
  | .none :: _, _, h => by cases h
  | .bool _ :: _, _, h => by cases h
  | .str _ :: _, _, h => by cases h
  | .list _ :: _, _, h => by cases h
  | .tuple _ :: _, _, h => by cases h
  | .dict _ :: _, _, h => by cases h
theorem intsD_map : ∀ ns : List Int, intsD (ns.map PyData.int) = some ns
  | [] => rfl
  | n :: ns => by
    show (intsD (ns.map PyData.int)).map (n :: ·) = _
    rw [intsD_map ns]
    rfl
theorem ImL.ints {K : PySem.W.Frag} {H : Hp} : ∀ {xs : List V} {ns : List Int}, ImL K H xs (ns.map PyData.int) → xs = ns.map V.int
  | _, [], .nil => rfl
  | _, _ :: _, .cons h r => by
    cases h
    rw [ImL.ints r]
    rfl
def max1D : List D → Option D
  | [.list ds] => (intsD ds).bind fun ns => ns.max?.map PyData.int
  | _ => none
def min1D : List D → Option D
  | [.list ds] => (intsD ds).bind fun ns => ns.min?.map PyData.int
  | _ => none
section
variable {X : Cx}
end
end Q
namespace SetS
open PySem PySem.Spec PyProof.Rows L2 Gd PySem.Froz
/-! ### set(t), t a tuple of texts, told so that its walk is known -/
theorem adds_len : ∀ (xs l : List Str), (xs.foldl add l).length ≤ l.length + xs.length
  | [], l => Nat.le_refl _
  | x :: xs, l => by
    have a := adds_len xs (add l x)
    have b : (add l x).length ≤ l.length + 1 := by
      unfold add
      split
      · exact Nat.le_succ _
      · exact Nat.le_refl _
    show (xs.foldl add (add l x)).length ≤ l.length + (xs.length + 1)
    omega
section
variable {prog : Program} {w : World} {A : Around} {R : Result → Shared → Prop} {I : Addr} {fp wr : List Addr} {G : Array GenState → Array GenState → Prop} {n : Nat} {P : Nat → Value → Prop} {St : Nat → Shared → Prop}
theorem fresh_at {h : Heap} {a : Addr} (ho : h.get? a = some { cls := .type "set", dict := none, data := .set #[] 0 (.fresh 0 0 (!w.params.followText "set-order")) }) : Is prog w h a [] :=
  ⟨(#[], 0, .fresh 0 0 (!w.params.followText "set-order")), ho, TxOk.nil (by rfl), List.Perm.refl _, (fun e he => nomatch he), List.Pairwise.nil, by
    show _ ∨ (!w.params.followText "set-order") = true
    cases w.params.followText "set-order"
    · exact .inr rfl
    · exact .inl rfl⟩
theorem loop_txt (W : WalksS prog w A.in1 I fp wr G n P St) (S : Addr) (hSf : S ∉ fp) (xs : List Str) (hsz : xs.length = n) (hb : n + 1 < scanBound)
    (hval : ∀ i v, P i v → ∃ t, v = .str (xs.getD i Str.empty) t) :
    ∀ (k i : Nat) (s : Shared), n - i = k → i ≤ n → St i s → Is prog w s.heap S ((xs.take i).foldl add []) →
      (∀ s', Moved (S :: wr) G s s' → Is prog w s'.heap S (xs.foldl add []) → R (.ok (.ret .none)) s') →
      codeAny (model prog w) A (.builtin "set.update.loop" ⟨[.ref S, .ref I], []⟩) R s := by
  have hSw : S ∉ wr := fun h => hSf (W.sub _ h)
  have hsub : ∀ b ∈ wr, b ∈ S :: wr := fun b hb => List.mem_cons_of_mem _ hb
  intro k
  induction k with
  | zero =>
    intro i s hk hi hst hS hR
    have hin : i = n := by omega
    have et : xs.take i = xs := List.take_of_length_le (by omega)
    rw [et] at hS
    subst hin
    refine codeAny_builtin PyProof.Rows.F.entry_set_update_loop ?_
    rw [Around.under_plainId PyProof.Rows.F.plain_set_update_loop _]
    show wpAny _ A.in1 (pyNext (.ref I) >>= _) _ _ s
    refine wpAny_bind (W.done s _ _ hst fun s' hm => ?_)
    show wpAny _ A.in1 (ret Value.none) _ _ s'
    exact wpAny_pure (hR s' (hm.mono hsub) (hS.at fun o e => hm.heap S o hSw e))
  | succ k ih =>
    intro i s hk hi hst hS hR
    have hlt : i < n := by omega
    refine codeAny_builtin PyProof.Rows.F.entry_set_update_loop ?_
    rw [Around.under_plainId PyProof.Rows.F.plain_set_update_loop _]
    show wpAny _ A.in1 (pyNext (.ref I) >>= _) _ _ s
    refine wpAny_bind (W.item i s _ _ hlt hst fun v s' hP hst' hm => ?_)
    obtain ⟨t, rfl⟩ := hval i v hP
    have hS' : Is prog w s'.heap S ((xs.take i).foldl add []) := hS.at fun o e => hm.heap S o hSw e
    have hg : xs[i]? = some (xs.getD i Str.empty) := by
      rw [List.getD_eq_getElem?_getD, List.getElem?_eq_getElem (show i < xs.length by omega)]
      rfl
    generalize xs.getD i Str.empty = y at hg ⊢
    have et : (xs.take (i + 1)).foldl add [] = add ((xs.take i).foldl add []) y := by
      rw [List.take_add_one, hg, List.foldl_append]
      rfl
    have al := adds_len (xs.take i) []
    rw [List.length_take] at al
    show wpAny _ A.in1 (holding [Value.str y t] (setAdd S (.str y t)) >>= _) _ _ s'
    refine wpAny_bind (wpAny_holding ?_)
    unfold setAdd
    refine wpAny_holding ?_
    refine wpAny_bind ((PySem.strKind prog w).pyHash (k := y) (strKind_is _ _ _ _) ?_)
    refine add_hashed (s := { s' with toks := s'.toks + 1 }) hS' (by simp at al; omega) fun b h' hsb hS2 => ?_
    rw [← et] at hS2
    refine wpAny_pure ⟨plainId_quiet PyProof.Rows.F.plain_set_update_loop _, ih (i + 1) _ (by omega) hlt (W.frame _ s' _ _ hst' (Nat.le_succ _) fun b hb o e => ?_) hS2 fun s'' hm'' hS'' => ?_⟩
    · rw [hsb.2 b (fun h : b = S => hSf (by rw [← h]; exact hb))]; exact e
    · refine hR s'' (Moved.trans W.gtrans ((hm.mono hsub).then_heap (Nat.le_succ _) fun b o hb e => ?_) hm'') hS''
      rw [hsb.2 b (fun h : b = S => hb (by rw [h]; exact List.mem_cons_self))]; exact e
end
section
variable {prog : Program} {w : World} {A : Around} {E : Value → Shared → Prop} {s : Shared}
set_option maxHeartbeats 3200000 in
theorem call_set_txt {l : Addr} {items : Array Value} {xs : List Str} {Q : Value → Shared → Prop}
    (hh : A.handled = none) (hl : s.heap.IsTuple l items) (hi : PyProof.Rows.StrsAre items.toList xs) (hb : xs.length + 1 < scanBound)
    (h : ∀ (h' : Heap) (tk : Nat), Is prog w h' s.heap.objs.size (xs.foldl add []) →
      (∀ b o, s.heap.get? b = some o → h'.get? b = some o) → Q (.ref s.heap.objs.size) { s with heap := h', toks := tk }) :
    wpAny (model prog w) A (call (.type "set") [.ref l]) Q E s := by
  obtain ⟨c, tl, hmro⟩ := PySem.F.called_set.mro
  have hmade := PySem.F.called_set.made
  have hsub := PySem.F.called_set.sub
  refine wpAny_call (codeAny_of_tree ?_)
  show wpAny _ _ (callAny (.type "set") _) _ _ _
  refine wpAny_pure ⟨Code.quiet_builtin _ (by decide +kernel), codeAny_builtin PySem.F.entry_type_call ?_⟩
  rw [Around.under_plain (weight_type_call_type "set" [.ref l] []) rfl]
  have h1 := PySem.F.called_set.notType
  have h2 := PySem.F.called_set.canCreate
  have hct := PySem.F.typeCall_set_1 (.ref l)
  repeat (any_goals (first | assumption | wp_step))
  refine codeAny_mono (code_set_led1 (.ref l) (E := E) (Q₁ := fun obj s₁ => obj = .ref s.heap.objs.size ∧ s₁ = { s with heap := s.heap.push { cls := .type "set", dict := none, data := .set #[] 0 (.fresh 0 0 (!w.params.followText "set-order")) } }) ⟨rfl, rfl⟩) fun r s₁ hr => ?_
  cases r with
  | error e => exact hr
  | ok fl =>
    cases fl with
    | ret obj =>
      obtain ⟨rfl, rfl⟩ := hr
      have hS : (s.heap.push { cls := .type "set", dict := none, data := .set #[] 0 (.fresh 0 0 (!w.params.followText "set-order")) }).get? s.heap.objs.size = some { cls := .type "set", dict := none, data := .set #[] 0 (.fresh 0 0 (!w.params.followText "set-order")) } := Heap.get?_push_size _ rfl
      have hT : Shared.TypeIs { s with heap := s.heap.push { cls := .type "set", dict := none, data := .set #[] 0 (.fresh 0 0 (!w.params.followText "set-order")) } } (.ref s.heap.objs.size) "set" := ⟨_, hS, rfl⟩
      have hli := PySem.F.called_set.init.lookup
      have hbi := PySem.F.called_set.init.bind (.ref s.heap.objs.size)
      repeat (any_goals (first | assumption | wp_step))
      refine codeAny_mono (codeAny_call_builtin (R := wants (fun r s₂ => r = .none ∧ ∃ h' tk, s₂ = { s with heap := h', toks := tk } ∧
          Is prog w h' s.heap.objs.size (xs.foldl add []) ∧
          (∀ b o, s.heap.get? b = some o → h'.get? b = some o)) E) PySem.F.called_set.init.plain PySem.F.entry_set_init (check_set_init_1 hT ?_)) fun r₂ s₂ hr₂ => ?_
      · obtain ⟨ol, hol, hcl, nl, hdl⟩ := hl
        obtain ⟨ocls, odict, odata, oslots⟩ := ol
        simp only at hcl hdl
        subst hcl; subst hdl
        have hol' : (s.heap.push { cls := .type "set", dict := none, data := .set #[] 0 (.fresh 0 0 (!w.params.followText "set-order")) }).get? l = some { cls := .type "tuple", dict := odict, data := .seq items nl, slots := oslots } := Heap.get?_push_of_some _ hol
        have hsls := PySem.F.sub_tuple_set
        have hslf := PySem.F.sub_tuple_frozenset
        have hne : (Value.type "tuple" == Value.type "dict") = false := by decide
        have hl1 : (s.heap.push { cls := .type "set", dict := none, data := .set #[] 0 (.fresh 0 0 (!w.params.followText "set-order")) }).IsTuple l items := ⟨_, hol', rfl, nl, rfl⟩
        unfold Builtin.«set.__init__» noKeywords Builtin.Frozenset.updateFrom
        generalize hPI : pyIter = PI
        wp_walk
        subst hPI
        refine wpAny_pyIter_tuple hl1 ?_
        refine wpAny_bind (wpAny_runValue ?_)
        have hlS : l < s.heap.objs.size := Heap.lt_size hol
        have hh3 : A.in1.in1.in1.handled = none := by simp [hh]
        have hneI : l ≠ (s.heap.push { cls := .type "set", dict := none, data := .set #[] 0 (.fresh 0 0 (!w.params.followText "set-order")) }).objs.size := by
          rw [Heap.size_push]; exact Nat.ne_of_lt (Nat.lt_succ_of_lt hlS)
        have hSf : s.heap.objs.size ∉ [(s.heap.push { cls := .type "set", dict := none, data := .set #[] 0 (.fresh 0 0 (!w.params.followText "set-order")) }).objs.size, l] := by
          rw [Heap.size_push]; simp only [List.mem_cons, List.mem_singleton, List.not_mem_nil, or_false, not_or]
          exact ⟨Nat.ne_of_lt (Nat.lt_succ_self _), Nat.ne_of_gt hlS⟩
        have hsz : xs.length = items.size := by rw [← StrsAre.len_eq hi, Array.length_toList]
        have hval : ∀ (i : Nat) (v : Value), items[i]? = some v → ∃ t, v = .str (xs.getD i Str.empty) t := fun i v hv => SS.strs_at hi i v (by rw [Array.getElem?_toList]; exact hv)
        refine loop_txt ((Walks.tuple hh3 _ l hneI items).toS) s.heap.objs.size
          hSf xs hsz (by rw [← hsz]; exact hb) hval (items.size - 0) 0 _ (by omega) (Nat.zero_le _)
          ⟨⟨_, Heap.get?_push_size _ rfl, rfl, rfl⟩, (hl1.push _)⟩ ?hS0 ?hR
        case hS0 =>
          have hget : ((s.heap.push { cls := .type "set", dict := none, data := .set #[] 0 (.fresh 0 0 (!w.params.followText "set-order")) }).push { cls := .type "tuple_iterator", data := .fields #[.ref l, .int 0 0] }).get? s.heap.objs.size
              = some { cls := .type "set", dict := none, data := .set #[] 0 (.fresh 0 0 (!w.params.followText "set-order")) } := Heap.get?_push_of_some _ hS
          exact fresh_at hget
        case hR =>
          intro s' hm hS'
          obtain ⟨h', g', d', tk', os'⟩ := s'
          have eg : g' = s.gens := hm.gens
          have ed : d' = s.drawn := hm.drawn
          have eo : os' = s.os := hm.os
          subst eg; subst ed; subst eo
          show wpAny _ _ _ _ _ _
          refine wpAny_pure ?_
          show wpAny _ _ (ret Value.none) _ _ _
          refine wpAny_pure ⟨rfl, h', tk', rfl, hS', fun b o e => ?_⟩
          have hb0 : b < s.heap.objs.size := Heap.lt_size e
          have hb1 : b ≠ s.heap.objs.size := Nat.ne_of_lt hb0
          have hb2 : b ≠ (s.heap.push { cls := .type "set", dict := none, data := .set #[] 0 (.fresh 0 0 (!w.params.followText "set-order")) }).objs.size := by
            rw [Heap.size_push]; exact Nat.ne_of_lt (Nat.lt_succ_of_lt hb0)
          exact hm.heap b o (by simp only [List.mem_cons, List.mem_singleton, List.not_mem_nil, or_false, not_or]; exact ⟨hb1, hb2⟩) (Heap.get?_push_of_some _ (Heap.get?_push_of_some _ e))
      · cases r₂ with
        | error e => exact hr₂
        | ok fl₂ =>
          cases fl₂ with
          | ret r =>
            obtain ⟨rfl, h', tk, rfl, hS', hk'⟩ := hr₂
            repeat (any_goals (first | assumption | wp_step))
            exact h _ _ hS' hk'
          | _ => exact hr₂.elim
    | _ => exact hr.elim
end
section
variable {X : Cx}
/-- set(t), t a tuple of texts -/
def rSetT (K : PySem.W.Frag) (P : Program) (w : World) : List V → Hp → VK → Prop := fun vs H Q => ∃ (a : Addr) (xs : List Str), vs = [V.ref a] ∧ SqT K H a (xs.map V.str) ∧ xs.length ≤ 4000 ∧ ∀ D, H D = none → Q (.ref D) (upd H D (SO P w D (xs.foldl add [])))
end
end SetS
namespace Q
open PySem PySem.Spec PyProof.Rows L2 Gd
variable [Tbl]
/-! ### sorted(set(t)), t a tuple of texts -/
def sortSetD : D → Option (List D)
  | .tuple ds => (strsD ds).bind fun ns => if ns.length ≤ 4000 ∧ (ns.foldl SetS.add []).length < 64 then some ((srt (ns.foldl SetS.add [])).map PyData.str) else none
  | _ => none
def fSortSet (f : Mo R) : Mo Ob := fun ρ => (f ρ).bind fun r ρ1 => match (look ρ1 r).bind sortSetD with
  | some ds => .ok (.lst ds) ρ1
  | none => .no
section
variable {X : Cx} {n : Nat} {W : XW}
end
end Q
namespace Q
open PySem PySem.Spec PyProof.Rows L2 Gd
variable [Tbl]
/-! ### a, b, c = xs, xs a list -/
@[simp] def gL (c : Nat) (g : Tgs) : Tg := fun d ρ => match d with
  | .list ds => if ds.length = c then g ds ρ else none
  | _ => none
section
variable {X : Cx} {n : Nat}
end
end Q
namespace SetS
open PySem PySem.Spec PyProof.Rows L2 Gd PySem.Froz
/-! ### one - other, as sets -/
section
variable {P : Program} {w : World} {A : Around} {E : Value → Shared → Prop} {s : Shared} {a : Addr} {es : Array (Int × Value)} {ep : Nat} {t : SetTable} {o : Obj}
end
end SetS
namespace SetS
open PySem PySem.Spec PyProof.Rows L2 Gd PySem.Froz PpSet
section
variable {P : Program} {w : World} {A : Around} {E : Value → Shared → Prop} {s : Shared} {a b : Addr} {la lb : List Str}
theorem keyS_is {e : Int × Value} {u : Tok} (h : e.2 = Value.str (keyS e) u) (k : Str) : (strKind P w).is k e.2 = true ↔ k = keyS e := by
  rw [h]
  constructor
  · intro q
    exact (strKind P w).inj _ k (keyS e) q (is_str (keyS e) u)
  · intro q
    rw [q]
    exact is_str (keyS e) u
end
end SetS
namespace SetS
open PySem PySem.Spec PyProof.Rows L2 Gd PySem.Froz PpSet
section
variable {P : Program} {w : World} {A : Around} {E : Value → Shared → Prop} {s : Shared} {a b : Addr} {la lb : List Str}
end
section
variable {X : Cx}
/-- a set of texts of which the size alone is told -/
def SN (P : Program) (w : World) (a : Addr) (n : Nat) : HO := .ext fun h => ∃ S, h.SetOf (strKind P w) a S n
def rSubS (P : Program) (w : World) : V → V → Hp → VK → Prop := fun x y H Q => ∃ a la b lb, x = .ref a ∧ y = .ref b ∧ H a = some (SO P w a la) ∧ H b = some (SO P w b lb) ∧ la.Nodup ∧ la.length / 4 ≤ lb.length ∧ la.length ≤ 4000 ∧ lb.length ≤ 4000 ∧
  ∀ D, H D = none → Q (.ref D) (upd H D (SN P w D (la.filter fun k => !lb.contains k).length))
def rLenS (P : Program) (w : World) : List V → Hp → VK → Prop := fun vs H Q => ∃ (a : Addr) (n : Nat), vs = [V.ref a] ∧ H a = some (SN P w a n) ∧ n ≤ 4000 ∧ Q (.int (n : Nat)) H
end
end SetS
namespace Q
open PySem PySem.Spec PyProof.Rows L2 Gd
variable [Tbl]
/-! ### len(set(xs) - set(ys)), tuples of texts -/
def tupS : D → Option (List Str)
  | .tuple ds => (strsD ds).bind fun ns => if ns.length ≤ 4000 then some ns else none
  | _ => none
def dd (xs : List Str) : List Str := xs.foldl SetS.add []
def eSubLen (f g : Mo R) : Mo R := fun ρ => (f ρ).bind fun a ρ1 => match (look ρ1 a).bind tupS with
  | some xs => (g ρ1).bind fun b ρ2 => match (look ρ2 b).bind tupS with
    | some ys => if (dd xs).length / 4 ≤ (dd ys).length then .ok (.d (.int (((dd xs).filter fun k => !(dd ys).contains k).length : Nat))) ρ2 else .no
    | none => .no
  | none => .no
section
variable {K : PySem.W.Frag} {n : Nat} {W : XW}
theorem Aft.from {α : Type} {H H2 : Hp} {σ : St} {ρ ρ2 : Ev} {r : Rt α} {Q : α → Ev → Hp → Prop} (st : Stp K n H σ ρ H2 σ ρ2) (h : Aft K n W H σ ρ r Q) : Aft K n W H2 σ ρ2 r Q := by
  cases r with
  | no => exact h
  | ok a ρ' => exact fun H' s => h H' (st.trans s)
  | ex c d ρ' => exact fun H' s => h H' (st.trans s)
end
section
variable {X : Cx} {n : Nat} {W : XW}
end
end Q
namespace Q
open PySem PySem.Spec PyProof.Rows L2 Gd
/-! ### a lambda that is handed to a def -/
/-- what its call gives -/
def toTh : Rt R → Rt D
  | .ok (.d x) _ => .ok x []
  | .ex c d _ => .ex c d []
  | _ => .no
/-- what a lambda may keep of the slots -/
@[simp] def datS (ρ : Ev) : Ev := ρ.map fun s => match s with
  | .own _ => .no
  | s => s
@[simp] def thR (r : Rt D) (ρ : Ev) : Rt R := match r with
  | .ok x _ => .ok (.d x) ρ
  | .ex c d _ => .ex c d ρ
  | .no => .no
@[simp] def eThk (f : Addr) (i : Nat) (r : Rt D) : Mo R := fun ρ => match ρ[i]? with
  | some (.exc c _ (.dict [(.tuple [], .int a)])) => if c = "" ∧ a = ((f : Nat) : Int) then thR r ρ else .no
  | _ => .no
def thS (f : Addr) : Sl := .exc "" "" (.dict [(.tuple [], .int ((f : Nat) : Int))])
/-- the def that got it -/
def thOf (N : Nat) (b : Addr → Rt D → Mo Out) : Addr → Rt D → Option D := fun f r => match b f r (thS f :: List.replicate (N - 1) .no) with
  | .ok (.rt (.d x)) _ => some x
  | .ok .nx _ => some .none
  | _ => none
noncomputable def eLam (G : Addr → Rt D → Option D) (m : Mo R) : Mo R := fun ρ => @dite _ (∃ x, ∀ f, G f (toTh (m (datS ρ))) = some x) (Classical.propDecidable _) (fun h => .ok (.d h.choose) ρ) fun _ => .no
section
variable {X : Cx} {pins : List (Addr × Obj)} {σ : L2.St} {H : Hp} {s : Shared}
end
end Q
namespace Q
open PySem PySem.Spec PyProof.Rows L2 Gd
section
variable {X : Cx} {pins : List (Addr × Obj)} {σ : L2.St} {H : Hp} {s : Shared}
end
end Q
namespace Q
open PySem PySem.Spec PyProof.Rows L2 Gd
variable [Tbl]
theorem Grow.ext {H H' : Hp} (e : LamX.ExtN H H') : Grow H H' := ⟨fun b xs h => e _ _ h (fun ps z => nomatch z), fun b o u h => e _ _ h (fun ps z => nomatch z), fun b fs h => e _ _ h (fun ps z => nomatch z), fun b q h => e _ _ h fun ps z => LamX.codeO_ne ps z⟩
/-- the tables, and that things stay as they were at H1 -/
abbrev ghoT [Tbl] (H1 : Hp) : Tbl := ⟨Tbl.T, fun G => Grow H1 G, fun _ _ u v => v.trans u, Tbl.hs⟩
/-- the def that gets a lambda: whatever the lambda's call gives, its body is told -/
structure Gets (P : Program) (w : World) (K : PySem.W.Frag) (mg : Str → Option Value) (base : Heap) (k : Nat) (x : Str) (st : Stmt) (g : Addr) (N : List Str) (a : Str) (b : Addr → Rt D → Mo Out) : Prop where
  run : ∀ [tt : Tbl] (cdv : Value) (A : Around) (outer : List Env) (s : Shared) (H : Hp) (f : Addr) (r : Rt D), A.guards = some [] → Room k (A.deeper (envOfC x (defScope st) s.heap.objs.size g cdv)) →
    (∀ (Wx : WX) (pn : List (Addr × Obj)) (xe : Value → Shared → Prop) (p1 p2 : Pos), Takes ((cxOf CX0 P w K mg base N x (defScope st) g cdv A outer s H E0).nox.tr pn xe) Wx →
      XD ((cxOf CX0 P w K mg base N x (defScope st) g cdv A outer s H E0).nox.tr pn xe) 1 (wE K Wx) (.Call (.Name a p1) [] [] p2) (eThk f 0 r)) →
    XSs (cxOf CX0 P w K mg base N x (defScope st) g cdv A outer s H E0).nox 1 W0 (defBody st) (b f r)
section
variable {X : Cx} {n : Nat} {W : XW} {x a : Str} {st : Stmt} {g c PT : Addr} {fd : FuncData} {N : List Str} {b : Addr → Rt D → Mo Out} {m : Mo R} {prm : Arguments} {bd : Expr} {scp : Scope} {lp p pos : Pos} {k : Nat}
end
end Q
namespace Q
open PySem PySem.Spec PyProof.Rows L2 Gd
theorem Gets.up {P : Program} {w : World} {K : PySem.W.Frag} {mg : Str → Option Value} {base : Heap} {k j : Nat} {x : Str} {st : Stmt} {g : Addr} {N : List Str} {a : Str} {b : Addr → Rt D → Mo Out} (G : Gets P w K mg base j x st g N a b) (h : j ≤ k) : Gets P w K mg base k x st g N a b :=
  ⟨fun cdv A outer s H f r hg hr act => G.run cdv A outer s H f r hg (hr.mono h) act⟩
end Q
namespace Q
open PySem PySem.Spec PyProof.Rows L2 Gd
variable [Tbl]
/-! ### xs.count(b), xs.index(b), a list of truth values; one thing or another as an own thing -/
def blsD : List D → Option (List Bool)
  | [] => some []
  | .bool b :: ds => (blsD ds).map (b :: ·)
  | _ => none
def lcntD (ds : List D) : D → Option D
  | .bool b => (blsD ds).map fun bs => .int (bs.count b : Nat)
  | _ => none
def lidxD (ds : List D) : D → Option D
  | .bool b => (blsD ds).bind fun bs => if b ∈ bs then some (.int (bs.idxOf b : Nat)) else none
  | _ => none
section
variable {X : Cx}
def rLm (K : PySem.W.Frag) (F : List D → D → Option D) : V → List V → Hp → VK → Prop := fun x xs H Q => ∃ (p : Addr) (ys : List V) (ds : List D) (y : V) (a d : D), x = .ref p ∧ xs = [y] ∧ SqL K H p ys ∧ ImL K H ys ds ∧ Vw K H y a ∧ F ds a = some d ∧ ∀ v, Im K H v d → Q v H
end
@[simp] def eLm (F : List D → D → Option D) (f g : Mo R) : Mo R := fun ρ => (f ρ).bind fun a ρ1 => match a with
  | .d (.list ds) => (g ρ1).bind fun b ρ2 => lift ((look ρ2 b).bind (F ds)) ρ2
  | _ => .no
section
variable {X : Cx} {n : Nat} {W : XW}
@[simp] def fIf (c : Mo Bool) (f g : Mo Ob) : Mo Ob := fun ρ => (c ρ).bind fun b ρ1 => if b = true then f ρ1 else g ρ1
end
end Q
namespace Q
open PySem PySem.Spec PyProof.Rows L2 Gd
variable [Tbl]
/-! ### isinstance(x, (T, ..)), x a kept error -/
def tK (ts : List V) : TA := fun _ H Q => Q ts H
section
variable {X : Cx} {n : Nat} {W : XW} {tab : List (Str × Bool)}
def rIsXs (K : PySem.W.Frag) (tab : List (Str × Bool)) (ts : List V) : List V → Hp → VK → Prop := fun xs H Q => ∃ (a p : Addr) (c f : Str) (d : D) (b : Bool), xs = [.ref a, .ref p] ∧ H p = some (.tup ts) ∧ ExcA K H a c f d ∧ tab.lookup c = some b ∧ Q (.bl b) H
end
end Q
namespace Q
open PySem PySem.Spec PyProof.Rows L2 Gd
variable [Tbl]
/-! ### a list times a number -/
def rep2 : D → D → Option (List D)
  | .list (d :: ds), .int k => if 0 ≤ k ∧ k ≤ 1000 ∧ ds.length < 1000 then some (List.replicate k.toNat (d :: ds)).flatten else none
  | _, _ => none
section
variable {X : Cx} {n : Nat} {W : XW}
end
end Q
namespace SetS
open PySem PySem.Spec PyProof.Rows L2 Gd PySem.Froz
/-! ### set(xs), xs a list of texts -/
section
variable {prog : Program} {w : World} {A : Around} {E : Value → Shared → Prop} {s : Shared}
end
section
variable {X : Cx}
def rSetL (K : PySem.W.Frag) (P : Program) (w : World) : List V → Hp → VK → Prop := fun vs H Q => ∃ (a : Addr) (xs : List Str), vs = [V.ref a] ∧ SqL K H a (xs.map V.str) ∧ xs.length ≤ 4000 ∧ ∀ D, H D = none → Q (.ref D) (upd H D (SO P w D (xs.foldl add [])))
end
end SetS
namespace Q
open PySem PySem.Spec PyProof.Rows L2 Gd
variable [Tbl]
/-! ### sorted(set(xs)), xs a list of texts -/
def sortSetL : D → Option (List D)
  | .list ds => (strsD ds).bind fun ns => if ns.length ≤ 4000 ∧ (ns.foldl SetS.add []).length < 64 then some ((srt (ns.foldl SetS.add [])).map PyData.str) else none
  | _ => none
def fSortSetL (f : Mo R) : Mo Ob := fun ρ => (f ρ).bind fun r ρ1 => match (look ρ1 r).bind sortSetL with
  | some ds => .ok (.lst ds) ρ1
  | none => .no
section
variable {X : Cx} {n : Nat} {W : XW}
end
end Q
namespace Q
open PySem PySem.Spec PyProof.Rows L2 Gd
variable [Tbl]
/-! ### table.get(text), where the table is a dict of texts and ints that the program wrote once -/
def EntsC (w : World) : List DictEntry → List (Str × Int) → Prop
  | [], [] => True
  | e :: es, q :: qs => (e.hash = hashStr w q.1 ∧ (∃ t, e.key = .str q.1 t) ∧ ∃ t, e.val = .int q.2 t) ∧ EntsC w es qs
  | _, _ => False
structure ConstD (w : World) (K : PySem.W.Frag) (mg : Str → Option Value) (x : Str) (qs : List (Str × Int)) : Prop where
  at' : ∃ (p : Addr) (es : Array DictEntry) (m : Nat), mg x = some (.ref p) ∧ (p == sysModules) = false ∧ K.lookup p = some { cls := .type "dict", data := .dict es m } ∧ EntsC w es.toList qs
  one : (qs.map (·.1)).Nodup
theorem EntsC.pairs {P : Program} {w : World} : ∀ {es : List DictEntry} {qs : List (Str × Int)}, EntsC w es qs → ∃ ts : List Tok, ts.length = qs.length ∧ Pairs (strKind P w) es ((qs.zip ts).map fun r => (r.1.1, Value.int r.1.2 r.2))
  | [], [], _ => ⟨[], rfl, .nil⟩
  | e :: es, q :: qs, ⟨⟨_, ⟨t, ek⟩, u, ev⟩, r⟩ => by
    obtain ⟨ts, l, p⟩ := EntsC.pairs (P := P) r
    refine ⟨u :: ts, by rw [List.length_cons, List.length_cons, l], .cons ?_ ev p⟩
    rw [ek]
    exact strKind_is P w q.1 t
theorem EntsC.keys {P : Program} {w : World} : ∀ {es : List DictEntry} {qs : List (Str × Int)}, EntsC w es qs → ∀ e ∈ es, ∃ k, (strKind P w).is k e.key = true ∧ e.hash = (strKind P w).hash k
  | e :: es, q :: qs, ⟨⟨eh, ⟨t, ek⟩, _⟩, r⟩, d, hd => by
    rcases List.mem_cons.mp hd with rfl | hd
    · refine ⟨q.1, ?_, eh⟩
      rw [ek]
      exact strKind_is P w q.1 t
    · exact EntsC.keys r d hd
def getV (qs : List (Str × Int)) (z : Str) : V := ((qs.find? fun q => decide (q.1 = z)).map fun q => V.int q.2).getD .non
def getC (qs : List (Str × Int)) : D → Option D
  | .str z => some (((qs.find? fun q => decide (q.1 = z)).map fun q => PyData.int q.2).getD .none)
  | _ => none
section
variable {X : Cx} {n : Nat} {W : XW}
def tGetC (f : Str → V) (ty : TE) : TE := fun σ H Q => ty σ H fun y H2 => ∃ z, y = .str z ∧ Q (f z) H2
@[simp] def eGetC (qs : List (Str × Int)) (g : Mo R) : Mo R := fun ρ => (g ρ).bind fun b ρ1 => lift ((look ρ1 b).bind (getC qs)) ρ1
/-! ### xs.count(b), xs.index(b), also of a slot's own list -/
def lkL (F : List D → D → Option D) (ρ : Ev) (a b : R) : Option D := match look ρ a, look ρ b with
  | some (.list ds), some y => F ds y
  | _, _ => none
def isLk (ρ : Ev) (a : R) : Bool := match look ρ a with
  | some (.list _) => true
  | _ => false
def eLmV (F : List D → D → Option D) (f g : Mo R) : Mo R := fun ρ => (f ρ).bind fun a ρ1 => if isLk ρ1 a = true then (g ρ1).bind fun b ρ2 => lift (lkL F ρ2 a b) ρ2 else .no
/-! ### t == () -/
def eqAny (a b : D) : Option D := if nilD b = true then (emptyD a).map .bool else eqF a b
end
end Q
namespace Q
open PySem PySem.Spec PyProof.Rows L2 Gd
/-! ### a key that is a def or a lambda: (len(x), x) -/
def keyE (a : Str) (p1 p2 p3 p4 p5 : Pos) (k : Nat) : Expr := .Tuple [.Call (.Name "len" p1) [.Name a p2] [] p3, .Name a p4] k p5
structure KeyPos (a : Str) (p1 p2 p3 p4 p5 : Pos) : Prop where
  two : ∀ env : Env, backTo p5 (starEach [.Call (.Name "len" p1) [.Name a p2] [] p3, .Name a p4] env) = [(false, eval (.Call (.Name "len" p1) [.Name a p2] [] p3) env), (false, eval (.Name a p4) env)]
  one : ∀ env : Env, backTo p3 (starEach [.Name a p2] env) = [(false, eval (.Name a p2) env)]
  kw : ∀ env : Env, backToKw p3 (keywordEach [] env) = []
  nd : (a == ("__debug__" : Str)) = false
end Q
namespace Q
open PySem PySem.Spec PyProof.Rows L2 Gd
variable [Tbl]
/-! ### sorted(xs, key=f), f a def that gives (len(x), x), xs a list of tuples of texts -/
structure KeyF (K : PySem.W.Frag) (x : Str) (st : Stmt) (f : Addr) (fd : FuncData) (a : Str) : Prop where
  F : Fun K x x st f fd
  b : Binds K fd [a] []
  body : ∃ p1 p2 p3 p4 p5 p6 k, defBody st = [.Return (some (keyE a p1 p2 p3 p4 p5 k)) p6] ∧ KeyPos a p1 p2 p3 p4 p5
  kind : (defScope st).kind = .function
  co : (defScope st).isCoroutine = false
  gen : (defScope st).isGenerator = false
  cl : ∀ y ∈ (defScope st).names, y.2 ≠ .cell
  lo : (defScope st).names.lookup a = some NameKind.local
  ln : (defScope st).names.lookup ("len" : Str) = some NameKind.globalImplicit
def txtsD (z : List Str) : D := .tuple (z.map PyData.str)
def keyZ (z : List Str) : D := .tuple [.int (z.length : Nat), txtsD z]
noncomputable def sortZ (zs : List (List Str)) : List (List Str) := zs.mergeSort (PySem.W.dataLe false keyZ)
section
variable {X : Cx}
def KeyRel (X : Cx) (H : Hp) (h : Heap) (v : Value) (b : V × List Str) : Prop := RelV b.1 v ∧ Im X.K H b.1 (txtsD b.2) ∧ ∃ (u : Addr) (its : Array Value), v = .ref u ∧ h.IsTuple u its ∧ ReadsAll h its.toList (b.2.map PyData.str) [] ∧ its.size = b.2.length
def rSortKey (K : PySem.W.Frag) (f : Addr) : List V → List V → Hp → VK → Prop := fun vs zs H Q => ∃ (a : Addr) (xs : List V) (ts : List (List Str)), vs = [V.ref a] ∧ zs = [V.ref f] ∧ SqL K H a xs ∧ ImL K H xs (ts.map txtsD) ∧ (∀ t ∈ ts, t.length ≤ 1000) ∧
  ∀ p us, H p = none → ImL K H us ((sortZ ts).map txtsD) → Q (.ref p) (upd H p (.lst us))
def txtsOf : List D → Option (List Str)
  | [] => some []
  | .str z :: ds => (txtsOf ds).map (z :: ·)
  | _ => none
def setsOf : List D → Option (List (List Str))
  | [] => some []
  | .tuple ds :: r => (txtsOf ds).bind fun z => (setsOf r).map (z :: ·)
  | _ => none
noncomputable def sortKD : List D → Option (List D)
  | [.list ds] => (setsOf ds).bind fun ts => if (ts.all fun t => decide (t.length ≤ 1000)) = true then some ((sortZ ts).map txtsD) else none
  | _ => none
end
end Q
namespace Q
open PySem PySem.Spec PyProof.Rows L2 Gd
variable [Tbl]
/-! ### sorted(xs, key=lambda x: (len(x), x)) -/
section
variable {X : Cx} {n : Nat} {W : XW} {c PT : Addr} {a : Str} {e : Expr} {m : Mo (List R)} {p lp kp pos p1 p2 p3 p4 p5 : Pos} {k : Nat} {prm : Arguments} {scp : Scope}
end
end Q
namespace Q
open PySem PySem.Spec PyProof.Rows L2 Gd
variable [Tbl]
/-! ### dicts whose keys are tuples -/
/-- the hashes are the world's -/
def HsOk (P : Program) (w : World) : Prop := ∀ ks : List Key, (tupleKind (mixKind P w)).hash ks = Tbl.hs ks
def keysD : List D → Option (List Key)
  | [] => some []
  | d :: ds => match keyOf d, keysD ds with
    | some k, some r => some (k :: r)
    | _, _ => none
def keysT : D → Option (List Key)
  | .tuple ds => keysD ds
  | _ => none
theorem keyD_of {d : D} {k : Key} (e : keyOf d = some k) : d = keyD k := by
  cases d <;> cases e <;> rfl
theorem keysD_D : ∀ ks : List Key, keysD (ks.map keyD) = some ks
  | [] => rfl
  | k :: ks => by
    rw [List.map_cons]
    unfold keysD
    rw [keyOf_D, keysD_D ks]
theorem keysD_eq : ∀ {ds : List D} {ks : List Key}, keysD ds = some ks → ds = ks.map keyD
  | [], ks, e => by
    cases e
    rfl
  | d :: ds, ks, e => by
    unfold keysD at e
    split at e
    · next k r e1 e2 =>
      cases e
      rw [List.map_cons, ← keyD_of e1, ← keysD_eq e2]
    · cases e
theorem keysT_D (ks : List Key) : keysT (.tuple (ks.map keyD)) = some ks := keysD_D ks
theorem im_keys {K : PySem.W.Frag} {H : Hp} : ∀ {xs : List V} {ks : List Key}, ImL K H xs (ks.map keyD) → xs = ks.map kV
  | _, [], .nil => rfl
  | _, k :: ks, .cons h r => by
    rw [List.map_cons, key_vw h (keyOf_D k), im_keys r]
theorem vw_keys {K : PySem.W.Frag} {H : Hp} {v : V} {d : D} {ks : List Key} (h : Vw K H v d) (e : keysT d = some ks) : ∃ b, v = .ref b ∧ NdT H b (ks.map kV) ∧ d = .tuple (ks.map keyD) := by
  cases d with
  | tuple ds =>
    have e : keysD ds = some ks := e
    obtain ⟨a, xs, rfl, nd, im⟩ := h.tupleN
    rw [keysD_eq e] at im
    rw [im_keys im] at nd
    exact ⟨a, rfl, nd, by rw [keysD_eq e]⟩
  | _ => cases e
def findT (ds : List (D × D)) (ks : List Key) : Option D := (ds.find? fun q => decide (keysT q.1 = some ks)).map (·.2)
def putT (ds : List (D × D)) (ks : List Key) (x : D) : List (D × D) :=
  if (findT ds ks).isSome = true then ds.map (fun q => if keysT q.1 = some ks then (q.1, x) else q) else ds ++ [(.tuple (ks.map keyD), x)]
section
variable {K : PySem.W.Frag} {H : Hp}
theorem ImT.len : ∀ {xs : List (List Key × Addr × Value)} {ds : List (D × D)}, ImT K H xs ds → xs.length = ds.length
  | _, _, .nil => rfl
  | _, _, .cons _ _ _ t => by rw [List.length_cons, List.length_cons, ImT.len t]
theorem imT_find {ks : List Key} : ∀ {xs : List (List Key × Addr × Value)} {ds : List (D × D)}, ImT K H xs ds →
    (∀ d, findT ds ks = some d → ∃ b u v, atKey xs ks = some (b, u) ∧ RelV v u ∧ Im K H v d) ∧ (findT ds ks).isSome = (atKey xs ks).isSome
  | _, _, .nil => ⟨fun d e => (by cases e), rfl⟩
  | _, _, @ImT.cons _ _ k b u v d xs ds h r i t => by
    have ih := imT_find (ks := ks) t
    have e1 : findT ((.tuple (k.map keyD), d) :: ds) ks = if k = ks then some d else findT ds ks := by
      unfold findT
      rw [List.find?_cons, keysT_D]
      by_cases e : k = ks
      · subst e
        simp
      · simp [e]
    have e2 : atKey ((k, b, u) :: xs) ks = if k = ks then some (b, u) else atKey xs ks := by
      unfold atKey
      rw [List.find?_cons]
      by_cases e : k = ks
      · simp [e]
      · simp [e]
    rw [e1, e2]
    by_cases e : k = ks
    · rw [if_pos e, if_pos e]
      exact ⟨fun d' q => by
        cases q
        exact ⟨b, u, v, rfl, r, i⟩, rfl⟩
    · rw [if_neg e, if_neg e]
      exact ih
theorem imT_repl {ks : List Key} {u : Value} {v : V} {d : D} (rv : RelV v u) (im : Im K H v d) : ∀ {xs : List (List Key × Addr × Value)} {ds : List (D × D)}, ImT K H xs ds → ImT K H (xs.map (putAt ks u)) (ds.map fun q => if keysT q.1 = some ks then (q.1, d) else q)
  | _, _, .nil => .nil
  | _, _, @ImT.cons _ _ k b u' v' d' xs ds h r i t => by
    rw [List.map_cons, List.map_cons]
    dsimp only
    rw [keysT_D]
    unfold putAt
    by_cases e : k = ks
    · rw [if_pos e, if_pos (by rw [e])]
      exact .cons h rv im (imT_repl rv im t)
    · rw [if_neg e, if_neg (fun z => e (Option.some.inj z))]
      exact .cons h r i (imT_repl rv im t)
theorem ImT.snoc {ks : List Key} {b : Addr} {u : Value} {v : V} {d : D} (nd : NdT H b (ks.map kV)) (rv : RelV v u) (im : Im K H v d) : ∀ {xs : List (List Key × Addr × Value)} {ds : List (D × D)}, ImT K H xs ds → ImT K H (xs ++ [(ks, b, u)]) (ds ++ [(.tuple (ks.map keyD), d)])
  | _, _, .nil => .cons nd rv im .nil
  | _, _, .cons h r i t => .cons h r i (ImT.snoc nd rv im t)
theorem imT_put {ks : List Key} {b : Addr} {u : Value} {v : V} {d : D} (nd : NdT H b (ks.map kV)) (rv : RelV v u) (im : Im K H v d) {xs : List (List Key × Addr × Value)} {ds : List (D × D)} (t : ImT K H xs ds) : ImT K H (storedH xs ks b u) (putT ds ks d) := by
  unfold storedH putT
  rw [(imT_find (ks := ks) t).2]
  split
  · exact imT_repl rv im t
  · exact t.snoc nd rv im
end
section
variable {P : Program} {w : World} {K : PySem.W.Frag} {H : Hp} {h : Heap} {p a : Addr} {xs : List (List Key × Addr × Value)} {ds : List (D × D)}
theorem nd_key {b : Addr} {ks : List Key} (ok : HOk P w H h) (nd : NdT H b (ks.map kV)) : (tupleKind (mixKind P w)).is h ks b := by
  obtain ⟨o', e, _⟩ := nd
  obtain ⟨_, q⟩ := (show ObjOk P w H h b (.frz o' (.tup (ks.map kV))) from ok b _ e)
  obtain ⟨_, its, r, o, h1, h2, n, h3⟩ := q
  exact ⟨o, its.toArray, n, h1, h2, h3, by simpa using items_are r⟩
theorem td_at {hs : List Key → Int} (ok : HOk P w H h) (e : H p = some (.ext (TDp hs a xs))) : p = a ∧ TDp hs a xs h := by
  obtain ⟨φ, _, st⟩ := (show ObjOk P w H h p (.ext (TDp hs a xs)) from ok p _ e)
  refine ⟨Classical.byContradiction fun ne => ?_, φ⟩
  have φ2 := st h (PySem.W.hideAll h [a]) φ fun o q => by
    exact PySem.W.hideAll_get [a] q (by simpa using ne)
  obtain ⟨_, _, o, es, ep, g, _⟩ := φ2
  rw [PySem.W.hideAll_none [a] (by simp)] at g
  cases g
theorem imT_keys (ok : HOk P w H h) : ∀ {xs : List (List Key × Addr × Value)} {ds : List (D × D)}, ImT K H xs ds → ∀ x ∈ xs, (tupleKind (mixKind P w)).is h x.1 x.2.1
  | _, _, .nil => fun x hx => by cases hx
  | _, _, .cons nd _ _ t => fun x hx => by
    rcases List.mem_cons.mp hx with rfl | hx
    · exact nd_key ok nd
    · exact imT_keys ok t x hx
theorem ent_eq (hw : HsOk P w) (xs : List (List Key × Addr × Value)) : xs.map (fun x => (⟨Tbl.hs x.1, .ref x.2.1, x.2.2⟩ : DictEntry)) = xs.map (entryOfKey (tupleKind (mixKind P w))) :=
  List.map_congr_left fun x _ => by
    unfold entryOfKey
    rw [hw]
theorem td_dict (hw : HsOk P w) (ok : HOk P w H h) (e : H p = some (.ext (TDp Tbl.hs a xs))) (im : ImT K H xs ds) : p = a ∧ xs.length ≤ sizeLine ∧ (a == sysModules) = false ∧ h.DictOfH (tupleKind (mixKind P w)) a xs := by
  obtain ⟨pa, z, hd, o, es, ep, h1, h2, h3, h4, h5⟩ := td_at ok e
  exact ⟨pa, z, hd, o, es, ep, h1, h2, h3, by rw [h4, ent_eq hw], imT_keys ok im, h5⟩
theorem td_new (hw : HsOk P w) {H' : Hp} {h' : Heap} (dd : h'.DictOfH (tupleKind (mixKind P w)) a xs) (z : xs.length ≤ sizeLine) (hd : (a == sysModules) = false) : ObjOk P w H' h' a (.ext (TDp Tbl.hs a xs)) := by
  obtain ⟨o, es, ep, h1, h2, h3, h4, _, h5⟩ := dd
  refine ⟨⟨z, hd, o, es, ep, h1, h2, h3, by rw [h4, ent_eq hw], h5⟩, ⟨o, h1⟩, fun g1 g2 q k => ?_⟩
  obtain ⟨z, hd, o, es, ep, h1, r⟩ := q
  exact ⟨z, hd, o, es, ep, k _ h1, r⟩
end
section
variable {X : Cx} {n : Nat} {W : XW}
/-! ### x in d, x not in d -/
def rInT (K : PySem.W.Frag) (neg : Bool) : R2 := fun x y H Q => ∃ p a xs ds b ks, y = .ref p ∧ H p = some (.ext (TDp Tbl.hs a xs)) ∧ ImT K H xs ds ∧ x = .ref b ∧ NdT H b (ks.map kV) ∧ Q (.bl (neg.xor (findT ds ks).isSome)) H
@[simp] def eInT (neg : Bool) (f : Mo R) (i : Nat) : Mo R := fun ρ => (f ρ).bind fun r ρ1 => match (look ρ1 r).bind keysT, ρ1[i]? with
  | some ks, some (.own (.dt ds)) => .ok (.d (.bool (neg.xor (findT ds ks).isSome))) ρ1
  | _, _ => .no
theorem own_dt {K : PySem.W.Frag} {H : Hp} {σ : St} {ρ : Ev} (G : Good K H σ ρ) {i : Nat} {ds : List (D × D)} (e : ρ[i]? = some (.own (.dt ds))) : ∃ p a xs, σ[i]? = some (some (.ref p)) ∧ H p = some (.ext (TDp Tbl.hs a xs)) ∧ ImT K H xs ds := by
  obtain ⟨p, h, e1, e2, r⟩ := G.own i _ e
  cases r with
  | dt r => exact ⟨p, _, _, e1, e2, r⟩
end
end Q
namespace Q
open PySem PySem.Spec PyProof.Rows L2 Gd
variable [Tbl]
/-! ### d[k] = v, {k: v}: keys that are tuples -/
@[simp] def setTd (i : Nat) (x : D) (j : R) (ρ : Ev) : Rt Out := match (look ρ j).bind keysT, ρ[i]? with
  | some ks, some (.own (.dt ds)) => if ds.length < sizeLine then .ok .nx (ρ.set i (.own (.dt (putT ds ks x)))) else .no
  | _, _ => .no
@[simp] def bSetT (i : Nat) (f : Mo R) (g : Mo R) : Mo Out := fun ρ => (f ρ).bind fun r ρ1 => match r, ρ1[i]? with
  | .d x, some (.own (.dt _)) => (g ρ1).bind fun j ρ2 => setTd i x j ρ2
  | _, _ => .no
def sTPut (K : PySem.W.Frag) (td ty tv : TE) : TS := fun E σ H => tv σ H fun v H1 => td σ H1 fun x H2 => ty σ H2 fun y H3 => ∃ p a xs ds b ks, x = .ref p ∧ H3 p = some (.ext (TDp Tbl.hs a xs)) ∧ ImT K H3 xs ds ∧ y = .ref b ∧ NdT H3 b (ks.map kV) ∧ xs.length < sizeLine ∧
  ∀ u, RelV v u → E.nx σ (upd H3 p (.ext (TDp Tbl.hs a (storedH xs ks b u))))
section
variable {X : Cx} {o i value : Expr} {pos pos' : Pos} {td ty tv : TE}
end
section
variable {X : Cx} {n : Nat} {W : XW}
theorem Aft.on {α : Type} {K : PySem.W.Frag} {H H1 : Hp} {σ : L2.St} {ρ ρ1 : Ev} {r : Rt α} {Q : α → Ev → Hp → Prop} (s : Stp K n H σ ρ H1 σ ρ1) (h : Aft K n W H σ ρ r Q) : Aft K n W H1 σ ρ1 r Q := by
  cases r with
  | no => exact h
  | ok a ρ2 => exact fun H2 s2 => h H2 (s.trans s2)
  | ex c d ρ2 => exact fun H2 s2 => h H2 (s.trans s2)
def tNewT (tk tv : TE) : TE := fun σ H Q => ∀ p, H p = none → tPairs [(tk, tv)] σ (upd H p (.ext (TDp Tbl.hs p []))) fun ps H2 => ∃ x y b ks, ps = [(x, y)] ∧ H2 p = some (.ext (TDp Tbl.hs p [])) ∧
  x = .ref b ∧ NdT H2 b (ks.map kV) ∧ ∀ u, RelV y u → Q (.ref p) (upd H2 p (.ext (TDp Tbl.hs p [(ks, b, u)])))
@[simp] def fNewT (fk fv : Mo R) : Mo Ob := fun ρ => (fk ρ).bind fun r ρ1 => (fv ρ1).bind fun v ρ2 => match (look ρ1 r).bind keysT, v with
  | some ks, .d x => .ok (.dt [(.tuple (ks.map keyD), x)]) ρ2
  | _, _ => .no
end
end Q
namespace Q
open PySem PySem.Spec PyProof.Rows L2 Gd
variable [Tbl]
/-! ### calls of defs with defaults that are not written -/
@[simp] def eApp (m : Mo (List R)) (ds : List D) : Mo (List R) := fun ρ => (m ρ).bind fun rs ρ1 => .ok (rs ++ ds.map R.d) ρ1
section
variable {X : Cx} {n : Nat} {W : XW} {k : Nat} {f : Addr} {fd : FuncData} {ps : List Str} {x : Str} {p pos : Pos} {e : Expr} {es : List Expr} {m : Mo (List R)} {F : Fn} {Wx : WX} {sp : Sp} {t : TA} {dvs : List V} {dus : List Value} {dds : List D}
def tApp (t : TA) (dvs : List V) : TA := fun σ H Q => t σ H fun vs H1 => Q (vs ++ dvs) H1
inductive ImC : List V → List D → Prop
  | nil : ImC [] []
  | int {i : Int} {vs : List V} {ds : List D} : ImC vs ds → ImC (.int i :: vs) (.int i :: ds)
end
end Q
namespace Q
open PySem PySem.Spec PyProof.Rows L2 Gd
variable [Tbl]
/-! ### x += e, both ints -/
@[simp] def bAug (i : Nat) (f : Mo R) : Mo Out := fun ρ => match ρ[i]? with
  | some (.dat (.int a)) => (f ρ).bind fun r ρ1 => match look ρ1 r with
    | some (.int b) => nxt (put i (.dat (.int (a + b))) ρ1)
    | _ => .no
  | _ => .no
section
variable {X : Cx} {n : Nat} {W : XW}
/-! ### sorted(xs), xs a list of tuples of texts: none of them empty, or one alone -/
noncomputable def sortT (ts : List (List Str)) : List (List Str) := ts.mergeSort (PySem.W.dataLe false txtsD)
def sortable (ts : List (List Str)) : Bool := decide (ts.length ≤ 1) || ts.all fun t => !t.isEmpty
noncomputable def sortTD : List D → Option (List D)
  | [.list ds] => (setsOf ds).bind fun ts => if sortable ts = true then some ((sortT ts).map txtsD) else none
  | _ => none
end
end Q
namespace Q
open PySem PySem.Spec PyProof.Rows L2 Gd
variable [Tbl]
/-! ### sorting tuples, empty ones among them -/
section
variable {prog : Program} {w : World} {A : Around} {E : Value → Shared → Prop} {s : Shared}
def fullB : D → Bool
  | .tuple (_ :: _) => true
  | _ => false
end
end Q
namespace Q
open PySem PySem.Spec PyProof.Rows L2 Gd
variable [Tbl]
section
variable {X : Cx}
end
end Q
namespace Q
open PySem PySem.Spec PyProof.Rows L2 Gd
variable [Tbl]
section
variable {X : Cx} {n : Nat} {W : XW}
/-! ### sorted(xs), xs a list or a tuple of tuples of texts -/
noncomputable def sortUD : List D → Option (List D)
  | [.list ds] => (setsOf ds).map fun ts => (sortT ts).map txtsD
  | [.tuple ds] => (setsOf ds).map fun ts => (sortT ts).map txtsD
  | _ => none
/-! ### sorted(dict(xs)), xs a list of pairs of a tuple of texts and data -/
def pairsZ : List D → Option (List (List Str × D))
  | [] => some []
  | .tuple [.tuple es, v] :: r => (txtsOf es).bind fun z => (pairsZ r).map ((z, v) :: ·)
  | _ :: _ => none
def mergeZ (acc : List (D × D)) : List (List Str × D) → List (D × D)
  | [] => acc
  | p :: r => mergeZ (putT acc (p.1.map Sum.inr) p.2) r
abbrev PrZ (K : PySem.W.Frag) (H : Hp) : List (List Str × D) → List (List Key × Addr × Value) → Prop := Paired fun (p : List Str × D) (x : List Key × Addr × Value) => x.1 = p.1.map Sum.inr ∧ NdT H x.2.1 (p.1.map V.str) ∧ ∃ v, RelV v x.2.2 ∧ Im K H v p.2
end
end Q
namespace Q
open PySem PySem.Spec PyProof.Rows L2 Gd
variable [Tbl]
section
variable {X : Cx} {n : Nat} {W : XW}
theorem imk {K : PySem.W.Frag} {H : Hp} : ∀ ks : List Key, ImL K H (ks.map kV) (ks.map keyD)
  | [] => .nil
  | .inl i :: ks => .cons (.int i) (imk ks)
  | .inr x :: ks => .cons (.str x) (imk ks)
theorem imT_list {K : PySem.W.Frag} {H : Hp} : ∀ {xs : List (List Key × Addr × Value)} {ds : List (D × D)}, ImT K H xs ds → ImL K H (xs.map fun x => V.ref x.2.1) (ds.map Prod.fst)
  | _, _, .nil => .nil
  | _, _, .cons nd _ _ t => .cons (.tup nd (imk _)) (imT_list t)
theorem vals_addr (xs : List (List Key × Addr × Value)) : Vals (xs.map fun x => V.ref x.2.1) (xs.map fun x => Value.ref x.2.1) := by
  induction xs with
  | nil => exact .nil
  | cons x xs ih => exact .cons rfl ih
theorem its_of {P : Program} {w : World} {xs : List (List Key × Addr × Value)} {es : Array DictEntry} {acc : Array Value} (he : es.toList = xs.map (entryOfKey (tupleKind (mixKind P w)))) (it : ItemsOf (fun i v => ∃ en : DictEntry, es[i]? = some en ∧ v = en.key) acc es.size) : acc.toList = xs.map fun x => Value.ref x.2.1 := by
  have l1 : es.size = xs.length := size_of_entries he
  have hl : acc.toList.length = xs.length := by rw [Array.length_toList, it.1]; exact l1
  apply List.ext_getElem?
  intro j
  rw [List.getElem?_map]
  cases hj : acc.toList[j]? with
  | none =>
    have h1 := List.getElem?_eq_none_iff.mp hj
    rw [List.getElem?_eq_none (by omega)]
    rfl
  | some v =>
    obtain ⟨en, hen, hv⟩ := it.2 j v (by rw [← Array.getElem?_toList]; exact hj)
    have qe := entry_at he j
    rw [hen] at qe
    cases hb : xs[j]? with
    | none =>
      rw [hb] at qe
      exact nomatch (show some en = none from qe)
    | some b =>
      rw [hb] at qe
      have e2 : en = entryOfKey (tupleKind (mixKind P w)) b := Option.some.inj qe
      rw [hv, e2]
      rfl
/-! ### list(d) -/
def rListT (K : PySem.W.Frag) : List V → Hp → VK → Prop := fun vs H Q => ∃ p a xs ds, vs = [V.ref p] ∧ H p = some (.ext (TDp Tbl.hs a xs)) ∧ ImT K H xs ds ∧ ∀ q us, H q = none → ImL K H us (ds.map Prod.fst) → Q (.ref q) (upd H q (.lst us))
/-! ### sorted(d) -/
def rSortE (K : PySem.W.Frag) : List V → Hp → VK → Prop := fun vs H Q => ∃ p a xs ds zs, vs = [V.ref p] ∧ H p = some (.ext (TDp Tbl.hs a xs)) ∧ ImT K H xs ds ∧ setsOf (ds.map Prod.fst) = some zs ∧ ∀ t us, H t = none → ImL K H us ((sortT zs).map txtsD) → Q (.ref t) (upd H t (.lst us))
/-! ### dict(xs), xs a list of pairs of a tuple of texts and data -/
def rDictZ (K : PySem.W.Frag) : List V → Hp → VK → Prop := fun vs H Q => ∃ a ys ds ps, vs = [V.ref a] ∧ Rd H a (.lst ys) ∧ ImL K H ys ds ∧ pairsZ ds = some ps ∧ ∀ p xs, H p = none → ImT K H xs (mergeZ [] ps) → Q (.ref p) (upd H p (.ext (TDp Tbl.hs p xs)))
end
end Q
namespace Q
open PySem PySem.Spec PyProof.Rows L2 Gd
variable [Tbl]
/-! ### [elt for x in xs for y in ys if ..] -/
def comp2L (g1 : Tg) (it2 : Mo (List D)) (g2 : Tg) (t : Mo Bool) (e : Mo R) (vs vs2 : List Nat) : List D → Mo (List D)
  | [], ρ => .ok [] ρ
  | d :: ds, ρ => match g1 d ρ with
    | none => .no
    | some ρ1 => (it2 ρ1).bnd fun ds2 ρ2 => (compD g2 t e vs2 ds2 (wipeE ρ2 vs2)).bnd fun xs ρ3 => (comp2L g1 it2 g2 t e vs vs2 ds (wipeE ρ3 vs)).bnd fun ys ρ4 => .ok (xs ++ ys) ρ4
def fComp2 (it1 : Mo (List D)) (g1 : Tg) (it2 : Mo (List D)) (g2 : Tg) (t : Mo Bool) (e : Mo R) (vs vs2 : List Nat) : Mo Ob := fun ρ => (it1 ρ).bind fun ds ρ1 => if noOwn ρ1 vs = true then (comp2L g1 it2 g2 t e vs vs2 ds (wipeE ρ1 vs)).bnd fun xs ρ2 => if xs.length ≤ 1000000 then .ok (.lst xs) (mixE ρ1 ρ2 vs) else .no else .no
section
variable {K : PySem.W.Frag} {n : Nat} {W : XW}
end
section
variable {X : Cx} {n : Nat} {W : XW}
end
end Q
namespace Q
open PySem PySem.Spec PyProof.Rows L2 Gd
variable [Tbl]
/-! ### {} -/
section
variable {X : Cx} {n : Nat} {W : XW} {pos : Pos}
def tNewT0 : TE := fun _ H Q => ∀ p, H p = none → Q (.ref p) (upd H p (.ext (TDp Tbl.hs p [])))
@[simp] def fNewT0 : Mo Ob := fun ρ => .ok (.dt []) ρ
end
/-! ### d.setdefault(k, []).append(x): keys that are tuples, the key new -/
/-- a thing beside is locked -/
def tFrzA (te : TE) : TE := fun σ H Q => te σ H fun x H1 => ∃ d u, H1 d = some u ∧ Mut (some u) ∧ ∀ od, Q x (upd H1 d (.frz od u))
section
variable {X : Cx} {o e : Expr} {td ty : TE} {pos : Pos}
def tSdT (K : PySem.W.Frag) (td ty : TE) : TE := fun σ H Q => td σ H fun x H1 => ∃ p a xs ds, x = .ref p ∧ H1 p = some (.ext (TDp Tbl.hs a xs)) ∧ ImT K H1 xs ds ∧ ty σ H1 fun y H2 => ∃ a' ys es b ks, H2 p = some (.ext (TDp Tbl.hs a' ys)) ∧ ImT K H2 ys es ∧
  y = .ref b ∧ NdT H2 b (ks.map kV) ∧ findT es ks = none ∧ ys.length < sizeLine ∧ ∀ q, H2 q = none → Q (.ref q) (upd (upd H2 q (.lst [])) p (.ext (TDp Tbl.hs a' (storedH ys ks b (.ref q)))))
end
@[simp] def eSdA (i : Nat) (f : Mo R) (j : Nat) : Mo R := fun ρ => match ρ[i]? with
  | some (.own (.dt _)) => (f ρ).bind fun r ρ1 => match (look ρ1 r).bind keysT, ρ1[i]?, ρ1[j]? with
    | some ks, some (.own (.dt ds)), some (.dat x) => if (findT ds ks).isNone = true ∧ ds.length < sizeLine then .ok (.d .none) (ρ1.set i (.own (.dt (ds ++ [(.tuple (ks.map keyD), .list [x])])))) else .no
    | _, _, _ => .no
  | _ => .no
section
variable {X : Cx} {n : Nat} {W : XW} {x y : Str} {p p2 apos cpos a2 c2 lpos : Pos} {e : Expr} {f : Mo R} {i j : Nat}
end
/-! ### d.get(k, []): the key there -/
@[simp] def eGetT (i : Nat) (f : Mo R) : Mo R := fun ρ => match ρ[i]? with
  | some (.own (.dt _)) => (f ρ).bind fun r ρ1 => match (look ρ1 r).bind keysT, ρ1[i]? with
    | some ks, some (.own (.dt ds)) => lift (findT ds ks) ρ1
    | _, _ => .no
  | _ => .no
def tGetT (K : PySem.W.Frag) (td ty : TE) : TE := fun σ H Q => td σ H fun x H1 => ∃ p a xs ds, x = .ref p ∧ H1 p = some (.ext (TDp Tbl.hs a xs)) ∧ ImT K H1 xs ds ∧ ty σ H1 fun y H2 => ∃ a' ys es b ks d, H2 p = some (.ext (TDp Tbl.hs a' ys)) ∧ ImT K H2 ys es ∧
  y = .ref b ∧ NdT H2 b (ks.map kV) ∧ findT es ks = some d ∧ ∀ q v, H2 q = none → Im K (upd H2 q (.lst [])) v d → Q v (upd H2 q (.lst []))
section
variable {X : Cx} {o e : Expr} {td ty : TE}
end
section
variable {X : Cx} {n : Nat} {W : XW} {x : Str} {p apos cpos lpos : Pos} {e : Expr} {f : Mo R} {i : Nat}
end
end Q
namespace Q
open PySem PySem.Spec PyProof.Rows L2 Gd
variable [Tbl]
/-! ### list(zip(xs, ys)), xs and ys lists -/
/-- where a walk over pairs stands -/
def ZSt (h : Heap) (z TI TO i1 i2 l1 l2 S : Addr) (xs ys : Array Value) (i : Nat) : Prop :=
  ((IsZip h z TI TO .none ∧ ∃ a b, IsPair h TO a b) ∨ ∃ T f oT, IsZipHeld h z TI TO T f ∧ h.get? T = some oT ∧ T ≠ z ∧ T ≠ i1 ∧ T ≠ i2 ∧ T ≠ S) ∧ IsPair h TI (.ref i1) (.ref i2) ∧ h.IsListIter i1 l1 i ∧ h.IsListIter i2 l2 i ∧ h.IsList l1 xs ∧ h.IsList l2 ys
structure OffS (z TI TO i1 i2 l1 l2 S : Addr) : Prop where
  z : z ≠ S
  TI : TI ≠ S
  TO : TO ≠ S
  i1 : i1 ≠ S
  i2 : i2 ≠ S
  l1 : l1 ≠ S
  l2 : l2 ≠ S
theorem ZSt.keep {h h' : Heap} {z TI TO i1 i2 l1 l2 S : Addr} {xs ys : Array Value} {i : Nat} (O : OffS z TI TO i1 i2 l1 l2 S) (st : ZSt h z TI TO i1 i2 l1 l2 S xs ys i) (k : ∀ b o, b ≠ S → h.get? b = some o → h'.get? b = some o) : ZSt h' z TI TO i1 i2 l1 l2 S xs ys i := by
  obtain ⟨c, p, a1, a2, b1, b2⟩ := st
  refine ⟨?_, k _ _ O.TI p, a1.at fun o e => k _ o O.i1 e, a2.at fun o e => k _ o O.i2 e, b1.at fun o e => k _ o O.l1 e, b2.at fun o e => k _ o O.l2 e⟩
  rcases c with ⟨hz, a, b, hp⟩ | ⟨T, f, oT, hz, hT, r⟩
  · exact .inl ⟨k _ _ O.z hz, a, b, k _ _ O.TO hp⟩
  · exact .inr ⟨T, f, oT, k _ _ O.z hz, k _ _ r.2.2.2 hT, r⟩
section
variable {prog : Program} {w : World} {A : Around} {E : Value → Shared → Prop} {s : Shared} {z TI TO i1 i2 l1 l2 S : Addr} {xs ys : Array Value} {i : Nat}
/-- the pairs that were given out -/
structure ZPs (xs ys : Array Value) (lo : Addr) (h : Heap) (ts : List Addr) : Prop where
  rise : ts.Pairwise (· < ·)
  pairs : ∀ (j : Nat) (t : Addr), ts[j]? = some t → lo ≤ t ∧ ∃ x y, xs[j]? = some x ∧ ys[j]? = some y ∧ IsPair h t x y
theorem ZPs.lt {xs ys : Array Value} {lo : Addr} {h : Heap} {ts : List Addr} (g : ZPs xs ys lo h ts) {t : Addr} (ht : t ∈ ts) : lo ≤ t ∧ t < h.objs.size := by
  obtain ⟨j, hj⟩ := List.mem_iff_getElem?.mp ht
  obtain ⟨l, _, _, _, _, e⟩ := g.pairs j t hj
  exact ⟨l, Heap.lt_size e⟩
abbrev LstAt (h : Heap) (S : Addr) (acc : Array Value) (c : Nat) : Prop := h.get? S = some { cls := .type "list", dict := none, data := .seq acc c, slots := #[] }
end
section
variable {prog : Program} {w : World} {A : Around} {s : Shared} {R : Result → Shared → Prop} {z TI TO i1 i2 l1 l2 S lo : Addr} {xs ys : Array Value}
structure ZLow (z TO i1 i2 S lo : Addr) : Prop where
  z : z < lo
  TO : TO < lo
  i1 : i1 < lo
  i2 : i2 < lo
  S : S < lo
end
end Q
namespace Q
open PySem PySem.Spec PyProof.Rows L2 Gd
variable [Tbl]
section
variable {prog : Program} {w : World} {A : Around} {E : Value → Shared → Prop} {s : Shared} {z TI TO i1 i2 l1 l2 : Addr} {xs ys : Array Value}
end
/-! ### the tuples are known -/
def putZ : Hp → List Addr → List (V × V × Obj) → Hp
  | H, t :: ts, p :: ps => putZ (upd H t (.frz p.2.2 (.tup [p.1, p.2.1]))) ts ps
  | H, _, _ => H
end Q
namespace Q
open PySem PySem.Spec PyProof.Rows L2 Gd
variable [Tbl]
section
variable {X : Cx} {n : Nat} {W : XW}
/-! ### sorted(dict(xs)), xs a list of pairs of a tuple of texts and data -/
@[simp] noncomputable def fSortDZ (m : Mo (List R)) : Mo Ob := fun ρ => (m ρ).bind fun rs ρ1 => match looks ρ1 rs with
  | some [.list ds] => match (pairsZ ds).bind fun ps => setsOf ((mergeZ [] ps).map Prod.fst) with
    | some zs => .ok (.lst ((sortT zs).map txtsD)) ρ1
    | none => .no
  | _ => .no
/-! ### list(zip(xs, ys)) -/
def rFNs (K : PySem.W.Frag) (F : List D → Option (List D)) : List V → Hp → VK → Prop := fun xs H Q => ∃ as ds, VwL K H xs as ∧ F as = some ds ∧ ∀ H1 p vs, Same H H1 → H p = none → H1 p = none → ImL K H1 vs ds → Q (.ref p) (upd H1 p (.lst vs))
def zipT : List D → List D → List D
  | a :: as, b :: bs => .tuple [a, b] :: zipT as bs
  | _, _ => []
@[simp] def zipLL : List D → Option (List D)
  | [.list a, .list b] => if a.length ≤ sizeLine then some (zipT a b) else none
  | _ => none
end
end Q
namespace Q
open PySem PySem.Spec PyProof.Rows L2 Gd
variable [Tbl]
/-! ### {k: v for x in xs}: keys that are tuples -/
section
variable {X : Cx}
theorem d_dictSetT {pins : List (Addr × Obj)} {σ : L2.St} {H : Hp} {s : Shared} {E : Value → Shared → Prop} {p a b : Addr} {xs : List (List Key × Addr × Value)} {ds : List (D × D)} {ks : List Key} {z : V} {r : Value} {Q : Unit → Shared → Prop} (hw : HsOk X.prog X.w) (hu : X.A.units + 65 < cLine) (I : Inv X pins σ H s)
    (e : H p = some (.ext (TDp Tbl.hs a xs))) (im : ImT X.K H xs ds) (nd : NdT H b (ks.map kV)) (lt : xs.length < sizeLine) (_ : RelV z r) (q : ∀ s', Inv X pins σ (upd H p (.ext (TDp Tbl.hs a (storedH xs ks b r)))) s' → Q () s') : wpAny (model X.prog X.w) X.A (dictSet p (.ref b) r) Q E s := by
  obtain ⟨rfl, l1, hd, dd⟩ := td_dict hw I.hok e im
  have l2 : (storedH xs ks b r).length ≤ sizeLine := by
    have := storedH_length xs ks b r
    omega
  refine wpAny_dictSet_heap (knd := tupleKind (mixKind X.prog X.w)) (hsz := l1) (show X.A.units < cLine by omega) (nd_key I.hok nd) dd fun h' dd' sb => q _ ?_
  obtain ⟨ob, _, _, g, _⟩ := id dd'
  exact d_write I (by rw [e]; exact True.intro) sb ⟨ob, g⟩ (td_new hw dd' l2 hd)
/-- what is due after each turn, D the new dict -/
def tDcT (K : PySem.W.Frag) (wi : TI) (g : TG) (tt : TT) (tk tv : TE) (vs : List Nat) : TE := fun σ H Q => wi σ H fun J H1 => ∀ D, H1 D = none → ∃ W : Nat → Nat → Hp → Prop, (∃ m, W 0 m (upd H1 D (.ext (TDp Tbl.hs D [])))) ∧ ∀ i m G, W i m G →
  (J.stop i G ∧ Q (.ref D) G) ∨ (J.go i G ∧ ∃ Nx : Hp → Prop, (∀ G', Nx G' → ∃ m', m' < m ∧ W (i + 1) m' G') ∧ ∀ x G', J.yld i G x G' → g x (wipe σ vs) G' fun σ2 H2 => wipe σ2 vs = wipe σ vs ∧ tt σ2 H2 fun b H3 =>
    if b = true then tk σ2 H3 fun y H4 => tv σ2 H4 fun z H5 => ∃ a xs ds t ks, y = .ref t ∧ H5 D = some (.ext (TDp Tbl.hs a xs)) ∧ ImT K H5 xs ds ∧ NdT H5 t (ks.map kV) ∧ xs.length < sizeLine ∧ ∀ u, RelV z u → Nx (upd H5 D (.ext (TDp Tbl.hs a (storedH xs ks t u)))) else Nx H3)
theorem dcT_core {pins : List (Addr × Obj)} {s : Shared} {σ : L2.St} {H : Hp} {Q : VK} {kx vx tg iter : Expr} {ifs : List Expr} {scope : Scope} {own : List (Str × Nat)} {pos pos' : Pos} {wi : TI} {g : TG} {tt : TT} {tk tv : TE} {use : Option (Value → Sem Unit)} {Qf : Value → Shared → Prop}
    (hw : HsOk X.prog X.w) (hu : X.A.units + 65 < cLine) (calm : X.calm = true) (nod : X.N.Nodup) (I : Inv X pins σ H s) (hi : PI X tg iter wi) (ok : BlkOk X.N X.env.scope scope own)
    (hg : ∀ (s0 : Shared) (G : Hp) (C : Addr) (cl : List (Str × Addr)) (fp : List Addr), PG (X.blk s0 G scope (compEnvC scope cl C X.env) fp) tg g)
    (ht : ∀ (s0 : Shared) (G : Hp) (C : Addr) (cl : List (Str × Addr)) (fp : List Addr), PTs (X.blk s0 G scope (compEnvC scope cl C X.env) fp) ifs tt)
    (hk : ∀ (s0 : Shared) (G : Hp) (C : Addr) (cl : List (Str × Addr)) (fp : List Addr), PE (X.blk s0 G scope (compEnvC scope cl C X.env) fp) kx tk)
    (hv : ∀ (s0 : Shared) (G : Hp) (C : Addr) (cl : List (Str × Addr)) (fp : List Addr), PE (X.blk s0 G scope (compEnvC scope cl C X.env) fp) vx tv)
    (hs : ∀ x, foldedSetIterable iter X.env x = pure x) (h : tDcT X.K wi g tt tk tv (own.map (·.2)) σ H Q)
    (back : ∀ D C s' m G, Inv X pins σ G s' → Q (.ref D) G → s'.heap.Ns C m → FpOk X pins G C → compPost (model X.prog X.w) X.A X.xe use Qf (.ref D) C (.ok .next) s') :
    wpAny (model X.prog X.w) X.A (comprehension (.DictComp kx vx [⟨tg, iter, ifs, 0⟩] scope pos) scope X.env pos' newDict false (eval iter X.env) use) Qf X.xe s := by
  have free : ∀ y ∈ scope.names, y.2 = .free → ∃ c, X.env.cells.lookup y.1 = some c := fun y hy e => by
    rcases ok.free y hy e with q | q
    · exact I.ok.has _ (.inl q)
    · exact I.ok.has _ (.inr q)
  refine wpAny_comprehension_free (use := use) rfl hs (closure_ok free) ok.kind (fun y hy e => by rw [ok.uniq y hy, e]) (thn (hi.run pins s σ H _ I h) fun _ s1 h1 => thn h1 fun _ s2 h2 => ?_)
  obtain ⟨it, fp, tn, J, H2, rfl, I2, T, st2, f2, q⟩ := h2
  refine wpAny_newObj_type (newEnv_comp ?_)
  generalize eD : s2.heap.objs.size = D
  have nD : H2 D = none := I2.hok.fresh (Nat.le_of_eq eD)
  have hd : (D == sysModules) = false := beq_eq_false_iff_ne.mpr (Ne.symm (Nat.ne_of_lt (by rw [← eD]; exact I2.big)))
  obtain ⟨W, ⟨m0, w0⟩, turn⟩ := q D nD
  generalize e3 : ({ s2 with heap := s2.heap.push { cls := .type "dict", data := .dict #[] } } : Shared) = s3
  have hp3 : s3.heap = s2.heap.push { cls := .type "dict", data := .dict #[] } := by rw [← e3]
  have I3 : Inv X pins σ (upd H2 D (.ext (TDp Tbl.hs D []))) s3 := by
    rw [← e3]
    refine I2.laid (t' := s2.toks) (fun _ _ x => Heap.get?_push_of_some _ x) (Nat.le_of_eq eD) ?_
    have dd := td_new (H' := upd H2 D (.ext (TDp Tbl.hs D []))) hw (Heap.DictOfH.new (knd := tupleKind (mixKind X.prog X.w)) s2.heap) (Nat.zero_le _) (by rw [eD]; exact hd)
    rw [eD] at dd
    exact dd
  have f3 : ∀ c ∈ fp, FpOk X pins (upd H2 D (.ext (TDp Tbl.hs D []))) c ∧ c < s3.heap.objs.size := fun c hc => by
    obtain ⟨_, x, _⟩ := T.obj _ _ st2 c hc
    have lc := Heap.lt_size x
    refine ⟨⟨?_, (f2 c hc).2⟩, by rw [hp3, Heap.size_push]; exact Nat.lt_succ_of_lt lc⟩
    rw [upd_ne (by rw [← eD]; exact Nat.ne_of_lt lc)]
    exact (f2 c hc).1
  have st3 : tn 0 s3.heap := T.keep _ _ _ st2 fun _ _ _ x => by rw [hp3]; exact Heap.get?_push_of_some _ x
  have I4 := block_start I3 ok nod f3
  have pg := hg s3 (upd H2 D (.ext (TDp Tbl.hs D []))) s3.heap.objs.size (cellsFrom (s3.heap.objs.size + 1) scope.names (cloFrom X.env.cells scope.names [])) fp
  have pt := ht s3 (upd H2 D (.ext (TDp Tbl.hs D []))) s3.heap.objs.size (cellsFrom (s3.heap.objs.size + 1) scope.names (cloFrom X.env.cells scope.names [])) fp
  have pk := hk s3 (upd H2 D (.ext (TDp Tbl.hs D []))) s3.heap.objs.size (cellsFrom (s3.heap.objs.size + 1) scope.names (cloFrom X.env.cells scope.names [])) fp
  have pv := hv s3 (upd H2 D (.ext (TDp Tbl.hs D []))) s3.heap.objs.size (cellsFrom (s3.heap.objs.size + 1) scope.names (cloFrom X.env.cells scope.names [])) fp
  have off : ∀ c ∈ fp, (upd H2 D (.ext (TDp Tbl.hs D []))) c = none := fun c hc => (f3 c hc).1.1
  show codeAny _ _ (.compStart (.DictComp kx vx [⟨tg, iter, ifs, 0⟩] scope pos) 0 (.ref it) (.ref D) (compEnvC scope (cellsFrom (s3.heap.objs.size + 1) scope.names (cloFrom X.env.cells scope.names [])) s3.heap.objs.size X.env)) (compPost (model X.prog X.w) X.A X.xe use Qf (.ref D) s3.heap.objs.size)
    { s3 with heap := pushCells (s3.heap.push { cls := .type "dict", data := .dict #[] }) scope.names }
  generalize ec : compEnvC scope (cellsFrom (s3.heap.objs.size + 1) scope.names (cloFrom X.env.cells scope.names [])) s3.heap.objs.size X.env = ce at I4 pg pt pk pv ⊢
  have cl : ce.locals = s3.heap.objs.size := by
    subst ec
    rfl
  generalize upd H2 D (.ext (TDp Tbl.hs D [])) = H3 at I3 I4 pg pt pk pv w0 off f3
  generalize e4 : ({ s3 with heap := pushCells (s3.heap.push { cls := .type "dict", data := .dict #[] }) scope.names } : Shared) = s4 at I4 ⊢
  have st4 : tn 0 s4.heap := T.keep _ _ _ st3 fun _ _ _ x => by
    rw [← e4]
    exact pushCells_keeps _ _ _ _ (Heap.get?_push_of_some _ x)
  have fpk : ∀ {τ : L2.St} {G : Hp} {t : Shared}, Inv (X.blk s3 H3 scope ce fp) [] τ G t → (∀ c ∈ fp, G c = none) → ∀ c ∈ fp, FpOk (X.blk s3 H3 scope ce fp) [] G c := fun {τ G t} J' z c hc =>
    have y := J'.ok.exf c hc
    ⟨z c hc, y.1, J'.ok.exfs c hc, .inl hc, fun n k x => y.2 n k x, fun r hr => absurd (show r ∈ ([] : List (Addr × Obj)) ++ [] from hr) (by simp)⟩
  have loop : codeAny (model X.prog X.w) X.A (.compLoop (.DictComp kx vx [⟨tg, iter, ifs, 0⟩] scope pos) 0 (.ref it) (.ref D) ce) (compPost (model X.prog X.w) X.A X.xe use Qf (.ref D) s3.heap.objs.size) s4 := by
    refine compLoop_anyD (fun m t => ∃ i G, Inv (X.blk s3 H3 scope ce fp) [] (wipe σ (own.map (·.2))) G t ∧ tn i t.heap ∧ (∀ c ∈ fp, G c = none) ∧ W i m G) ?_ m0 ⟨0, H3, I4, st4, off, w0⟩
    rintro m t5 ⟨i, G5, I5, st5, n5, w5⟩
    rcases turn i m G5 w5 with ⟨stop, fin⟩ | ⟨go, Nx, hNx, step⟩
    · refine thnF (T.done (X.blk s3 H3 scope ce fp) rfl rfl rfl calm i [] t5 _ G5 (fun _ _ => False) I5 (fpk I5 n5) st5 stop) fun r t6 ⟨hr, I6⟩ => ?_
      subst hr
      have I7 : Inv X pins σ G5 t6 := I3.call' (ch := fp) I6.os I6.base I6.hok I6.bare fun c hc =>
        have y := (f3 c hc).1
        ⟨y.2.2.2.1, y.2.1, y.2.2.2.2.1, y.2.2.2.2.2⟩
      have nC : G5 s3.heap.objs.size = none := by
        have y : G5 ce.locals = none := I6.free
        rwa [cl] at y
      obtain ⟨mm, y, _⟩ := I6.loc
      have y : t6.heap.Ns ce.locals mm := y
      rw [cl] at y
      exact back D s3.heap.objs.size t6 mm G5 I7 fin y (I3.fpOk (Nat.le_refl _) nC)
    · refine thnF (T.item (X.blk s3 H3 scope ce fp) rfl rfl rfl calm i [] t5 _ G5 (fun _ _ => False) I5 (fpk I5 n5) st5 go) fun r t6 ⟨u, hr, h6⟩ => ?_
      subst hr
      refine thnF h6 fun _ t7 ⟨x, G7, I7, r7, y7, st7, n7⟩ => ?_
      have I7' := I7.pinned (fpk I7 n7) (T.obj _ _ st7)
      refine thnF (pg.run _ t7 _ G7 x u _ I7' r7 (step x G7 y7)) fun _ t8 ⟨τ8, G8, I8, w8, q8⟩ => ?_
      refine thnF (pt.run _ t8 τ8 G8 _ I8 q8) fun b t9 ⟨G9, I9, q9⟩ => ?_
      have next : ∀ {t : Shared} {G : Hp}, Inv (X.blk s3 H3 scope ce fp) ([] ++ pinsAt fp t7.heap) τ8 G t → Nx G → ∃ m', m' < m ∧ ∃ i G, Inv (X.blk s3 H3 scope ce fp) [] (wipe σ (own.map (·.2))) G t ∧ tn i t.heap ∧ (∀ c ∈ fp, G c = none) ∧ W i m' G := fun {t G} J' nx => by
        obtain ⟨m', lm, w'⟩ := hNx G nx
        have pins' : ∀ c ∈ fp, ∀ o, t7.heap.get? c = some o → t.heap.get? c = some o ∧ G c = none := fun c hc o eo =>
          have y := J'.pin (c, o) (List.mem_append_right _ (List.mem_append_right _ (mem_pinsAt hc eo)))
          ⟨y.1, y.2.1⟩
        refine ⟨m', lm, i + 1, G, (J'.unpinned (pins := [])).weak (by rw [← w8, wipe_length]) (fun j v ev => ?_), T.keep _ _ _ st7 fun c hc o eo => (pins' c hc o eo).1, fun c hc => ?_, w'⟩
        · rw [← w8] at ev
          exact (wipe_some ev).1
        · obtain ⟨o, eo, _⟩ := T.obj _ _ st7 c hc
          exact (pins' c hc o eo).2
      cases b with
      | false =>
        simp only [Bool.false_eq_true, if_false] at q9 ⊢
        exact next I9 q9
      | true =>
        simp only [if_true] at q9 ⊢
        refine thnF (pk.run _ t9 τ8 G9 _ I9 q9) fun zk t10 ⟨yk, G10, I10, r10, q10⟩ => ?_
        refine thnF (pv.run _ t10 τ8 G10 _ I10 q10) fun zv t11 ⟨yv, G11, I11, r11, a, xs, ds, t, ks, ek, eD11, im, nd, lt, nx⟩ => ?_
        subst ek
        obtain rfl : zk = Value.ref t := by
          have := I11
          exact r10
        exact d_dictSetT (X := X.blk s3 H3 scope ce fp) hw hu I11 eD11 im nd lt r11 fun t12 I12 => next I12 (nx zv r11)
  exact codeAny_compStart_dict loop (T.self X.A 0 _ _ _ st4 loop)
end
end Q
namespace Q
open PySem PySem.Spec PyProof.Rows L2 Gd
variable [Tbl]
/-! ### {k: v for x in xs}: keys that are tuples, as a piece -/
def dcD (g : Tg) (t : Mo Bool) (ek ev : Mo R) (vs : List Nat) : List D → List (D × D) → Mo (List (D × D))
  | [], acc, ρ => .ok acc ρ
  | d :: ds, acc, ρ => match g d ρ with
    | none => .no
    | some ρ1 => (t ρ1).bnd fun b ρ2 => if b = true then (ek ρ2).bnd fun r ρ3 => (ev ρ3).bnd fun v ρ4 => match (look ρ3 r).bind keysT, v with
        | some ks, .d x => if acc.length < sizeLine then dcD g t ek ev vs ds (putT acc ks x) (wipeE ρ4 vs) else .no
        | _, _ => .no
      else dcD g t ek ev vs ds acc (wipeE ρ2 vs)
def fDcT (it : Mo (List D)) (g : Tg) (t : Mo Bool) (ek ev : Mo R) (vs : List Nat) : Mo Ob := fun ρ => (it ρ).bind fun ds ρ1 => if noOwn ρ1 vs = true then (dcD g t ek ev vs ds [] (wipeE ρ1 vs)).bnd fun kv ρ2 => .ok (.dt kv) (mixE ρ1 ρ2 vs) else .no
section
variable {K : PySem.W.Frag} {n : Nat} {W : XW}
theorem td_nt {a : Addr} {xs : List (List Key × Addr × Value)} (ps) : HO.ext (TDp Tbl.hs a xs) ≠ .tbl ps := fun z => nomatch z
theorem dcT_run {is vs : List Nat} {it : Mo (List D)} {g : Tg} {t : Mo Bool} {ek ev : Mo R} (his : ∀ i ∈ is, i ∈ vs) (hn : ∀ v ∈ vs, n ≤ v) (σ : L2.St) (H : Hp) (Q : VK) (h : tF K n W (fDcT it g t ek ev vs) σ H Q) : tDcT K (tI K n W it) (tG K n is g) (tXb K n W0 t) (tX K n W0 ek) (tX K n W0 ev) vs σ H Q := by
  obtain ⟨ρ, G, h⟩ := h
  refine ⟨ρ, G, (Aft.bind h).mono fun ds ρ1 H1 s1 h1 J wk D hD => ?_⟩
  split at h1
  case isFalse => exact h1.elim
  case isTrue hno =>
  have no1 : ¬ Own (wipe σ vs) (wipeE ρ1 vs) D := fun z => new_own s1.good hD z.wipe
  have stD : Stp K n H1 (wipe σ vs) (wipeE ρ1 vs) (upd H1 D (.ext (TDp Tbl.hs D []))) (wipe σ vs) (wipeE ρ1 vs) := Stp.same (s1.good.wipe vs) (same_upd hD)
  obtain ⟨kv, ρ2, ec, h1⟩ : ∃ (kv : List (PyData × PyData)) (ρ2 : Ev), dcD g t ek ev vs ds [] (wipeE ρ1 vs) = .ok kv ρ2 ∧
      Aft K n W H1 σ ρ1 (Rt.ok (Ob.dt kv) (mixE ρ1 ρ2 vs)) fun o ρ' H' => ∀ p h, H p = none → H' p = some h → ObR K H' h o → ¬ Own σ ρ' p → Q (.ref p) H' := by
    cases hc : dcD g t ek ev vs ds [] (wipeE ρ1 vs) with
    | no =>
      rw [hc] at h1
      exact h1.elim
    | ex c d ρ' =>
      rw [hc] at h1
      exact h1.elim
    | ok xs ρ2 =>
      rw [hc] at h1
      exact ⟨xs, ρ2, rfl, h1⟩
  refine wk_it wk (fun i H' => ∃ ρ' acc xs, Stp K n H1 (wipe σ vs) (wipeE ρ1 vs) H' (wipe σ vs) ρ' ∧ H' D = some (.ext (TDp Tbl.hs D xs)) ∧ ImT K H' xs acc ∧ ¬ Own (wipe σ vs) ρ' D ∧ dcD g t ek ev vs (ds.drop i) acc ρ' = .ok kv ρ2)
    ⟨_, [], [], stD, upd_same, .nil, no1, ec⟩ (fun i H' _ hP => ?_) (fun i x H' H2 hi hP hY => ?_) (fun H' hP => ?_)
  · obtain ⟨ρ', _, _, st, _⟩ := hP
    exact st.grow (s1.good.wipe vs)
  · obtain ⟨ρ', acc, xs, st, eD, im, no, ec⟩ := hP
    obtain ⟨sm, d, ed, imx⟩ := hY
    have lt : i < ds.length := hi
    have es : ds.drop i = d :: ds.drop (i + 1) := by
      rw [List.drop_eq_getElem_cons lt]
      rw [List.getElem?_eq_getElem lt] at ed
      rw [Option.some.inj ed]
    rw [es] at ec
    have st2 := st.trans (Stp.same st.good sm)
    have eD2 := sm _ _ eD
    have im2 := im.grow (Grow.same sm)
    unfold dcD at ec
    cases eg : g d ρ' with
    | none =>
      rw [eg] at ec
      cases ec
    | some ρ3 =>
      rw [eg] at ec
      refine ⟨ρ', d, st2.good, imx, ρ3, eg, fun σ3 H3 s3 nj l3 => ?_⟩
      have l3 : σ3.length = σ.length := by rw [l3, wipe_length]
      have ew : wipe σ3 vs = wipe σ vs := wipe_eq l3 fun j hj => nj j fun z => hj (his j z)
      obtain ⟨eD3, no3⟩ := ow_keep td_nt eD2 no s3
      have im3 := im2.grow (s3.grow st2.good)
      have st3 := st2.trans s3
      refine ⟨ew, ρ3, s3.good, ?_⟩
      dsimp only at ec
      cases ett : t ρ3 with
      | no =>
        rw [ett] at ec
        cases ec
      | ex c e ρ4 =>
        rw [ett] at ec
        cases ec
      | ok b ρ4 =>
        rw [ett] at ec
        intro H4 s4
        obtain ⟨eD4, no4⟩ := ow_keep td_nt eD3 no3 s4
        have im4 := im3.grow (s4.grow s3.good)
        have st4 := st3.trans s4
        cases b with
        | false =>
          refine iteF ⟨wipeE ρ4 vs, acc, xs, ?_, eD4, im4, fun z => ?_, ec⟩
          · have := st4.wiped (vs := vs) hn
            rw [ew] at this
            exact this
          · rw [← ew] at z
            exact no4 z.wipe
        | true =>
          refine iteT ⟨ρ4, s4.good, ?_⟩
          have ec : (ek ρ4).bnd (fun r ρ5 => (ev ρ5).bnd fun v ρ6 => match (look ρ5 r).bind keysT, v with
            | some ks, .d x => if acc.length < sizeLine then dcD g t ek ev vs (ds.drop (i + 1)) (putT acc ks x) (wipeE ρ6 vs) else .no
            | _, _ => .no) = .ok kv ρ2 := ec
          obtain ⟨r, ρ5, e5, ec⟩ := Rt.bnd_ok ec
          obtain ⟨v, ρ6, e6, ec⟩ := Rt.bnd_ok ec
          rw [e5]
          intro H5 s5 vk rk
          obtain ⟨eD5, no5⟩ := ow_keep td_nt eD4 no4 s5
          have im5 := im4.grow (s5.grow s4.good)
          refine ⟨ρ5, s5.good, ?_⟩
          rw [e6]
          intro H6 s6 vv rv
          obtain ⟨eD6, no6⟩ := ow_keep td_nt eD5 no5 s6
          have im6 := im5.grow (s6.grow s5.good)
          have st6 := (st4.trans s5).trans s6
          split at ec
          · next ks x ek' =>
            split at ec
            · next lz =>
              obtain ⟨dk, el, ek'⟩ := Option.bind_eq_some_iff.mp ek'
              obtain ⟨tb, rfl, nd, _⟩ := vw_keys (rk.see s5.good el) ek'
              have nd6 := (s6.grow s5.good).n nd
              cases rv with
              | d imv =>
                refine ⟨D, xs, acc, tb, ks, rfl, eD6, im6, nd6, by rw [im6.len]; exact lz, fun u ru => ?_⟩
                have nt : NoTab (.ext (TDp Tbl.hs D xs)) := td_code
                have gu : Grow H6 (upd H6 D (.ext (TDp Tbl.hs D (storedH xs ks tb u)))) := grow_upd eD6 trivial (noTab_code nt)
                refine ⟨wipeE ρ6 vs, putT acc ks x, storedH xs ks tb u, ?_, upd_same, (imT_put nd6 ru imv im6).grow gu, fun z => ?_, ec⟩
                · have := (st6.beside (u := .ext (TDp Tbl.hs D (storedH xs ks tb u))) hD eD6 trivial nt no6).wiped (vs := vs) hn
                  rw [ew] at this
                  exact this
                · rw [← ew] at z
                  exact no6 z.wipe
            · cases ec
          · cases ec
  · obtain ⟨ρ', acc, xs, st, eD, im, no, ec⟩ := hP
    rw [List.drop_length] at ec
    obtain ⟨rfl, rfl⟩ : acc = kv ∧ ρ' = ρ2 := by
      injection ec with a b
      exact ⟨a, b⟩
    have stF := Stp.mixed s1.good hn (noOwn_at hno) st
    refine h1 H' stF D _ (s1.live D hD) eD (.dt im) fun z => ?_
    obtain ⟨j, o, e1, e2⟩ := z
    by_cases w : j ∈ vs
    · have l : ρ1.length = ρ'.length := by
        have a := s1.good.len
        have b := st.good.len
        rw [wipe_length] at b
        omega
      rw [mixE_in l w (by have := (List.getElem?_eq_some_iff.mp e1).1; rw [mixE_len] at this; exact this)] at e1
      exact noOwn_at hno j w o e1
    · rw [mixE_out w] at e1
      exact no ⟨j, o, e1, by rw [wipe_out w]; exact e2⟩
end
section
variable {X : Cx} {n : Nat} {W : XW}
/-! ### list(d) -/
@[simp] def fListT (i : Nat) : Mo Ob := fun ρ => match ρ[i]? with
  | some (.own (.dt ds)) => .ok (.lst (ds.map Prod.fst)) ρ
  | _ => .no
end
end Q
namespace Q
open PySem PySem.Spec PyProof.Rows L2 Gd
variable [Tbl]
/-! ### y = {k: v for x in xs} -/
section
variable {X : Cx}
theorem sw_dict {kx vx : Expr} {gs : List Comprehension} {scope : Scope} {pos py : Pos} {y : Str} {l : Nat} {env : Env} (k : env.scope.kind = .function) (hy : env.scope.names.lookup y = some .local) (hl : (py.line == pos.line) = true) (ha : (scope.names.any fun (n, k) => n == y && (k == .local || k == .cell)) = false) :
    swapsWith (.DictComp kx vx gs scope pos) (some (.Name y py)) l env = pure true := by
  have ky : env.kindOf y = some .local := hy
  have bk : env.blockKind = .function := by
    unfold Env.blockKind
    rw [k]
    rfl
  unfold swapsWith
  simp only [bk, ky, ha, Expr.pos, hl]
  rfl
theorem ps_setDcT {i : Nat} {y : Str} {py : Pos} {kx vx tg iter : Expr} {ifs : List Expr} {scope : Scope} {own : List (Str × Nat)} {pos spos : Pos} {wi : TI} {g : TG} {tt : TT} {tk tv : TE} (hw : HsOk X.prog X.w) (hu : X.A.units + 65 < cLine) (calm : X.calm = true) (nod : X.N.Nodup) (hy : X.N[i]? = some y) (hyl : X.env.scope.names.lookup y = some .local)
    (sw : swapsWith (.DictComp kx vx [⟨tg, iter, ifs, 0⟩] scope pos) (some (.Name y py)) spos.line X.env = pure true) (hi : PI X tg iter wi) (ok : BlkOk X.N X.env.scope scope own)
    (hg : ∀ (s0 : Shared) (G : Hp) (C : Addr) (cl : List (Str × Addr)) (fp : List Addr), PG (X.blk s0 G scope (compEnvC scope cl C X.env) fp) tg g)
    (ht : ∀ (s0 : Shared) (G : Hp) (C : Addr) (cl : List (Str × Addr)) (fp : List Addr), PTs (X.blk s0 G scope (compEnvC scope cl C X.env) fp) ifs tt)
    (hk : ∀ (s0 : Shared) (G : Hp) (C : Addr) (cl : List (Str × Addr)) (fp : List Addr), PE (X.blk s0 G scope (compEnvC scope cl C X.env) fp) kx tk)
    (hv : ∀ (s0 : Shared) (G : Hp) (C : Addr) (cl : List (Str × Addr)) (fp : List Addr), PE (X.blk s0 G scope (compEnvC scope cl C X.env) fp) vx tv)
    (hs : ∀ x, foldedSetIterable iter X.env x = pure x := by intro _; rfl) : PS X (.Assign [.Name y py] (.DictComp kx vx [⟨tg, iter, ifs, 0⟩] scope pos) spos) (tAsg (tDcT X.K wi g tt tk tv (own.map (·.2))) (gName i)) := by
  refine ⟨fun pins s σ H B I h => ?_⟩
  rw [exec_Assign_Name_used _ _ _ _ sw]
  refine wpAny_bind (wpAny_standAt (wpAny_bind ?_))
  show wpAny _ X.A (do let _ ← comprehension (.DictComp kx vx [⟨tg, iter, ifs, 0⟩] scope pos) scope X.env (firstIterPos [⟨tg, iter, ifs, 0⟩] pos) newDict false (eval iter X.env) (some (assign (.Name y py) X.env))) _ _ s
  have h : tDcT X.K wi g tt tk tv (own.map (·.2)) σ H (fun x G => gName i x σ G B.nx) := h
  refine wpAny_bind (thn (dcT_core (Qf := fun _ t => SP X pins B .next t) hw hu calm nod I hi ok hg ht hk hv hs h fun D C t m G I' q ns f => ?_) fun _ t hq => wpAny_pure (wpAny_pure hq))
  show wpAny _ _ (assign (.Name y py) X.env (.ref D)) _ _ _
  refine wpAny_assign_Name (store_ok2 (v := V.ref D) I' nod hy (.inl hyl) rfl (fun t2 I2 ⟨a, sb, ha⟩ => ?_) (.inr hyl))
  obtain ⟨f0, f1, _, f3, f4, f5⟩ := f
  have ne : C ≠ a := by
    rcases ha with q | q
    · rw [q]
      exact f1
    · exact fun e => f4 y a q e.symm
  exact ⟨m, ns.sameBut sb ne, fun h3 sb3 => ⟨_, G, I2.turned (t' := t2.toks) (fun c o nc e => (sb3.2 c nc).trans e) f0 f1 f3 f4 f5, q⟩⟩
end
section
variable {X : Cx} {n : Nat} {W : XW}
theorem xs_setDcT {i : Nat} {y : Str} {py : Pos} {kx vx tg iter : Expr} {ifs : List Expr} {scope : Scope} {own : List (Str × Nat)} {is vs : List Nat} {pos spos : Pos} {it : Mo (List D)} {g : Tg} {t : Mo Bool} {ek ev : Mo R} (hni : n ≤ i) (hy : X.N[i]? = some y) (hyl : X.env.scope.names.lookup y = some .local)
    (sw : swapsWith (.DictComp kx vx [⟨tg, iter, ifs, 0⟩] scope pos) (some (.Name y py)) spos.line X.env = pure true) (hw : HsOk X.prog X.w) (hu : X.A.units + 65 < cLine) (calm : X.calm = true) (nod : X.N.Nodup) (hv : vs = own.map (·.2)) (his : ∀ i ∈ is, i ∈ vs) (hn : ∀ v ∈ vs, n ≤ v)
    (hi : XI X n W tg iter it) (ok : BlkOk X.N X.env.scope scope own)
    (hg : ∀ (s0 : Shared) (G : Hp) (C : Addr) (cl : List (Str × Addr)) (fp : List Addr), PG (X.blk s0 G scope (compEnvC scope cl C X.env) fp) tg (tG X.K n is g))
    (ht : ∀ (s0 : Shared) (G : Hp) (C : Addr) (cl : List (Str × Addr)) (fp : List Addr), PTs (X.blk s0 G scope (compEnvC scope cl C X.env) fp) ifs (tXb X.K n W0 t))
    (hk : ∀ (s0 : Shared) (G : Hp) (C : Addr) (cl : List (Str × Addr)) (fp : List Addr), PE (X.blk s0 G scope (compEnvC scope cl C X.env) fp) kx (tX X.K n W0 ek))
    (he : ∀ (s0 : Shared) (G : Hp) (C : Addr) (cl : List (Str × Addr)) (fp : List Addr), PE (X.blk s0 G scope (compEnvC scope cl C X.env) fp) vx (tX X.K n W0 ev)) (hs : ∀ x, foldedSetIterable iter X.env x = pure x := by intro _; rfl) :
    XS X n W (.Assign [.Name y py] (.DictComp kx vx [⟨tg, iter, ifs, 0⟩] scope pos) spos) (bSetF i (fDcT it g t ek ev vs)) := by
  subst hv
  exact weakS (ps_setDcT hw hu calm nod hy hyl sw hi ok hg ht hk he hs) fun E σ H h => dcT_run his hn σ H _ (setF_run hni h)
end
end Q
namespace Q
open PySem PySem.Spec PyProof.Rows L2 Gd
variable [Tbl]
/-! ### a comprehension over a list of a slot's own, that stays the slot's -/
noncomputable def compO (i0 : Nat) (src : List D) (g : Tg) (t : Mo Bool) (e : Mo R) (vs : List Nat) : List D → Mo (List D)
  | [], ρ => if cb (ρ[i0]? = some (.own (.lst src))) = true then .ok [] ρ else .no
  | d :: ds, ρ => if cb (ρ[i0]? = some (.own (.lst src))) = true then match g d ρ with
    | none => .no
    | some ρ1 => (t ρ1).bnd fun b ρ2 => if b = true then (e ρ2).bnd fun r ρ3 => match r with
        | .d x => (compO i0 src g t e vs ds (wipeE ρ3 vs)).bnd fun xs ρ4 => .ok (x :: xs) ρ4
        | .v _ => .no
      else compO i0 src g t e vs ds (wipeE ρ2 vs)
    else .no
noncomputable def fCompO (i0 : Nat) (g : Tg) (t : Mo Bool) (e : Mo R) (vs : List Nat) : Mo Ob := fun ρ => match ρ[i0]? with
  | some (.own (.lst ds)) => if ds.length ≤ sizeLine ∧ noOwn ρ vs = true ∧ i0 ∉ vs then (compO i0 ds g t e vs ds (wipeE ρ vs)).bnd fun xs ρ2 => .ok (.lst xs) (mixE ρ ρ2 vs) else .no
  | _ => .no
section
variable {K : PySem.W.Frag} {n : Nat} {W : XW}
def GOwn (K : PySem.W.Frag) (a : Addr) (ds : List D) (H : Hp) : Prop := ∃ vs, H a = some (.lst vs) ∧ ImL K H vs ds
end
section
variable {X : Cx} {n : Nat} {W : XW}
end
end Q
namespace Q
open PySem PySem.Spec PyProof.Rows L2 Gd PySem.MeetsSeq PySem.SeqAt
open AutoSeq1 (wpAny_loadPart')
variable [Tbl]
/-! `value in list` where the value is a dict, or a tuple in which dicts stand, and the list holds tuples of texts -/
def elB : D → Str → Bool
  | .str z, t => z == t
  | _, _ => false
def elOk : D → Bool
  | .str _ => true
  | .dict ds => keysOk ds
  | _ => false
def tupIs : List D → List Str → Bool
  | [], [] => true
  | d :: ds, t :: ts => elB d t && tupIs ds ts
  | _, _ => false
def valIs : D → List Str → Bool
  | .tuple ds, t => tupIs ds t
  | _, _ => false
def valOk : D → Bool
  | .tuple ds => ds.all elOk
  | .dict ds => keysOk ds
  | _ => false
def txIn : D → D → Option Bool
  | x, .list ys => if valOk x = true then (setsOf ys).map fun ts => ts.any (valIs x) else none
  | _, _ => none
def inTx (x y : D) : Option D := ((inD x y).or (txIn x y)).map .bool
section
variable {X : Cx} {H : Hp}
end
end Q
namespace Q
open PySem PySem.Spec PyProof.Rows L2 Gd
variable [Tbl]
/-! ### d.get(k): keys that are texts or numbers -/
def getN : D → D → Option D
  | .dict ds, y => if keysOk ds = true then (keyOf y).map fun k => (lookKV ds k).getD .none else none
  | _, _ => none
@[simp] def eGetK (f g : Mo R) : Mo R := fun ρ => (f ρ).bind fun a ρ1 => match look ρ1 a with
  | some (.dict ds) => if keysOk ds = true then (g ρ1).bind fun b ρ2 => lift ((look ρ2 a).bind fun x => (look ρ2 b).bind fun y => getN x y) ρ2 else .no
  | _ => .no
section
variable {X : Cx} {n : Nat} {W : XW} {o e : Expr} {apos cpos : Pos} {f g : Mo R}
end
end Q
namespace Q
open PySem PySem.Spec PyProof.Rows L2 Gd
variable [Tbl]
/-! ### y = [elt for x in xs for y in ys] -/
section
variable {X : Cx} {n : Nat} {W : XW}
end
end Q
namespace Q
open PySem PySem.Spec PyProof.Rows L2 Gd
open PySem.Calls
variable [Tbl]
/-! ### sorted(xs, key=f), xs a tuple -/
section
variable {prog : Program} {w : World} {A : Around} {E : Value → Shared → Prop} {s : Shared}
def heapC (h : Heap) (us : List Value) : Heap := (h.push (seqObj "list" #[] 0)).update h.objs.size (Obj.mapSeq (fun z => z ++ us.toArray))
end
section
variable {X : Cx}
def rSortKeyT (K : PySem.W.Frag) (f : Addr) : List V → List V → Hp → VK → Prop := fun vs zs H Q => ∃ (a : Addr) (xs : List V) (ts : List (List Str)), vs = [V.ref a] ∧ zs = [V.ref f] ∧ (SqL K H a xs ∨ SqT K H a xs) ∧ ImL K H xs (ts.map txtsD) ∧ (∀ t ∈ ts, t.length ≤ 1000) ∧
  ∀ p us, H p = none → ImL K H us ((sortZ ts).map txtsD) → Q (.ref p) (upd H p (.lst us))
noncomputable def sortKE : List D → Option (List D)
  | [.tuple ds] => sortKD [.list ds]
  | as => sortKD as
end
end Q
namespace Q
open PySem PySem.Spec PyProof.Rows L2 Gd
variable [Tbl]
/-! ### calls of defs with keywords alone, in any order -/
def permL {α : Type} (π : List Nat) (l : List α) : List α := π.filterMap fun i => l[i]?
@[simp] def ePrm (π : List Nat) (m : Mo (List R)) : Mo (List R) := fun ρ => (m ρ).bind fun rs ρ1 => .ok (permL π rs) ρ1
def tPrm (π : List Nat) (t : TA) : TA := fun σ H Q => t σ H fun vs H1 => Q (permL π vs) H1
/-- how the keywords bind: all of the parameters, in the order that π tells -/
def KwB (K : PySem.W.Frag) (fd : FuncData) (ps ks : List Str) (π : List Nat) : Prop :=
  ∀ (s : Shared) (ws : List Value), K.In s.heap → (permL π ws).length = ps.length → BindsTo s fd ⟨[], ks.zip ws⟩ (ps.zip (permL π ws))
abbrev XK (X : Cx) (n : Nat) (W : XW) (kws : List Keyword) (m : Mo (List R)) : Prop := PK X kws (tXs X.K n W m)
section
variable {X : Cx} {n : Nat} {W : XW} {k : Nat} {f : Addr} {fd : FuncData} {ps ks : List Str} {π : List Nat} {x : Str} {p pos : Pos} {kws : List Keyword} {m : Mo (List R)} {F : Fn} {Wx : WX} {sp : Sp} {t : TA}
end
end Q
namespace Q
open PySem PySem.Spec PyProof.Rows L2 Gd
variable [Tbl]
/-! ### a try whose clause has a suite of its own -/
/-- what is wished of an error of a try's body that a suite may use under the name in slot i -/
def wSuite (K : PySem.W.Frag) (c : Value) (i : Nat) (t2 : TS) (Wout : WX) (D : Ends) : WX := fun cls d σ H =>
  ∃ b, PySem.W.exmOne K cls c = some b ∧
    (b = true → ∀ (a : Addr) (oe : Obj), H a = none → Zc cls d oe → (∃ vs, oe.data = .fields vs) → t2 { nx := fun σ' H' => D.nx (σ'.set i none) H', rt := fun _ _ => False } (σ.set i (some (.ref a))) (upd H a (.frz oe (.ext fun h => h.get? a = some oe)))) ∧ (b = false → Wout cls d σ H)
section
variable {X : Cx} {x n : Str} {c : Value} {i : Nat} {body : List Stmt} {b₀ : Stmt} {suite : List Stmt} {np pos pos' : Pos} {tb : WX → TS} {t2 : TS} {Wout : WX}
end
@[simp] def suiteX (tab : List (Str × Bool)) (i : Nat) (m2 : Mo Out) : Rt Out → Rt Out
  | .ok o ρ => .ok o ρ
  | .ex c (.tuple [.str f, x]) ρ => match tab.lookup c with
    | some true => match put i (.exc c f x) ρ with
      | some ρ1 => match m2 ρ1 with
        | .ok .nx ρ2 => nxt (put i .no ρ2)
        | _ => .no
      | none => .no
    | some false => .ex c (.tuple [.str f, x]) ρ
    | none => .no
  | _ => .no
@[simp] def bTryB (tab : List (Str × Bool)) (i : Nat) (m m2 : Mo Out) : Mo Out := fun ρ => suiteX tab i m2 (m ρ)
section
variable {X : Cx} {n : Nat} {W : XW} {Wx : WX} {x y : Str} {cv : Value} {tab : List (Str × Bool)} {i : Nat} {body : List Stmt} {b₀ : Stmt} {suite : List Stmt} {np pos pos' : Pos} {m m2 : Mo Out}
end
end Q
namespace Q
open PySem PySem.Spec PyProof.Rows L2 Gd
variable [Tbl]
/-! ### a tuple so many times: any tuple, any small number -/
def repTZ : D → D → Option D
  | .tuple ds, .int k => if -1000 ≤ k ∧ k ≤ 1000 ∧ ds.length ≤ 1000 then some (.tuple (List.replicate k.toNat ds).flatten) else none
  | _, _ => none
section
variable {X : Cx}
end
end Q
namespace Q
open PySem PySem.Spec PyProof.Rows L2 Gd
variable [Tbl]
section
variable {X : Cx} {n : Nat} {W : XW}
/-! ### xs.pop() -/
noncomputable def popL (ds : List D) : List D → Option (D × List D)
  | [] => ds[ds.length - 1]?.map fun y => (y, ds.dropLast)
  | _ => none
theorem ImL.dropLast {K : PySem.W.Frag} {H : Hp} : ∀ {xs : List V} {ds : List D}, ImL K H xs ds → ImL K H xs.dropLast ds.dropLast
  | _, _, .nil => .nil
  | _, _, .cons h .nil => .nil
  | _, _, .cons h (.cons h2 r) => .cons h (ImL.dropLast (.cons h2 r))
/-! ### x = x if c else f, x a thing of one's own -/
@[simp] def bKeep (i : Nat) (c : Mo Bool) (f : Mo Ob) : Mo Out := fun ρ => (c ρ).bind fun k ρ1 => if k = true then (match ρ1[i]? with
  | some (.own _) => .ok .nx ρ1
  | _ => .no) else bSetF i f ρ1
end
end Q
namespace SetS
open PySem PySem.Spec PyProof.Rows L2 Gd PySem.Froz PpSet
/-! ### a small table laid anew: every start of a run is met -/
/-- where the n-th run starts -/
def stN (m : Nat) : Nat → Nat × Nat → Nat × Nat
  | 0, p => p
  | n + 1, p => stN m n (SetTable.leap m p.1 p.2)
def Meets (m : Nat) : Prop := (m + 1 ≤ 64) ∧ ∀ i < m + 1, ∀ j < m + 1, ∃ k < m + 1, (stN m k (i, 0)).1 = j
instance (m : Nat) : Decidable (Meets m) := by unfold Meets; infer_instance
/-- n things sit in the table, one in a slot -/
structure Sits (m n : Nat) (owner : Array (Option Nat)) : Prop where
  sz : owner.size = m + 1
  pm : (owner.toList.filterMap id).Perm (List.range n)
theorem fm_all {α : Type} : ∀ {l : List (Option α)}, (∀ o ∈ l, o ≠ none) → (l.filterMap id).length = l.length
  | [], _ => rfl
  | none :: l, h => absurd rfl (h none List.mem_cons_self)
  | some x :: l, h => by
    show (l.filterMap id).length + 1 = l.length + 1
    rw [fm_all fun o ho => h o (List.mem_cons_of_mem _ ho)]
theorem Sits.free {m n : Nat} {owner : Array (Option Nat)} (S : Sits m n owner) (hn : n ≤ m) : ∃ j < m + 1, owner.getD j (some 0) = none := by
  refine Classical.byContradiction fun no => ?_
  have all : ∀ o ∈ owner.toList, o ≠ none := fun o ho e => by
    subst e
    obtain ⟨j, hj, ej⟩ := List.mem_iff_getElem.mp ho
    rw [Array.length_toList, S.sz] at hj
    refine no ⟨j, hj, ?_⟩
    unfold Array.getD
    rw [dif_pos (by rw [S.sz]; exact hj)]
    rw [Array.getElem_toList] at ej
    exact ej
  have := fm_all all
  rw [S.pm.length_eq, List.length_range, Array.length_toList, S.sz] at this
  omega
def layStep (m : Nat) (acc : Option (Array (Option Nat) × Nat)) (h : Int) : Option (Array (Option Nat) × Nat) :=
  acc.bind fun p => (SetTable.layClean.free m p.1 (SetTable.turns m) (SetTable.bits h % (m + 1)) (SetTable.bits h)).map fun j => (p.1.setIfInBounds j (some p.2), p.2 + 1)
end SetS
namespace SetS
open PySem PySem.Spec PyProof.Rows L2 Gd PySem.Froz PpSet
section
variable {P : Program} {w : World} {A : Around} {E : Value → Shared → Prop} {s : Shared} {a r : Addr} {l : List Str}
/-- a set that was copied: its texts, its dummies, its mask -/
def Cp (P : Program) (w : World) (h : Heap) (r : Addr) (l : List Str) (d m : Nat) : Prop :=
  ∃ D : SD, h.get? r = some (sObj "set" D) ∧ ElemsOf (strKind P w) D.1.toList ∧ (D.1.toList.map keyS).Perm l ∧ (∀ e ∈ D.1.toList, ∃ u, e.2 = Value.str (keyS e) u) ∧ D.2.2.fits D.1.size = true ∧ D.2.2.dummies.size = d ∧ D.2.2.mask = m
def cpMask (n : Nat) : Nat := if n ≤ 4 then 7 else if n ≤ 7 then 15 else 31
end
end SetS
namespace SetS
open PySem PySem.Spec PyProof.Rows L2 Gd PySem.Froz PpSet
section
variable {P : Program} {w : World} {A : Around} {E : Value → Shared → Prop} {s : Shared} {a b r : Addr} {l la lb : List Str} {d m : Nat}
theorem Cp.len (C : Cp P w s.heap r l d m) : l.length + d ≤ m := by
  obtain ⟨D, ho, el, pm, g, hf, hd, hm⟩ := C
  unfold SetTable.fits SetTable.fill at hf
  rw [Bool.and_eq_true, beq_iff_eq, decide_eq_true_eq] at hf
  have := pm.length_eq
  rw [List.length_map, Array.length_toList] at this
  rw [hd, hm] at hf
  omega
end
end SetS
namespace SetS
open PySem PySem.Spec PyProof.Rows L2 Gd PySem.Froz PpSet
section
variable {P : Program} {w : World} {A : Around} {E : Value → Shared → Prop} {s : Shared} {a b r : Addr} {l la lb : List Str} {d m : Nat}
end
end SetS
namespace SetS
open PySem PySem.Spec PyProof.Rows L2 Gd PySem.Froz PpSet
section
variable {P : Program} {w : World} {A : Around} {E : Value → Shared → Prop} {s : Shared} {a b : Addr} {la lb : List Str}
theorem Cp.setOf {h : Heap} {r : Addr} {l : List Str} {d m : Nat} (C : Cp P w h r l d m) (l1 : l.length ≤ 1000) : h.SetOf (strKind P w) r (fun k => l.contains k) l.length := by
  obtain ⟨⟨es, ep, t⟩, ho, el, pm, g, hf, hd, hm⟩ := C
  have sz : es.size = l.length := by
    have := pm.length_eq
    rw [List.length_map, Array.length_toList] at this
    exact this
  refine ⟨_, es, ep, t, ho, ⟨rfl, rfl, rfl⟩, rfl, el, fun k => ?_, by rw [sz]; show l.length < 4096; omega, hf, sz⟩
  rw [List.contains_iff_mem, ← pm.mem_iff, List.mem_map]
  refine exists_congr fun e => and_congr_right fun he => ?_
  obtain ⟨u, eu⟩ := g e he
  rw [keyS_is eu k]
  exact ⟨fun q => q.symm, fun q => q.symm⟩
end
section
variable {X : Cx}
def rSubC (P : Program) (w : World) : V → V → Hp → VK → Prop := fun x y H Q => ∃ a la b lb, x = .ref a ∧ y = .ref b ∧ H a = some (SO P w a la) ∧ H b = some (SO P w b lb) ∧ la.Nodup ∧ (la.length / 4 ≤ lb.length ∨ la.length ≤ 15) ∧ la.length ≤ 4000 ∧ lb.length ≤ 4000 ∧
  ∀ D, H D = none → Q (.ref D) (upd H D (SN P w D (la.filter fun k => !lb.contains k).length))
end
end SetS
namespace Q
open PySem PySem.Spec PyProof.Rows L2 Gd
variable [Tbl]
/-! ### len(set(xs) - set(ys)): small ones by a copy too -/
def eSubLenC (f g : Mo R) : Mo R := fun ρ => (f ρ).bind fun a ρ1 => match (look ρ1 a).bind tupS with
  | some xs => (g ρ1).bind fun b ρ2 => match (look ρ2 b).bind tupS with
    | some ys => if (dd xs).length / 4 ≤ (dd ys).length ∨ (dd xs).length ≤ 15 then .ok (.d (.int (((dd xs).filter fun k => !(dd ys).contains k).length : Nat))) ρ2 else .no
    | none => .no
  | none => .no
section
variable {X : Cx} {n : Nat} {W : XW}
end
end Q
namespace Q
open PySem PySem.Spec PyProof.Rows L2 Gd
variable [Tbl]
/-! ### one sign in a text -/
def inSgn : D → D → Option D
  | .str ⟨⟨[c]⟩⟩, .str z => some (.bool (decide (c ∈ z.cps.toList)))
  | _, _ => none
end Q
namespace Q
open PySem PySem.Spec PyProof.Rows L2 Gd SeqAt
variable [Tbl]
/-! ### (i, t) >= (j, u): numbers, tuples of texts -/
def geL : List Str → List Str → Bool
  | [], ms => ms.isEmpty
  | _ :: _, [] => true
  | n :: ns, m :: ms => if n = m then geL ns ms else !decide (n.cps.toList < m.cps.toList)
def geP : D → D → Option D
  | .tuple [.int i, .tuple xs], .tuple [.int j, .tuple ys] => (strsD xs).bind fun ns => (strsD ys).bind fun ms => if PyData.canLayAll0 xs = true ∧ PyData.canLayAll0 ys = true then some (.bool (if i = j then (if ns = ms then true else geL ns ms) else decide (j ≤ i))) else none
  | _, _ => none
end Q
namespace Q
open PySem PySem.Spec PyProof.Rows L2 Gd
variable [Tbl]
/-! ### a try whose clause has a suite that may return -/
/-- what is wished of an error of a try's body that a suite may use under the name in slot i -/
def wSuiteR (K : PySem.W.Frag) (c : Value) (i : Nat) (t2 : TS) (Wout : WX) (D : Ends) : WX := fun cls d σ H =>
  ∃ b, PySem.W.exmOne K cls c = some b ∧
    (b = true → ∀ (a : Addr) (oe : Obj), H a = none → Zc cls d oe → (∃ vs, oe.data = .fields vs) → t2 { nx := fun σ' H' => D.nx (σ'.set i none) H', rt := D.rt } (σ.set i (some (.ref a))) (upd H a (.frz oe (.ext fun h => h.get? a = some oe)))) ∧ (b = false → Wout cls d σ H)
section
variable {X : Cx} {x n : Str} {c : Value} {i : Nat} {body : List Stmt} {b₀ : Stmt} {suite : List Stmt} {np pos pos' : Pos} {tb : WX → TS} {t2 : TS} {Wout : WX}
end
@[simp] def suiteXR (tab : List (Str × Bool)) (i : Nat) (m2 : Mo Out) : Rt Out → Rt Out
  | .ok o ρ => .ok o ρ
  | .ex c (.tuple [.str f, x]) ρ => match tab.lookup c with
    | some true => match put i (.exc c f x) ρ with
      | some ρ1 => match m2 ρ1 with
        | .ok .nx ρ2 => nxt (put i .no ρ2)
        | .ok (.rt (.d y)) ρ2 => .ok (.rt (.d y)) ρ2
        | _ => .no
      | none => .no
    | some false => .ex c (.tuple [.str f, x]) ρ
    | none => .no
  | _ => .no
@[simp] def bTryR (tab : List (Str × Bool)) (i : Nat) (m m2 : Mo Out) : Mo Out := fun ρ => suiteXR tab i m2 (m ρ)
section
variable {X : Cx} {n : Nat} {W : XW} {Wx : WX} {x y : Str} {cv : Value} {tab : List (Str × Bool)} {i : Nat} {body : List Stmt} {b₀ : Stmt} {suite : List Stmt} {np pos pos' : Pos} {m m2 : Mo Out}
end
end Q
namespace Q
open PySem PySem.Spec PyProof.Rows L2 Gd
variable [Tbl]
/-! ### a call f(lambda: .., e): one more argument after the lambda -/
def thOf2 (N : Nat) (b : Addr → Rt D → Mo Out) : Addr → Rt D → D → Option D := fun f r d => match b f r (thS f :: .dat d :: List.replicate (N - 2) .no) with
  | .ok (.rt (.d x)) _ => some x
  | .ok .nx _ => some .none
  | _ => none
noncomputable def eLam2 (G : Addr → Rt D → D → Option D) (m : Mo R) (me : Mo (List R)) : Mo R := fun ρ => @dite _ (∃ d x, me ρ = .ok [.d d] ρ ∧ ∀ f, G f (toTh (m (datS ρ))) d = some x) (Classical.propDecidable _) (fun h => .ok (.d h.choose_spec.choose) ρ) fun _ => .no
/-- the def that gets a lambda and one more thing: whatever the lambda's call gives, its body is told -/
structure Gets2 (P : Program) (w : World) (K : PySem.W.Frag) (mg : Str → Option Value) (base : Heap) (k : Nat) (x : Str) (st : Stmt) (g : Addr) (N : List Str) (a : Str) (b : Addr → Rt D → Mo Out) : Prop where
  run : ∀ [tt : Tbl] (cdv : Value) (A : Around) (outer : List Env) (s : Shared) (H : Hp) (f : Addr) (r : Rt D), A.guards = some [] → Room k (A.deeper (envOfC x (defScope st) s.heap.objs.size g cdv)) →
    (∀ (Wx : WX) (pn : List (Addr × Obj)) (xe : Value → Shared → Prop) (p1 p2 : Pos), Takes ((cxOf CX0 P w K mg base N x (defScope st) g cdv A outer s H E0).nox.tr pn xe) Wx →
      XD ((cxOf CX0 P w K mg base N x (defScope st) g cdv A outer s H E0).nox.tr pn xe) 2 (wE K Wx) (.Call (.Name a p1) [] [] p2) (eThk f 0 r)) →
    XSs (cxOf CX0 P w K mg base N x (defScope st) g cdv A outer s H E0).nox 2 W0 (defBody st) (b f r)
section
variable {X : Cx} {n : Nat} {W : XW} {x a a2 : Str} {st : Stmt} {g c PT : Addr} {fd : FuncData} {N : List Str} {b : Addr → Rt D → Mo Out} {m : Mo R} {me : Mo (List R)} {ae : Expr} {prm : Arguments} {bd : Expr} {scp : Scope} {lp p pos : Pos} {k : Nat}
end
end Q
namespace Q
open PySem PySem.Spec PyProof.Rows L2 Gd
theorem Gets2.up {P : Program} {w : World} {K : PySem.W.Frag} {mg : Str → Option Value} {base : Heap} {k j : Nat} {x : Str} {st : Stmt} {g : Addr} {N : List Str} {a : Str} {b : Addr → Rt D → Mo Out} (G : Gets2 P w K mg base j x st g N a b) (h : j ≤ k) : Gets2 P w K mg base k x st g N a b :=
  ⟨fun cdv A outer s H f r hg hr act => G.run cdv A outer s H f r hg (hr.mono h) act⟩
end Q
namespace Q
open PySem PySem.Spec PyProof.Rows L2 Gd
variable [Tbl]
/-! ### a try whose clause has a suite that may return -/
/-- what is wished of an error of a try's body that a suite may use under the name in slot i -/
def wSuiteT (K : PySem.W.Frag) (c : Value) (i : Nat) (t2 : TS) (D : Ends) : WX := fun cls d σ H =>
  PySem.W.exmOne K cls c = some true ∧
    ∀ (a : Addr) (oe : Obj), H a = none → Zc cls d oe → (∃ vs, oe.data = .fields vs) → t2 { nx := fun σ' H' => D.nx (σ'.set i none) H', rt := D.rt } (σ.set i (some (.ref a))) (upd H a (.frz oe (.ext fun h => h.get? a = some oe)))
section
variable {X : Cx} {x n : Str} {c : Value} {i : Nat} {body : List Stmt} {b₀ : Stmt} {suite : List Stmt} {rest : List ExceptHandler} {np pos pos' : Pos} {tb : WX → TS} {t2 : TS}
end
@[simp] def suiteXT (tab : List (Str × Bool)) (i : Nat) (m2 : Mo Out) : Rt Out → Rt Out
  | .ok o ρ => .ok o ρ
  | .ex c (.tuple [.str f, x]) ρ => match tab.lookup c with
    | some true => match put i (.exc c f x) ρ with
      | some ρ1 => match m2 ρ1 with
        | .ok .nx ρ2 => nxt (put i .no ρ2)
        | .ok (.rt (.d y)) ρ2 => .ok (.rt (.d y)) ρ2
        | _ => .no
      | none => .no
    | _ => .no
  | _ => .no
@[simp] def bTryT (tab : List (Str × Bool)) (i : Nat) (m m2 : Mo Out) : Mo Out := fun ρ => suiteXT tab i m2 (m ρ)
section
variable {X : Cx} {n : Nat} {W : XW} {x y : Str} {cv : Value} {tab : List (Str × Bool)} {i : Nat} {body : List Stmt} {b₀ : Stmt} {suite : List Stmt} {rest : List ExceptHandler} {np pos pos' : Pos} {m m2 : Mo Out}
end
end Q
namespace Q
open PySem PySem.Spec PyProof.Rows L2 Gd
variable [Tbl]
/-! ### {k: v}, a key that is a whole number or a text -/
@[simp] def fDisp1 (fk fv : Mo R) : Mo Ob := fun ρ => (fk ρ).bind fun r ρ1 => (fv ρ1).bind fun v ρ2 => match (look ρ1 r).bind keyOf, v with
  | some k, .d x => .ok (.dk [(keyD k, x)]) ρ2
  | _, _ => .no
section
variable {X : Cx} {n : Nat} {W : XW}
end
end Q
namespace Q
open PySem PySem.Spec PyProof.Rows L2 Gd
/-! ### a lambda's function as a thing that is known (towards lists of lambdas) -/
section
variable {X : Cx} {pins : List (Addr × Obj)} {σ : L2.St} {H : Hp} {s : Shared}
/-- the object of a lambda's function -/
abbrev lamO (X : Cx) (prm : Arguments) (bd : Expr) (scp : Scope) (pm : Value) (k : Addr) (ctv : Value) : Obj := PySem.W.kla_obj "<lambda>" (X.env.qual ++ "<lambda>") prm bd scp (cloFrom X.env.cells scp.names []) pm k ctv
def FunO (f : Addr) (o : Obj) : HO := .frz o (.ext fun h => h.get? f = some o)
def tLamF (X : Cx) (TT : List (Addr × Str)) (prm : Arguments) (bd : Expr) (scp : Scope) : TE := fun σ H Q => LamX.Tabs TT H ∧
  ∀ (f k : Addr) (pm ctv : Value) (G : Hp), LamX.ExtN H G → LamX.Tabs TT G → (∀ b, G b = none → H b = none) → H f = none → f ∉ frs X.stack → G f = some (FunO f (lamO X prm bd scp pm k ctv)) → G k = some (LamX.CodeO k (X.env.qual ++ "<lambda>")) → Q (.ref f) G
end
end Q
namespace Q
open PySem PySem.Spec PyProof.Rows L2 Gd
section
variable {X : Cx} {pins : List (Addr × Obj)} {σ : L2.St} {H : Hp} {s : Shared}
end
end Q
namespace Q
open PySem PySem.Spec PyProof.Rows L2 Gd
variable [Tbl]
/-! ### a call f(g), where the variable g holds a lambda's function -/
noncomputable def eLamV (G : Addr → Rt D → Option D) (j : Nat) (f : Addr) (m : Mo R) : Mo R := fun ρ => match ρ[j]? with
  | some (.exc c _ (.dict [(.tuple [], .int a)])) => if c = "" ∧ a = ((f : Nat) : Int) then @dite _ (∃ x, ∀ f, G f (toTh (m (datS ρ))) = some x) (Classical.propDecidable _) (fun h => .ok (.d h.choose) ρ) fun _ => .no else .no
  | _ => .no
section
variable {X : Cx} {n : Nat} {W : XW} {x a y : Str} {jx : Nat} {f k : Addr} {pm ctv : Value} {st : Stmt} {g : Addr} {fd : FuncData} {N : List Str} {b : Addr → Rt D → Mo Out} {m : Mo R} {prm : Arguments} {bd : Expr} {scp : Scope} {p py pos : Pos} {kk : Nat}
end
end Q
namespace Q
open PySem PySem.Spec PyProof.Rows L2 Gd
variable [Tbl]
/-! ### a loop over a list of lambdas -/
/-- one lambda: its function, its code object, what its call gives -/
structure LamR where
  f : Addr
  k : Addr
  o : Obj
  q : Str
  m : Mo R
def LamR.At (r : LamR) (H : Hp) : Prop := H r.f = some (FunO r.f r.o) ∧ H r.k = some (LamX.CodeO r.k r.q)
def loopT (j : Nat) (b : LamR → Mo Out) : List LamR → Mo Out
  | [], ρ => .ok .nx ρ
  | r :: L, ρ => match put j (thS r.f) ρ with
    | none => .no
    | some ρ1 => (b r ρ1).bind fun o ρ2 => match o with
      | .nx => loopT j b L ρ2
      | .ct => loopT j b L ρ2
      | .bk => .ok .nx ρ2
      | .rt r => .ok (.rt r) ρ2
      | .rf r => .ok (.rf r) ρ2
section
variable {X : Cx} {n : Nat} {W : XW}
def tbL (X : Cx) (n : Nat) (W : XW) (ok : LamR → Prop) (b : LamR → Mo Out) : TS := fun D σ H => ∃ r : LamR, ok r ∧ r.At H ∧ @tS (ghoT H) X.K n W (b r) D σ H
end
end Q
namespace Q
open PySem PySem.Spec PyProof.Rows L2 Gd
variable [Tbl]
/-! ### a list of lambdas that is walked over -/
section
variable {K : PySem.W.Frag} {n : Nat} {H H' : Hp} {σ σ' : St} {ρ ρ' : Ev}
end
section
variable {X : Cx} {n : Nat} {W : XW}
/-- the list of lambdas so far -/
structure LamsAt (X : Cx) (n : Nat) (c : Nat) (H : Hp) (σ : St) (ρ : Ev) (a : Addr) (L : List LamR) (H' : Hp) (σ' : St) : Prop where
  new : H a = none
  no : ¬ Own σ' (ρ.set c .no) a
  st : Stp X.K n H σ ρ H' σ' (ρ.set c .no)
  sl : σ'[c]? = some (some (.ref a))
  li : H' a = some (.lst (L.map fun r => V.ref r.f))
  al : ∀ r ∈ L, r.At H'
/-- what the loop gives, whatever the functions' addresses are -/
def Lams3 (c j : Nat) (b : LamR → Mo Out) (m1 m2 m3 : Mo R) (ρ : Ev) (out : Out) (ρ' : Ev) : Prop := c < ρ.length ∧ j < ρ'.length ∧ ∀ r1 r2 r3 : LamR, r1.m = m1 → r2.m = m2 → r3.m = m3 → ∃ s, loopT j b [r1, r2, r3] (ρ.set c .no) = .ok out (ρ'.set j s)
def lamsEnd (j : Nat) (rm : Mo Out) (out : Out) (ρ' : Ev) : Rt Out := match out with
  | .nx => rm (ρ'.set j .no)
  | .rt (.d y) => .ok (.rt (.d y)) (ρ'.set j .no)
  | _ => .no
noncomputable def bLams3 (c j : Nat) (b : LamR → Mo Out) (m1 m2 m3 : Mo R) (rm : Mo Out) : Mo Out := fun ρ => @dite _ (∃ (out : Out) (ρ' : Ev), Lams3 c j b m1 m2 m3 ρ out ρ') (Classical.propDecidable _) (fun h => lamsEnd j rm h.choose h.choose_spec.choose) fun _ => .no
end
end Q
namespace Q
open PySem PySem.Spec PyProof.Rows L2 Gd
/-! ### what is known of each lambda of a list -/
/-- the lambda that r tells of: its object, and what its body gives, under any tables -/
def LamOk (X : Cx) (kk : Nat) (r : LamR) : Prop := r.q = X.env.qual ++ "<lambda>" ∧ ∃ (prm : Arguments) (bd : Expr) (scp : Scope) (pm ctv : Value), r.o = lamO X prm bd scp pm r.k ctv ∧ LamX.LamS X.env.scope scp ∧
  bindArgs (PySem.W.kla_fn "<lambda>" (X.env.qual ++ "<lambda>") prm bd scp (cloFrom X.env.cells scp.names []) pm (.ref r.k) ctv) ⟨[], []⟩ = pure [] ∧
  ∀ [tt : Tbl] (A : Around) (outer : List Env) (s0 : Shared) (H0 : Hp) (E : L2.XK), A.guards = some [] → Room kk (A.deeper (LamX.lamEnv X scp s0.heap.objs.size r.f r.k)) → XD (LamX.lamCx X A outer s0 H0 E scp r.f r.k) 0 (wE X.K fun cls dd _ H => E cls dd H) bd r.m
section
variable [Tbl] {X : Cx} {n : Nat} {W : XW}
variable {x a y : Str} {jx kk : Nat} {st : Stmt} {g : Addr} {fd : FuncData} {N : List Str} {b : Addr → Rt D → Mo Out} {p py pos : Pos} {r : LamR}
end
end Q
namespace Q
open PySem PySem.Spec PyProof.Rows L2 Gd
/-! ### bLams3, told by any outcome of the loop -/
end Q
namespace Q
open PySem PySem.Spec PyProof.Rows L2 Gd
variable [Tbl]
/-! ### repr of data with dicts whose keys are numbers or texts -/
def isKeyD : D → Bool
  | .int _ => true
  | .str _ => true
  | _ => false
mutual
def okDs : D → Bool
  | .none => true
  | .bool _ => true
  | .int _ => true
  | .str _ => true
  | .list xs => okDsL xs
  | .tuple xs => okDsL xs
  | .dict kvs => okKv kvs
def okDsL : List D → Bool
  | [] => true
  | x :: xs => okDs x && okDsL xs
def okKv : List (D × D) → Bool
  | [] => true
  | p :: r => isKeyD p.1 && okDs p.2 && okKv r
end
mutual
/-- what stands in the heap; no dict is the modules' own -/
inductive Rm (h : Heap) : Value → D → Prop
  | non : Rm h .none .none
  | bl (b : Bool) : Rm h (.bool b) (.bool b)
  | int (i : Int) (t : Tok) : Rm h (.int i t) (.int i)
  | str (x : Str) (t : Tok) : Rm h (.str x t) (.str x)
  | lst {a : Addr} {o : Obj} {vs : Array Value} {n : Nat} {xs : List D} : h.get? a = some o → o.cls = .type "list" → o.data = .seq vs n → RmL h vs.toList xs → Rm h (.ref a) (.list xs)
  | tup {a : Addr} {o : Obj} {vs : Array Value} {n : Nat} {xs : List D} : h.get? a = some o → o.cls = .type "tuple" → o.data = .seq vs n → RmL h vs.toList xs → Rm h (.ref a) (.tuple xs)
  | dct {a : Addr} {o : Obj} {es : Array DictEntry} {n : Nat} {kvs : List (D × D)} : h.get? a = some o → o.cls = .type "dict" → o.data = .dict es n → (a == sysModules) = false → RmL h (es.toList.map (·.key)) (kvs.map (·.1)) → RmL h (es.toList.map (·.val)) (kvs.map (·.2)) → Rm h (.ref a) (.dict kvs)
inductive RmL (h : Heap) : List Value → List D → Prop
  | nil : RmL h [] []
  | cons {v : Value} {vs : List Value} {d : D} {ds : List D} : Rm h v d → RmL h vs ds → RmL h (v :: vs) (d :: ds)
end
mutual
theorem Rm.reads {h : Heap} : ∀ {v : Value} {d : D}, Rm h v d → ∃ as, Reads h v d as
  | _, _, .non => ⟨_, .none⟩
  | _, _, .bl b => ⟨_, .bool b⟩
  | _, _, .int i t => ⟨_, .int i t⟩
  | _, _, .str x t => ⟨_, .str x t⟩
  | _, _, .lst h1 h2 h3 h4 => let ⟨_, q⟩ := RmL.reads h4; ⟨_, .list h1 h2 h3 q⟩
  | _, _, .tup h1 h2 h3 h4 => let ⟨_, q⟩ := RmL.reads h4; ⟨_, .tuple h1 h2 h3 q⟩
  | _, _, .dct h1 h2 h3 _ h4 h5 => let ⟨_, q⟩ := RmL.reads h4; let ⟨_, r⟩ := RmL.reads h5; ⟨_, .dict h1 h2 h3 q r⟩
theorem RmL.reads {h : Heap} : ∀ {vs : List Value} {ds : List D}, RmL h vs ds → ∃ as, ReadsAll h vs ds as
  | _, _, .nil => ⟨_, .nil⟩
  | _, _, .cons x r => let ⟨_, p⟩ := Rm.reads x; let ⟨_, q⟩ := RmL.reads r; ⟨_, .cons p q⟩
end
section
variable {P : Program} {w : World} {h : Heap}
def TellsM (P : Program) (w : World) (h : Heap) (v : Value) (d : D) : Prop := ∃ bs, ReadAtMost h d.depth bs ∧ ReprK P w bs h d.depth v d.shown
def TellsML (P : Program) (w : World) (h : Heap) (vs : List Value) (ds : List D) : Prop := ∃ bs, ReadAtMost h (PyData.depthAll ds) bs ∧ ReprAllK P w bs h (PyData.depthAll ds) vs (PyData.shownAll ds)
theorem no_atMostM {n : Nat} : ReadAtMost h n [] := fun _ z => nomatch z
mutual
theorem Rm.tells : ∀ {v : Value} {d : D}, Rm h v d → d.showable = true → d.shown.length ≤ sizeLine → TellsM P w h v d
  | _, _, .non, _, _ => ⟨[], no_atMostM, ReprK.of_is ReprIs.none _ _ _⟩
  | _, _, .bl b, _, _ => ⟨[], no_atMostM, ReprK.of_is (ReprIs.bool b) _ _ _⟩
  | _, _, .int i t, hs, _ => ⟨[], no_atMostM, ReprK.of_is (ReprIs.int t (of_decide_eq_true hs)) _ _ _⟩
  | _, _, .str x t, _, hz => ⟨[], no_atMostM, ReprK.of_is (ReprIs.str x t hz) _ _ _⟩
  | _, _, .lst (a := a) (vs := vs) (xs := xs) h1 h2 h3 h4, hs, hz => by
    have hz : (listText (PyData.shownAll xs)).length ≤ sizeLine := hz
    obtain ⟨bs, hb, hk⟩ := RmL.tells h4 hs fun t ht => Nat.le_trans (listText_mem_le ht) hz
    obtain ⟨_, r⟩ := Rm.reads (Rm.lst h1 h2 h3 h4)
    have dd : PyData.depthAll xs < (PyData.list xs).depth := Nat.lt_succ_self _
    have na := not_mem_of_deeper r dd hb
    refine ⟨a :: bs, ReadAtMost.cons r (Nat.le_of_lt dd) hb, ?_⟩
    show ReprK P w _ h (PyData.depthAll xs + 1) _ (listText (PyData.shownAll xs))
    obtain ⟨l⟩ := vs
    cases l with
    | nil =>
      cases h4
      exact ReprK.listEmpty h1 h2 h3
    | cons x l => exact ReprK.list h1 h2 h3 na (by simpa using hk.length_eq) fun i y e => hk.item i y (by simpa using e)
  | _, _, .tup (a := a) (xs := xs) h1 h2 h3 h4, hs, hz => by
    have hz : (tupleText (PyData.shownAll xs)).length ≤ sizeLine := hz
    obtain ⟨bs, hb, hk⟩ := RmL.tells h4 hs fun t ht => Nat.le_trans (tupleText_mem_le ht) hz
    obtain ⟨_, r⟩ := Rm.reads (Rm.tup h1 h2 h3 h4)
    have dd : PyData.depthAll xs < (PyData.tuple xs).depth := Nat.lt_succ_self _
    exact ⟨a :: bs, ReadAtMost.cons r (Nat.le_of_lt dd) hb, ReprK.tuple h1 h2 h3 (not_mem_of_deeper r dd hb) hk⟩
  | _, _, .dct (a := a) (es := es) (kvs := kvs) h1 h2 h3 h4 h5 h6, hs, hz => by
    have hz' : (dictText (PyData.shownKv kvs)).length ≤ sizeLine := by simpa only [PyData.shown] using hz
    obtain ⟨hs1, hs2⟩ := PyData.showableKv_split kvs (by simpa [PyData.showable] using hs)
    obtain ⟨b1, hb1, k1⟩ := RmL.tells h5 hs1 (fun t ht => let ⟨p, hp, hl⟩ := PyData.shownKv_key_le kvs t ht; Nat.le_trans hl (Nat.le_trans (dictText_mem_le hp) hz'))
    obtain ⟨b2, hb2, k2⟩ := RmL.tells h6 hs2 (fun t ht => let ⟨p, hp, hl⟩ := PyData.shownKv_val_le kvs t ht; Nat.le_trans hl (Nat.le_trans (dictText_mem_le hp) hz'))
    obtain ⟨_, r⟩ := Rm.reads (Rm.dct h1 h2 h3 h4 h5 h6)
    have hb : ReadAtMost h (PyData.depthKv kvs) (b1 ++ b2) := (hb1.mono (PyData.depthAll_keys_le kvs)).append (hb2.mono (PyData.depthAll_vals_le kvs))
    have hna : a ∉ b1 ++ b2 := not_mem_of_deeper r (by simp only [PyData.depth]; omega) hb
    refine ⟨a :: (b1 ++ b2), ReadAtMost.cons r (by simp only [PyData.depth]; omega) hb, ?_⟩
    simp only [PyData.depth, PyData.shown, PyData.shownKv_eq]
    exact ReprK.dict h1 h2 h3 h4 hna (ReprEntriesK.of_two es.toList _ _
      (k1.more_le (fun b hb => List.mem_append_left _ hb) (PyData.depthAll_keys_le kvs)) (k2.more_le (fun b hb => List.mem_append_right _ hb) (PyData.depthAll_vals_le kvs)))
theorem RmL.tells : ∀ {vs : List Value} {ds : List D}, RmL h vs ds → PyData.showableAll ds = true → (∀ t ∈ PyData.shownAll ds, t.length ≤ sizeLine) → TellsML P w h vs ds
  | _, _, .nil, _, _ => ⟨[], no_atMostM, .nil⟩
  | _, _, .cons (d := d) (ds := ds) x r, hs, hz => by
    have hs : (d.showable && PyData.showableAll ds) = true := hs
    rw [Bool.and_eq_true] at hs
    have hz : ∀ t ∈ d.shown :: PyData.shownAll ds, t.length ≤ sizeLine := hz
    obtain ⟨b1, m1, k1⟩ := Rm.tells x hs.1 (hz _ List.mem_cons_self)
    obtain ⟨b2, m2, k2⟩ := RmL.tells r hs.2 fun t ht => hz t (List.mem_cons_of_mem _ ht)
    have l1 : d.depth ≤ PyData.depthAll (d :: ds) := Nat.le_max_left _ _
    have l2 : PyData.depthAll ds ≤ PyData.depthAll (d :: ds) := Nat.le_max_right _ _
    exact ⟨b1 ++ b2, (m1.mono l1).append (m2.mono l2), .cons ((k1.more fun b q => List.mem_append_left _ q).level_le l1) (k2.more_le (fun b q => List.mem_append_right _ q) l2)⟩
end
end
section
variable {X : Cx} {pins : List (Addr × Obj)} {σ : L2.St} {H : Hp} {s : Shared}
theorem rm_keys {h : Heap} {P : Program} {w : World} : ∀ {ks : List (Key × V)} {kvs : List (Key × Value)} {es : List DictEntry} {ds : List (D × D)}, ImKV X.K H ks ds → KV ks kvs → Pairs (mixKind P w) es kvs → RmL h (es.map (·.key)) (ds.map (·.1))
  | _, _, _, _, .nil, .nil, .nil => .nil
  | _, _, _, _, .cons _ r, .cons hk rk, .cons he _ rp => by
    refine .cons ?_ (rm_keys r rk rp)
    have e := hk.1
    simp only at e
    subst e
    rcases keyIs_shape he with ⟨i, t, e1, e2⟩ | ⟨x, t, e1, e2⟩
    · dsimp only
      rw [e2]
      rw [e1]
      exact .int i t
    · dsimp only
      rw [e2]
      rw [e1]
      exact .str x t
mutual
theorem Im.rm (I : Inv X pins σ H s) : ∀ {v : V} (d : D) {u : Value}, Im X.K H v d → okDs d = true → RelV v u → Rm s.heap u d
  | _, .none, _, .non, _, r => by cases r; exact .non
  | _, .bool b, _, .bl _, _, r => by cases r; exact .bl b
  | _, .int i, _, .int _, _, r => by obtain ⟨t, rfl⟩ := r; exact .int i t
  | _, .str x, _, .str _, _, r => by obtain ⟨t, rfl⟩ := r; exact .str x t
  | _, .tuple ds, _, .tup h q, c, r => by
    cases r
    obtain ⟨its, rv, ⟨o, e, e2, n, e3⟩, _⟩ := I.tuple h.sq
    exact .tup e e2 e3 (by simpa using ImL.rm I ds q c rv)
  | _, .list ds, _, .lst h q, c, r => by
    cases r
    obtain ⟨its, rv, ⟨o, n, e, e2, _, e3⟩, _⟩ := I.list h.sq
    exact .lst e e2 e3 (by simpa using ImL.rm I ds q c rv)
  | _, .dict ds, _, .dic h q, c, r => by
    cases r
    obtain ⟨_, _, ns, vs, kv, d⟩ := I.hok _ _ h
    obtain ⟨o, es, ep, e, ex, hd, _, hl, _⟩ := d
    have c : okKv ds = true := c
    exact .dct e ex.1 hd ns (rm_keys q kv hl) (ImKV.rm I ds q c kv hl)
  | _, .dict _, _, .scr h, c, r => by cases c
  | _, .dict _, _, .prm _ _ _, c, r => by cases c
theorem ImL.rm (I : Inv X pins σ H s) : ∀ {vs : List V} (ds : List D) {us : List Value}, ImL X.K H vs ds → okDsL ds = true → Vals vs us → RmL s.heap us ds
  | _, [], _, .nil, _, r => by cases r; exact .nil
  | _, d :: ds, _, .cons h q, c, r => by
    have c : (okDs d && okDsL ds) = true := c
    rw [Bool.and_eq_true] at c
    cases r with
    | cons r1 r2 => exact .cons (Im.rm I d h c.1 r1) (ImL.rm I ds q c.2 r2)
theorem ImKV.rm (I : Inv X pins σ H s) : ∀ {ks : List (Key × V)} (ds : List (D × D)) {kvs : List (Key × Value)} {es : List DictEntry}, ImKV X.K H ks ds → okKv ds = true → KV ks kvs → Pairs (mixKind X.prog X.w) es kvs → RmL s.heap (es.map (·.val)) (ds.map (·.2))
  | _, [], _, _, .nil, _, .nil, .nil => .nil
  | _, (_, d) :: ds, _, _, .cons h q, c, .cons hk rk, .cons _ hv rp => by
    have c : (isKeyD _ && okDs d && okKv ds) = true := c
    rw [Bool.and_eq_true, Bool.and_eq_true] at c
    refine .cons ?_ (ImKV.rm I ds q c.2 rk rp)
    dsimp only
    rw [hv]
    exact Im.rm I d h c.1.2 hk.2
end
theorem Vw.rm {v : V} {d : D} {u : Value} (I : Inv X pins σ H s) (h : Vw X.K H v d) (c : okDs d = true) (r : RelV v u) : Rm s.heap u d := by
  cases h with
  | im h => exact Im.rm I d h c r
  | lst e q =>
    cases r
    obtain ⟨its, rv, ⟨o, n, e, e2, _, e3⟩, _⟩ := I.list (.inl (.inl e))
    exact .lst e e2 e3 (by simpa using ImL.rm I _ q c rv)
  | dic e q =>
    cases r
    obtain ⟨_, ns, vs, kv, d⟩ := I.hok _ _ e
    obtain ⟨o, es, ep, e, ex, hd, _, hl, _⟩ := d
    exact .dct e ex.1 hd ns (rm_keys q kv hl) (ImKV.rm I _ q c kv hl)
noncomputable def reprF : List D → Option D
  | [d] => if cb (d.showable = true ∧ okDs d = true ∧ d.depth ≤ 60 ∧ d.shown.length ≤ sizeLine) = true then some (.str d.shown) else none
  | _ => none
end
end Q
namespace Q
open PySem PySem.Spec PyProof.Rows L2 Gd
variable [Tbl]
/-! ### xs == [], whatever xs holds -/
def eqEmL (a b : D) : Option D := match a, b with
  | .list ds, .list [] => some (.bool ds.isEmpty)
  | _, _ => none
section
variable {X : Cx}
end
end Q
namespace Q
open PySem PySem.Spec PyProof.Rows L2 Gd
variable [Tbl]
/-! # A layer of objects: slots hold data or the number of a thing; the things stand in a store -/
/-- a value: data, or the number of a thing -/
inductive Vl
  | d (x : D)
  | o (id : Nat)
/-- what a thing holds: a list, a dict, the fields of an instance of the program's class c; gone: it is data by now -/
inductive Oc
  | lst (xs : List Vl)
  | dk (kvs : List (Key × Vl))
  | ins (c : Str) (fs : List (Str × Vl))
  | gone
inductive Sm
  | no
  | v (x : Vl)
  | exc (c f : Str) (d : D)
structure Ms where
  ρ : List Sm
  μ : List Oc
inductive RV (K : PySem.W.Frag) (H : Hp) (α : List Addr) : V → Vl → Prop
  | d {v : V} {x : D} : Im K H v x → RV K H α v (.d x)
  | o {a : Addr} {i : Nat} : α[i]? = some a → RV K H α (.ref a) (.o i)
inductive RVs (K : PySem.W.Frag) (H : Hp) (α : List Addr) : List V → List Vl → Prop
  | nil : RVs K H α [] []
  | cons {v : V} {vs : List V} {x : Vl} {xs : List Vl} : RV K H α v x → RVs K H α vs xs → RVs K H α (v :: vs) (x :: xs)
/-- entries: alike keys, values that are so -/
inductive RVk (K : PySem.W.Frag) (H : Hp) (α : List Addr) {κ : Type} : List (κ × V) → List (κ × Vl) → Prop
  | nil : RVk K H α [] []
  | cons {k : κ} {v : V} {vs : List (κ × V)} {x : Vl} {xs : List (κ × Vl)} : RV K H α v x → RVk K H α vs xs → RVk K H α ((k, v) :: vs) ((k, x) :: xs)
def OcR (K : PySem.W.Frag) (H : Hp) (α : List Addr) (a : Addr) : Oc → Prop
  | .lst xs => ∃ vs, H a = some (.lst vs) ∧ RVs K H α vs xs
  | .dk kvs => ∃ ks, H a = some (.dK ks) ∧ RVk K H α ks kvs
  | .ins c fs => ∃ C dx gs, H a = some (.ins C dx gs) ∧ PySem.W.nsIn K mainGlobals c = some (some (.ref C)) ∧ RVk K H α gs fs
  | .gone => ∃ u, H a = some u
structure GoodM (K : PySem.W.Frag) (H : Hp) (σ : St) (α : List Addr) (s : Ms) : Prop where
  len : σ.length = s.ρ.length
  val : ∀ (i : Nat) (x : Vl), s.ρ[i]? = some (.v x) → ∃ v, σ[i]? = some (some v) ∧ RV K H α v x
  exc : ∀ (i : Nat) (c f : Str) (d : D), s.ρ[i]? = some (.exc c f d) → ∃ a, σ[i]? = some (some (.ref a)) ∧ ExcAt K H a c f d
  la : α.length = s.μ.length
  obj : ∀ (i : Nat) (a : Addr) (c : Oc), α[i]? = some a → s.μ[i]? = some c → OcR K H α a c
  nd : α.Nodup
  tab : TabOk H
/-- a thing that may change stands at b -/
def LiveM (α : List Addr) (μ : List Oc) (b : Addr) : Prop := ∃ (i : Nat) (c : Oc), α[i]? = some b ∧ μ[i]? = some c ∧ c ≠ .gone
structure StpM (K : PySem.W.Frag) (n : Nat) (H : Hp) (σ : St) (α : List Addr) (s : Ms) (H' : Hp) (σ' : St) (α' : List Addr) (s' : Ms) : Prop where
  good : GoodM K H' σ' α' s'
  par : ∀ i, i < n → σ'[i]? = σ[i]?
  ext : ∃ β, α' = α ++ β
  kept : ∀ b o, H b = some o → ¬ LiveM α s.μ b → (∀ ps, o ≠ .tbl ps) → H' b = some o
  live : ∀ b, H' b = none → H b = none
  news : ∀ (i : Nat) (a : Addr), α.length ≤ i → α'[i]? = some a → H a = none
  gone : ∀ i : Nat, s.μ[i]? = some .gone → s'.μ[i]? = some .gone
section
variable {K : PySem.W.Frag} {n : Nat} {H H1 H2 H' : Hp} {σ σ1 σ2 σ' : St} {α α1 α2 α' : List Addr} {s s1 s2 s' : Ms}
theorem OcR.some {a : Addr} : ∀ {c : Oc}, OcR K H α a c → ∃ u, H a = some u
  | .lst _, h => let ⟨_, e, _⟩ := h; ⟨_, e⟩
  | .dk _, h => let ⟨_, e, _⟩ := h; ⟨_, e⟩
  | .ins _ _, h => let ⟨_, _, _, e, _⟩ := h; ⟨_, e⟩
  | .gone, h => h
theorem RV.ext {β : List Addr} (g : Grow H H') {v : V} {x : Vl} (h : RV K H α v x) : RV K H' (α ++ β) v x := by
  cases h with
  | d h => exact .d (h.grow g)
  | o h => exact .o (by rw [List.getElem?_append_left (List.getElem?_eq_some_iff.mp h).1]; exact h)
theorem RVs.ext {β : List Addr} (g : Grow H H') : ∀ {vs : List V} {xs : List Vl}, RVs K H α vs xs → RVs K H' (α ++ β) vs xs
  | _, _, .nil => .nil
  | _, _, .cons h r => .cons (h.ext g) (RVs.ext g r)
theorem RVk.ext {κ : Type} {β : List Addr} (g : Grow H H') : ∀ {vs : List (κ × V)} {xs : List (κ × Vl)}, RVk K H α vs xs → RVk K H' (α ++ β) vs xs
  | _, _, .nil => .nil
  | _, _, .cons h r => .cons (h.ext g) (RVk.ext g r)
theorem RVs.len : ∀ {vs : List V} {xs : List Vl}, RVs K H α vs xs → vs.length = xs.length
  | _, _, .nil => rfl
  | _, _, .cons _ r => by rw [List.length_cons, List.length_cons, RVs.len r]
theorem RVk.len {κ : Type} : ∀ {vs : List (κ × V)} {xs : List (κ × Vl)}, RVk K H α vs xs → vs.length = xs.length
  | _, _, .nil => rfl
  | _, _, .cons _ r => by rw [List.length_cons, List.length_cons, RVk.len r]
theorem RVs.append : ∀ {vs ws : List V} {xs ys : List Vl}, RVs K H α vs xs → RVs K H α ws ys → RVs K H α (vs ++ ws) (xs ++ ys)
  | _, _, _, _, .nil, h => h
  | _, _, _, _, .cons h r, h2 => .cons h (RVs.append r h2)
/-- the contents stay where the thing stays -/
theorem OcR.ext {β : List Addr} (g : Grow H H') {a : Addr} {c : Oc} (h : OcR K H α a c) (k : ∀ o, H a = Option.some o → ∃ o', H' a = Option.some o' ∧ (c ≠ .gone → o' = o)) : OcR K H' (α ++ β) a c := by
  cases c with
  | lst xs =>
    obtain ⟨vs, e, r⟩ := h
    obtain ⟨o', e2, q⟩ := k _ e
    rw [q (fun z => nomatch z)] at e2
    exact ⟨vs, e2, r.ext g⟩
  | dk kvs =>
    obtain ⟨vs, e, r⟩ := h
    obtain ⟨o', e2, q⟩ := k _ e
    rw [q (fun z => nomatch z)] at e2
    exact ⟨vs, e2, r.ext g⟩
  | ins c fs =>
    obtain ⟨C, dx, gs, e, nc, r⟩ := h
    obtain ⟨o', e2, q⟩ := k _ e
    rw [q (fun z => nomatch z)] at e2
    exact ⟨C, dx, gs, e2, nc, r.ext g⟩
  | gone =>
    obtain ⟨u, e⟩ := h
    obtain ⟨o', e2, _⟩ := k _ e
    exact ⟨o', e2⟩
theorem OcR.mut {a : Addr} {c : Oc} (h : OcR K H α a c) (ng : c ≠ .gone) : ∃ u, H a = Option.some u ∧ NoTab u ∧ (∀ xs, u ≠ .tup xs) ∧ (∀ o w, u ≠ .frz o w) ∧ ∀ fs, u ≠ .xd fs := by
  cases c with
  | lst xs =>
    obtain ⟨vs, e, r⟩ := h
    exact ⟨_, e, trivial, by simp, by simp, by simp⟩
  | dk kvs =>
    obtain ⟨vs, e, r⟩ := h
    exact ⟨_, e, trivial, by simp, by simp, by simp⟩
  | ins c fs =>
    obtain ⟨C, dx, gs, e, nc, r⟩ := h
    exact ⟨_, e, trivial, by simp, by simp, by simp⟩
  | gone => exact absurd rfl ng
theorem LiveM.at (G : GoodM K H σ α s) {b : Addr} (h : LiveM α s.μ b) : ∃ u, H b = Option.some u ∧ NoTab u ∧ (∀ xs, u ≠ .tup xs) ∧ (∀ o w, u ≠ .frz o w) ∧ ∀ fs, u ≠ .xd fs := by
  obtain ⟨i, c, e1, e2, ng⟩ := h
  exact (G.obj i b c e1 e2).mut ng
theorem StpM.refl (G : GoodM K H σ α s) : StpM K n H σ α s H σ α s := ⟨G, fun _ _ => rfl, ⟨[], (List.append_nil _).symm⟩, fun _ _ h _ _ => h, fun _ h => h, fun i a l e => absurd (List.getElem?_eq_some_iff.mp e).1 (Nat.not_lt.mpr l), fun _ h => h⟩
theorem StpM.liveB (st : StpM K n H σ α s H' σ' α' s') (G : GoodM K H σ α s) {b : Addr} (h : LiveM α' s'.μ b) : LiveM α s.μ b ∨ H b = none := by
  obtain ⟨i, c, e1, e2, ng⟩ := h
  by_cases l : i < α.length
  · left
    obtain ⟨β, rfl⟩ := st.ext
    rw [List.getElem?_append_left l] at e1
    have lm : i < s.μ.length := by rw [← G.la]; exact l
    refine ⟨i, s.μ[i], e1, List.getElem?_eq_getElem lm, fun z => ?_⟩
    have := st.gone i (by rw [List.getElem?_eq_getElem lm, z])
    rw [e2] at this
    exact ng (Option.some.inj this)
  · exact .inr (st.news i b (by omega) e1)
theorem StpM.grow (st : StpM K n H σ α s H' σ' α' s') (G : GoodM K H σ α s) : Grow H H' := by
  refine ⟨fun b xs h => st.kept b _ h (fun z => ?_) (fun ps z => nomatch z), fun b o u h => st.kept b _ h (fun z => ?_) (fun ps z => nomatch z), fun b fs h => st.kept b _ h (fun z => ?_) (fun ps z => nomatch z), fun b q h => st.kept b _ h (fun z => ?_) (fun ps z => LamX.codeO_ne ps z)⟩
  · obtain ⟨u, e, _, n1, _⟩ := z.at G
    rw [h] at e
    cases e
    exact n1 _ rfl
  · obtain ⟨u, e, _, _, n1, _⟩ := z.at G
    rw [h] at e
    cases e
    exact n1 _ _ rfl
  · obtain ⟨u, e, _, _, _, n1⟩ := z.at G
    rw [h] at e
    cases e
    exact n1 _ rfl
  · obtain ⟨u, e, nt, _⟩ := z.at G
    rw [h] at e
    exact noTab_code nt q (Option.some.inj e).symm
theorem StpM.trans (a : StpM K n H σ α s H1 σ1 α1 s1) (b : StpM K n H1 σ1 α1 s1 H2 σ2 α2 s2) (G : GoodM K H σ α s) : StpM K n H σ α s H2 σ2 α2 s2 := by
  obtain ⟨β1, e1⟩ := a.ext
  obtain ⟨β2, e2⟩ := b.ext
  refine ⟨b.good, fun i hi => (b.par i hi).trans (a.par i hi), ⟨β1 ++ β2, by rw [e2, e1, List.append_assoc]⟩, fun c o h nc nt => b.kept c o (a.kept c o h nc nt) (fun z => ?_) nt, fun c h => a.live c (b.live c h), fun i x l e => ?_, fun i h => b.gone i (a.gone i h)⟩
  · rcases a.liveB G z with z | z
    · exact nc z
    · rw [h] at z
      cases z
  · by_cases l2 : i < α1.length
    · rw [e2, List.getElem?_append_left l2] at e
      exact a.news i x l e
    · exact a.live x (b.news i x (by omega) e)
theorem RV.on (st : StpM K n H σ α s H' σ' α' s') (G : GoodM K H σ α s) {v : V} {x : Vl} (h : RV K H α v x) : RV K H' α' v x := by
  obtain ⟨β, rfl⟩ := st.ext
  exact h.ext (st.grow G)
theorem RVs.on (st : StpM K n H σ α s H' σ' α' s') (G : GoodM K H σ α s) {v : List V} {x : List Vl} (h : RVs K H α v x) : RVs K H' α' v x := by
  obtain ⟨β, rfl⟩ := st.ext
  exact h.ext (st.grow G)
theorem RVk.on {κ : Type} (st : StpM K n H σ α s H' σ' α' s') (G : GoodM K H σ α s) {v : List (κ × V)} {x : List (κ × Vl)} (h : RVk K H α v x) : RVk K H' α' v x := by
  obtain ⟨β, rfl⟩ := st.ext
  exact h.ext (st.grow G)
/-- other things of the heap change, none of the store -/
theorem GoodM.grow (G : GoodM K H σ α s) (g : Grow H H') (k : ∀ b o, LiveM α s.μ b → H b = Option.some o → H' b = Option.some o) (l : ∀ b, H' b = none → H b = none) (t : TabOk H → TabOk H') : GoodM K H' σ α s := by
  have ex : ∀ {v : V} {x : Vl}, RV K H α v x → RV K H' α v x := fun {v x} h => by
    have := h.ext (β := []) g
    rw [List.append_nil] at this
    exact this
  refine ⟨G.len, fun i x e => ?_, fun i c f d e => (G.exc i c f d e).elim fun a h => ⟨a, h.1, h.2.grow g⟩, G.la, fun i a c e1 e2 => ?_, G.nd, t G.tab⟩
  · obtain ⟨v, h1, h2⟩ := G.val i x e
    exact ⟨v, h1, ex h2⟩
  · have := (G.obj i a c e1 e2).ext (β := []) g fun o ho => by
      by_cases ng : c = .gone
      · cases eh : H' a with
        | none =>
          rw [l a eh] at ho
          cases ho
        | some o' => exact ⟨o', rfl, fun z => absurd ng z⟩
      · exact ⟨o, k a o ⟨i, c, e1, e2, ng⟩ ho, fun _ => rfl⟩
    rw [List.append_nil] at this
    exact this
theorem StpM.same (G : GoodM K H σ α s) (sm : Same H H') : StpM K n H σ α s H' σ α s :=
  ⟨G.grow (Grow.same sm) (fun b o _ h => sm b o h) (fun b h => sm.free h) (TabOk.same sm), fun _ _ => rfl, ⟨[], (List.append_nil _).symm⟩, fun b o h _ _ => sm b o h, fun b h => sm.free h, fun i a l e => absurd (List.getElem?_eq_some_iff.mp e).1 (Nat.not_lt.mpr l), fun _ h => h⟩
end
/-! ### what a piece gives -/
inductive RtM (β : Type)
  | no
  | ok (a : β) (s : Ms)
  | ex (c : Str) (d : D) (s : Ms)
@[simp] def RtM.bind {β γ : Type} : RtM β → (β → Ms → RtM γ) → RtM γ
  | .no, _ => .no
  | .ok a s, k => k a s
  | .ex c d s, _ => .ex c d s
abbrev MoM (β : Type) := Ms → RtM β
def AftM {β : Type} (K : PySem.W.Frag) (n : Nat) (W : XW) (H : Hp) (σ : St) (α : List Addr) (s : Ms) (r : RtM β) (Q : β → Ms → List Addr → Hp → Prop) : Prop := match r with
  | .no => False
  | .ok a s' => ∀ H' α', StpM K n H σ α s H' σ α' s' → Q a s' α' H'
  | .ex c d s' => ∀ H' α', StpM K n H σ α s H' σ α' s' → W c d σ H'
section
variable {β γ : Type} {K : PySem.W.Frag} {n : Nat} {W : XW} {H H' : Hp} {σ : St} {α : List Addr} {s : Ms}
theorem AftM.mono {r : RtM β} {Q Q' : β → Ms → List Addr → Hp → Prop} (h : AftM K n W H σ α s r Q) (q : ∀ a s' α' H', StpM K n H σ α s H' σ α' s' → Q a s' α' H' → Q' a s' α' H') : AftM K n W H σ α s r Q' := by
  cases r with
  | no => exact h
  | ok a s' => exact fun H' α' st => q a s' α' H' st (h H' α' st)
  | ex c d s' => exact h
theorem AftM.bind (G : GoodM K H σ α s) {m : RtM β} {k : β → Ms → RtM γ} {Q : γ → Ms → List Addr → Hp → Prop} (h : AftM K n W H σ α s (m.bind k) Q) : AftM K n W H σ α s m fun a s1 α1 H1 => AftM K n W H1 σ α1 s1 (k a s1) Q := by
  cases m with
  | no => exact h
  | ok a s1 =>
    intro H1 α1 st1
    have h : AftM K n W H σ α s (k a s1) Q := h
    show AftM K n W H1 σ α1 s1 (k a s1) Q
    generalize k a s1 = r at h
    cases r with
    | no => exact h
    | ok b s2 => exact fun H2 α2 st2 => h H2 α2 (st1.trans st2 G)
    | ex c d s2 => exact fun H2 α2 st2 => h H2 α2 (st1.trans st2 G)
  | ex c d s1 => exact h
theorem AftM.ok {a : β} {Q : β → Ms → List Addr → Hp → Prop} (G : GoodM K H σ α s) (h : AftM K n W H σ α s (.ok a s) Q) : Q a s α H := h H α (StpM.refl G)
end
/-! ### the readings -/
def tXM (K : PySem.W.Frag) (n : Nat) (W : XW) (m : MoM Vl) : TE := fun σ H Q => ∃ α s, GoodM K H σ α s ∧ AftM K n W H σ α s (m s) fun x _ α' H' => ∀ v, RV K H' α' v x → Q v H'
def tXsM (K : PySem.W.Frag) (n : Nat) (W : XW) (m : MoM (List Vl)) : TA := fun σ H Q => ∃ α s, GoodM K H σ α s ∧ AftM K n W H σ α s (m s) fun xs _ α' H' => ∀ vs, RVs K H' α' vs xs → Q vs H'
def tXbM (K : PySem.W.Frag) (n : Nat) (W : XW) (m : MoM Bool) : TT := fun σ H Q => ∃ α s, GoodM K H σ α s ∧ AftM K n W H σ α s (m s) fun b _ _ H' => Q b H'
abbrev MD (X : Cx) (n : Nat) (W : XW) (e : Expr) (m : MoM Vl) : Prop := PE X e (tXM X.K n W m)
abbrev MA (X : Cx) (n : Nat) (W : XW) (es : List Expr) (m : MoM (List Vl)) : Prop := PA X es (tXsM X.K n W m)
abbrev MB (X : Cx) (n : Nat) (W : XW) (e : Expr) (m : MoM Bool) : Prop := PT X e (tXbM X.K n W m)
end Q
namespace Q
open PySem PySem.Spec PyProof.Rows L2 Gd
variable [Tbl]
/-! ### expressions of the layer of objects -/
@[simp] def Sm.old : Sm → Sl
  | .v (.d x) => .dat x
  | .exc c f d => .exc c f d
  | _ => .no
@[simp] def oldE (s : Ms) : Ev := s.ρ.map Sm.old
section
variable {K : PySem.W.Frag} {n : Nat} {H H1 H2 H' : Hp} {σ σ1 σ2 σ' : St} {α α1 α2 α' : List Addr} {s s1 s2 s' : Ms}
theorem old_at {s : Ms} {i : Nat} {t : Sl} (h : (oldE s)[i]? = some t) : ∃ u, s.ρ[i]? = some u ∧ u.old = t := by
  unfold oldE at h
  rw [List.getElem?_map] at h
  cases e : s.ρ[i]? with
  | none =>
    rw [e] at h
    cases h
  | some u =>
    rw [e] at h
    exact ⟨u, rfl, Option.some.inj h⟩
theorem old_no_own {s : Ms} {i : Nat} {o : Ob} (h : (oldE s)[i]? = some (.own o)) : False := by
  obtain ⟨u, _, e⟩ := old_at h
  cases u with
  | no => cases e
  | v x => cases x <;> cases e
  | exc _ _ _ => cases e
theorem no_ownM {p : Addr} : ¬ Own σ (oldE s) p := fun ⟨_, _, h, _⟩ => old_no_own h
theorem GoodM.old (G : GoodM K H σ α s) : Good K H σ (oldE s) := by
  refine ⟨by rw [G.len]; unfold oldE; rw [List.length_map], fun i d h => ?_, fun i o h => (old_no_own h).elim, fun i j o o' p h1 _ _ _ => (old_no_own h1).elim, G.tab, fun i c f d h => ?_⟩
  · obtain ⟨u, e, q⟩ := old_at h
    cases u with
    | no => cases q
    | exc _ _ _ => cases q
    | v x => cases x with
      | o _ => cases q
      | d x =>
        cases q
        obtain ⟨v, e1, r⟩ := G.val i _ e
        cases r with
        | d im => exact ⟨v, e1, im⟩
  · obtain ⟨u, e, q⟩ := old_at h
    cases u with
    | no => cases q
    | exc _ _ _ =>
      cases q
      exact G.exc i _ _ _ e
    | v x => cases x <;> cases q
theorem Stp.toM {ρ' : Ev} (G : GoodM K H σ α s) (st : Stp K n H σ (oldE s) H' σ ρ') : StpM K n H σ α s H' σ α s := by
  refine ⟨G.grow (st.grow G.old) (fun b o lb h => st.kept b o h no_ownM fun ps z => ?_) st.live fun _ => st.good.tab, fun _ _ => rfl, ⟨[], (List.append_nil _).symm⟩, fun b o h _ nt => st.kept b o h no_ownM nt, st.live, fun i a l e => absurd (List.getElem?_eq_some_iff.mp e).1 (Nat.not_lt.mpr l), fun _ h => h⟩
  obtain ⟨u, e, nt, _⟩ := lb.at G
  rw [h, z] at e
  cases e
  exact nt
/-- no thing of the store is new -/
theorem GoodM.fresh (G : GoodM K H σ α s) {p : Addr} (h : H p = none) : p ∉ α := fun m => by
  obtain ⟨i, e⟩ := List.mem_iff_getElem?.mp m
  have l := (List.getElem?_eq_some_iff.mp e).1
  rw [G.la] at l
  obtain ⟨u, e2⟩ := (G.obj i p _ e (List.getElem?_eq_getElem l)).some
  rw [h] at e2
  cases e2
/-- a new thing, put into the store -/
theorem StpM.new (st : StpM K n H σ α s H' σ' α' s') {p : Addr} {c : Oc} (np : H p = none) (na : p ∉ α') (r : OcR K H' α' p c) : StpM K n H σ α s H' σ' (α' ++ [p]) ⟨s'.ρ, s'.μ ++ [c]⟩ := by
  have G := st.good
  obtain ⟨β, eβ⟩ := st.ext
  have ex : ∀ {v : V} {x : Vl}, RV K H' α' v x → RV K H' (α' ++ [p]) v x := fun h => h.ext (Grow.refl _)
  have exO : ∀ {a : Addr} {c : Oc}, OcR K H' α' a c → OcR K H' (α' ++ [p]) a c := fun h => h.ext (Grow.refl _) fun o ho => ⟨o, ho, fun _ => rfl⟩
  refine ⟨⟨G.len, fun i x e => ?_, G.exc, by rw [List.length_append, List.length_append, G.la]; rfl, fun i a c' e1 e2 => ?_, ?_, G.tab⟩, st.par, ⟨β ++ [p], by rw [eβ, List.append_assoc]⟩, st.kept, st.live, fun i a l e => ?_, fun i h => ?_⟩
  · obtain ⟨v, h1, h2⟩ := G.val i x e
    exact ⟨v, h1, ex h2⟩
  · by_cases l : i < α'.length
    · rw [List.getElem?_append_left l] at e1
      have e2 : (s'.μ ++ [c])[i]? = some c' := e2
      rw [List.getElem?_append_left (by rw [← G.la]; exact l)] at e2
      exact exO (G.obj i a c' e1 e2)
    · have e2 : (s'.μ ++ [c])[i]? = some c' := e2
      rw [List.getElem?_append_right (by omega)] at e1
      rw [List.getElem?_append_right (by rw [← G.la]; omega)] at e2
      have z : i - α'.length = 0 := by
        have := (List.getElem?_eq_some_iff.mp e1).1
        rw [List.length_singleton] at this
        omega
      rw [z] at e1
      rw [← G.la, z] at e2
      cases e1
      cases e2
      exact exO r
  · refine List.nodup_append.mpr ⟨G.nd, List.pairwise_singleton _ _, fun x hx y hy e => ?_⟩
    rw [List.mem_singleton.mp hy] at e
    exact na (by rw [← e]; exact hx)
  · by_cases l2 : i < α'.length
    · rw [List.getElem?_append_left l2] at e
      exact st.news i a l e
    · rw [List.getElem?_append_right (by omega)] at e
      have := (List.getElem?_eq_some_iff.mp e).1
      rw [List.length_singleton] at this
      have z : i - α'.length = 0 := by omega
      rw [z] at e
      cases e
      exact np
  · show (s'.μ ++ [c])[i]? = _
    have := st.gone i h
    rw [List.getElem?_append_left (List.getElem?_eq_some_iff.mp this).1]
    exact this
end
/-- contents that are not in the store yet -/
def tFM (K : PySem.W.Frag) (n : Nat) (W : XW) (m : MoM Oc) : TE := fun σ H Q => ∃ α s, GoodM K H σ α s ∧ AftM K n W H σ α s (m s) fun c _ α' H' => ∀ p, H p = none → p ∉ α' → OcR K H' α' p c → c ≠ .gone → Q (.ref p) H'
abbrev MF (X : Cx) (n : Nat) (W : XW) (e : Expr) (m : MoM Oc) : Prop := PE X e (tFM X.K n W m)
/-! ### from the layer of data -/
@[simp] def eD (m : Mo R) : MoM Vl := fun s => match m (oldE s) with
  | .ok (.d x) _ => .ok (.d x) s
  | .ex c d _ => .ex c d s
  | _ => .no
@[simp] def bD (m : Mo Bool) : MoM Bool := fun s => match m (oldE s) with
  | .ok b _ => .ok b s
  | .ex c d _ => .ex c d s
  | _ => .no
def kvM : List (D × D) → Option (List (Key × Vl))
  | [] => some []
  | (k, x) :: r => match keyOf k, kvM r with
    | some k, some r => some ((k, .d x) :: r)
    | _, _ => none
def ocOf : Ob → Option Oc
  | .lst ds => some (.lst (ds.map .d))
  | .dk kvs => (kvM kvs).map .dk
  | .dt _ => none
@[simp] def fD (m : Mo Ob) : MoM Oc := fun s => match m (oldE s) with
  | .ok o _ => match ocOf o with
    | some c => .ok c s
    | none => .no
  | .ex c d _ => .ex c d s
  | .no => .no
section
variable {K : PySem.W.Frag} {H : Hp} {α : List Addr}
theorem ImL.rvs : ∀ {vs : List V} (ds : List D), ImL K H vs ds → RVs K H α vs (ds.map .d)
  | _, [], .nil => .nil
  | _, _ :: ds, .cons h r => .cons (.d h) (ImL.rvs ds r)
theorem ImKV.rvk : ∀ {vs : List (Key × V)} (ds : List (D × D)) {l : List (Key × Vl)}, ImKV K H vs ds → kvM ds = some l → RVk K H α vs l
  | _, [], l, .nil, h => by
    cases h
    exact .nil
  | _, (_, x) :: ds, l, .cons (k := k) h r, e => by
    unfold kvM at e
    rw [keyOf_D] at e
    cases e2 : kvM ds with
    | none =>
      rw [e2] at e
      cases e
    | some l2 =>
      rw [e2] at e
      cases e
      exact .cons (.d h) (ImKV.rvk ds r e2)
theorem ocOf_r {a : Addr} {h : HO} {o : Ob} {c : Oc} (e : H a = some h) (r : ObR K H h o) (q : ocOf o = some c) : OcR K H α a c ∧ c ≠ .gone := by
  cases r with
  | lst r =>
    cases q
    exact ⟨⟨_, e, r.rvs⟩, fun z => nomatch z⟩
  | @dk kvs ds r =>
    cases e2 : kvM ds with
    | none =>
      have q : (kvM ds).map Oc.dk = some c := q
      rw [e2] at q
      cases q
    | some l2 =>
      have q : (kvM ds).map Oc.dk = some c := q
      rw [e2] at q
      cases q
      exact ⟨⟨_, e, r.rvk _ e2⟩, fun z => nomatch z⟩
  | dt _ => cases q
end
section
variable {X : Cx} {n : Nat} {W : XW}
theorem md_old {e : Expr} {m : Mo R} (h : XD X n W e m) : MD X n W e (eD m) := weakE h fun σ H Q ⟨α, s, G, h⟩ => by
  refine ⟨oldE s, G.old, ?_⟩
  unfold eD at h
  cases e : m (oldE s) with
  | no =>
    rw [e] at h
    exact h.elim
  | ex c d ρ' =>
    rw [e] at h
    exact fun H' st => h H' α (st.toM G)
  | ok r ρ' =>
    rw [e] at h
    cases r with
    | v _ => exact h.elim
    | d x =>
      intro H' st v rv
      cases rv with
      | d im => exact h H' α (st.toM G) v (.d im)
theorem mb_old {e : Expr} {m : Mo Bool} (h : XB X n W e m) : MB X n W e (bD m) := weakT h fun σ H Q ⟨α, s, G, h⟩ => by
  refine ⟨oldE s, G.old, ?_⟩
  unfold bD at h
  cases e : m (oldE s) with
  | no =>
    rw [e] at h
    exact h.elim
  | ex c d ρ' =>
    rw [e] at h
    exact fun H' st => h H' α (st.toM G)
  | ok r ρ' =>
    rw [e] at h
    exact fun H' st => h H' α (st.toM G)
theorem mf_old {e : Expr} {m : Mo Ob} (h : XF X n W e m) : MF X n W e (fD m) := weakE h fun σ H Q ⟨α, s, G, h⟩ => by
  refine ⟨oldE s, G.old, ?_⟩
  unfold fD at h
  cases e : m (oldE s) with
  | no =>
    rw [e] at h
    exact h.elim
  | ex c d ρ' =>
    rw [e] at h
    exact fun H' st => h H' α (st.toM G)
  | ok o ρ' =>
    rw [e] at h
    dsimp only at h
    cases e2 : ocOf o with
    | none =>
      rw [e2] at h
      exact h.elim
    | some c =>
      rw [e2] at h
      intro H' st p ho np eh r no
      obtain ⟨oc, ng⟩ := ocOf_r (α := α) eh r e2
      exact h H' α (st.toM G) p np (G.fresh np) oc ng
/-- a new thing is put into the store -/
@[simp] def eNewM (m : MoM Oc) : MoM Vl := fun s => (m s).bind fun c s1 => .ok (.o s1.μ.length) ⟨s1.ρ, s1.μ ++ [c]⟩
theorem md_new {e : Expr} {m : MoM Oc} (h : MF X n W e m) : MD X n W e (eNewM m) := weakE h fun σ H Q ⟨α, s, G, h⟩ => by
  refine ⟨α, s, G, ?_⟩
  unfold eNewM at h
  cases e : m s with
  | no =>
    rw [e] at h
    exact h.elim
  | ex c d s1 =>
    rw [e] at h
    exact h
  | ok c s1 =>
    rw [e] at h
    intro H1 α1 st p np na oc ng
    refine h H1 (α1 ++ [p]) (st.new np na oc) _ (.o ?_)
    rw [← st.good.la, List.getElem?_append_right (Nat.le_refl _), Nat.sub_self]
    rfl
/-! ### what may be read as data just now -/
def datsM : List Vl → Option (List D)
  | [] => some []
  | .d x :: r => (datsM r).map (x :: ·)
  | .o _ :: _ => none
def kvsM : List (Key × Vl) → Option (List (D × D))
  | [] => some []
  | (k, .d x) :: r => (kvsM r).map ((keyD k, x) :: ·)
  | (_, .o _) :: _ => none
def Oc.d : Oc → Option D
  | .lst xs => (datsM xs).map .list
  | .dk kvs => (kvsM kvs).map .dict
  | _ => none
def lookM (μ : List Oc) : Vl → Option D
  | .d x => some x
  | .o i => μ[i]?.bind Oc.d
theorem datsM_r {K : PySem.W.Frag} {H : Hp} {α : List Addr} : ∀ {vs : List V} {xs : List Vl} {ds : List D}, RVs K H α vs xs → datsM xs = some ds → ImL K H vs ds
  | _, _, _, .nil, e => by
    cases e
    exact .nil
  | _, .d x :: r, ds, .cons (.d im) rr, e => by
    have e : (datsM r).map (x :: ·) = some ds := e
    cases e2 : datsM r with
    | none =>
      rw [e2] at e
      cases e
    | some es =>
      rw [e2] at e
      cases e
      exact .cons im (datsM_r rr e2)
  | _, .o _ :: _, _, .cons _ _, e => by cases e
theorem kvsM_r {K : PySem.W.Frag} {H : Hp} {α : List Addr} : ∀ {vs : List (Key × V)} {xs : List (Key × Vl)} {ds : List (D × D)}, RVk K H α vs xs → kvsM xs = some ds → ImKV K H vs ds
  | _, _, _, .nil, e => by
    cases e
    exact .nil
  | _, (k, .d x) :: r, ds, .cons (.d im) rr, e => by
    have e : (kvsM r).map ((keyD k, x) :: ·) = some ds := e
    cases e2 : kvsM r with
    | none =>
      rw [e2] at e
      cases e
    | some es =>
      rw [e2] at e
      cases e
      exact .cons im (kvsM_r rr e2)
  | _, (_, .o _) :: _, _, .cons _ _, e => by cases e
theorem oc_see {K : PySem.W.Frag} {H : Hp} {α : List Addr} {a : Addr} {c : Oc} {d : D} (r : OcR K H α a c) (e : c.d = some d) : ∃ h o, H a = some h ∧ ObR K H h o ∧ o.d = d ∧ o.nd = true := by
  cases c with
  | lst xs =>
    obtain ⟨vs, e1, r⟩ := r
    cases e2 : datsM xs with
    | none =>
      have e : (datsM xs).map PyData.list = some d := e
      rw [e2] at e
      cases e
    | some ds =>
      have e : (datsM xs).map PyData.list = some d := e
      rw [e2] at e
      cases e
      exact ⟨_, .lst ds, e1, .lst (datsM_r r e2), rfl, rfl⟩
  | dk kvs =>
    obtain ⟨vs, e1, r⟩ := r
    cases e2 : kvsM kvs with
    | none =>
      have e : (kvsM kvs).map PyData.dict = some d := e
      rw [e2] at e
      cases e
    | some ds =>
      have e : (kvsM kvs).map PyData.dict = some d := e
      rw [e2] at e
      cases e
      exact ⟨_, .dk ds, e1, .dk (kvsM_r r e2), rfl, rfl⟩
  | ins _ _ => cases e
  | gone => cases e
theorem RV.see {K : PySem.W.Frag} {H : Hp} {σ : St} {α : List Addr} {s : Ms} (G : GoodM K H σ α s) {v : V} {x : Vl} {d : D} (r : RV K H α v x) (e : lookM s.μ x = some d) : Vw K H v d := by
  cases r with
  | d im =>
    cases e
    exact .im im
  | @o a i ea =>
    have e : s.μ[i]?.bind Oc.d = some d := e
    cases ec : s.μ[i]? with
    | none =>
      rw [ec] at e
      cases e
    | some c =>
      rw [ec] at e
      have e : c.d = some d := e
      obtain ⟨h, o, e1, r, rfl, nd⟩ := oc_see (G.obj i a c ea ec) e
      cases r with
      | lst r => exact .lst e1 r
      | dk r => exact .dic e1 r
      | dt _ => cases nd
/-- contents that are data are locked -/
@[simp] def eLockM (m : MoM Oc) : MoM Vl := fun s => (m s).bind fun c s1 => match c.d with
  | some d => .ok (.d d) s1
  | none => .no
theorem md_lock {e : Expr} {m : MoM Oc} (h : MF X n W e m) : MD X n W e (eLockM m) := weakE (pe_frz h) fun σ H Q ⟨α, s, G, h⟩ => by
  refine ⟨α, s, G, ?_⟩
  unfold eLockM at h
  cases e : m s with
  | no =>
    rw [e] at h
    exact h.elim
  | ex c d s1 =>
    rw [e] at h
    exact h
  | ok c s1 =>
    rw [e] at h
    intro H1 α1 st p np na oc ng
    have h : AftM X.K n W H σ α s (match c.d with
      | some d => .ok (.d d) s1
      | none => .no : RtM Vl) fun x _ α' H' => ∀ v, RV X.K H' α' v x → Q v H' := h
    cases ed : c.d with
    | none =>
      rw [ed] at h
      exact h.elim
    | some d =>
      rw [ed] at h
      obtain ⟨ho, o, e1, r, rfl, nd⟩ := oc_see oc ed
      refine ⟨p, ho, rfl, e1, r.mut, fun od => ?_⟩
      have g : Grow H1 (upd H1 p (.frz od ho)) := grow_upd e1 r.mut (noTab_code r.noTab)
      have im : Im X.K (upd H1 p (.frz od ho)) (.ref p) o.d := by
        cases r with
        | lst r => exact .lst ⟨od, upd_same⟩ (r.grow g)
        | dk r => exact .dic upd_same (r.grow g)
        | dt _ => cases nd
      have nl : ∀ b, LiveM α1 s1.μ b → b ≠ p := fun b lb z => by
        obtain ⟨i, c, e, _⟩ := lb
        exact na (by rw [← z]; exact List.mem_of_getElem? e)
      refine h _ α1 ⟨st.good.grow g (fun b o lb q => by rw [upd_ne (nl b lb)]; exact q) (live_upd e1) (TabOk.upd e1 r.mut r.noTab), st.par, st.ext, fun b o hb nb nt => ?_, fun b hb => st.live b (live_upd e1 b hb), st.news, st.gone⟩ _ (.d im)
      rw [upd_ne (ne_of_none hb np)]
      exact st.kept b o hb nb nt
/-! ### names, arguments, operations -/
@[simp] def eVarM (i : Nat) : MoM Vl := fun s => match s.ρ[i]? with
  | some (.v x) => .ok x s
  | _ => .no
theorem md_var {i : Nat} {x : Str} {pos : Pos} (h : PE X (.Name x pos) (tVar i)) : MD X n W (.Name x pos) (eVarM i) := weakE h fun σ H Q ⟨α, s, G, h⟩ => by
  unfold eVarM at h
  split at h
  · next x e =>
    obtain ⟨v, e1, r⟩ := G.val i x e
    exact ⟨v, e1, AftM.ok G h v r⟩
  · exact h.elim
@[simp] def eNilM : MoM (List Vl) := fun s => .ok [] s
@[simp] def eConsM (m : MoM Vl) (r : MoM (List Vl)) : MoM (List Vl) := fun s => (m s).bind fun x s1 => (r s1).bind fun xs s2 => .ok (x :: xs) s2
theorem ma_nil : MA X n W [] eNilM := weakA pa_nil fun σ H Q ⟨α, s, G, h⟩ => AftM.ok G h [] .nil
theorem ma_cons {e : Expr} {es : List Expr} {m : MoM Vl} {r : MoM (List Vl)} (he : MD X n W e m) (hr : MA X n W es r) (hs : starEach (e :: es) X.env = (false, eval e X.env) :: starEach es X.env := by rfl) : MA X n W (e :: es) (eConsM m r) :=
  weakA (pa_cons he hr hs) fun σ H Q ⟨α, s, G, h⟩ => ⟨α, s, G, (AftM.bind G h).mono fun x s1 α1 H1 st1 h1 v rv => ⟨α1, s1, st1.good, (AftM.bind st1.good h1).mono fun xs s2 α2 H2 st2 h2 vs rvs => AftM.ok st2.good h2 (v :: vs) (.cons (rv.on st2 st1.good) rvs)⟩⟩
@[simp] def looksM (μ : List Oc) : List Vl → Option (List D)
  | [] => some []
  | x :: xs => match lookM μ x, looksM μ xs with
    | some d, some ds => some (d :: ds)
    | _, _ => none
theorem RVs.see {K : PySem.W.Frag} {H : Hp} {σ : St} {α : List Addr} {s : Ms} (G : GoodM K H σ α s) : ∀ {vs : List V} {xs : List Vl} {ds : List D}, RVs K H α vs xs → looksM s.μ xs = some ds → VwL K H vs ds
  | _, _, _, .nil, h => by
    cases h
    exact .nil
  | _, _, _, .cons x xs, h => by
    unfold looksM at h
    split at h
    · next e1 e2 =>
      cases h
      exact .cons (x.see G e1) (RVs.see G xs e2)
    · cases h
@[simp] def liftM (o : Option D) : MoM Vl := fun s => match o with
  | some d => .ok (.d d) s
  | none => .no
theorem AftM.out {K : PySem.W.Frag} {H : Hp} {σ : St} {α : List Addr} {s : Ms} {o : Option D} {Q : VK} (G : GoodM K H σ α s) (h : AftM K n W H σ α s (liftM o s) fun x _ α' H' => ∀ v, RV K H' α' v x → Q v H') :
    ∃ d, o = some d ∧ ∀ v H', Same H H' → Im K H' v d → Q v H' := by
  cases o with
  | none => exact h.elim
  | some d => exact ⟨d, rfl, fun v H' sm i => h H' α (StpM.same G sm) v (.d i)⟩
@[simp] def F2M (F : D → D → Option D) (μ : List Oc) (a b : Vl) : Option D := match lookM μ a, lookM μ b with
  | some x, some y => F x y
  | _, _ => none
@[simp] def e2M (F : D → D → Option D) (f g : MoM Vl) : MoM Vl := fun s => (f s).bind fun a s1 => (g s1).bind fun b s2 => liftM (F2M F s2.μ a b) s2
@[simp] def e1M (F : D → Option D) (f : MoM Vl) : MoM Vl := fun s => (f s).bind fun a s1 => liftM ((lookM s1.μ a).bind F) s1
@[simp] def eNM (F : List D → Option D) (f : MoM (List Vl)) : MoM Vl := fun s => (f s).bind fun a s1 => liftM ((looksM s1.μ a).bind F) s1
theorem op2_runM {r : R2} {F : D → D → Option D} {f g : MoM Vl} (hF : Op2 X.K r F) (σ : St) (H : Hp) (Q : VK) (h : tXM X.K n W (e2M F f g) σ H Q) : tXM X.K n W f σ H fun x H1 => tXM X.K n W g σ H1 fun y H2 => r x y H2 Q := by
  obtain ⟨α, s, G, h⟩ := h
  refine ⟨α, s, G, (AftM.bind G h).mono fun a s1 α1 H1 st1 h1 v rv => ⟨α1, s1, st1.good, (AftM.bind st1.good h1).mono fun b s2 α2 H2 st2 h2 u ru => ?_⟩⟩
  obtain ⟨d, e, q⟩ := AftM.out st2.good h2
  unfold F2M at e
  split at e
  · next x y ex ey => exact hF v u x y d H2 Q ((rv.on st2 st1.good).see st2.good ex) (ru.see st2.good ey) e q
  · cases e
theorem opN_runM {r : List V → Hp → VK → Prop} {F : List D → Option D} {f : MoM (List Vl)} (hF : OpN X.K r F) (σ : St) (H : Hp) (Q : VK) (h : tXM X.K n W (eNM F f) σ H Q) : tXsM X.K n W f σ H fun xs H1 => r xs H1 Q := by
  obtain ⟨α, s, G, h⟩ := h
  refine ⟨α, s, G, (AftM.bind G h).mono fun a s1 α1 H1 st1 h1 vs rvs => ?_⟩
  obtain ⟨d, e, q⟩ := AftM.out st1.good h1
  cases ea : looksM s1.μ a with
  | none =>
    rw [ea] at e
    cases e
  | some x =>
    rw [ea] at e
    exact hF vs x d H1 Q (rvs.see st1.good ea) e q
theorem md_op {a b : Expr} {op : Operator} {pos : Pos} {r : R2} {F : D → D → Option D} {f g : MoM Vl} (ho : OpR X (binaryOp op) r) (hF : Op2 X.K r F) (ha : MD X n W a f) (hb : MD X n W b g) : MD X n W (.BinOp a op b pos) (e2M F f g) := weakE (pe_op ho ha hb) (op2_runM hF)
theorem md_cmp {a b : Expr} {op : CmpOp} {pos : Pos} {r : R2} {F : D → D → Option D} {f g : MoM Vl} (ho : OpR X (compareOp op) r) (hF : Op2 X.K r F) (ha : MD X n W a f) (hb : MD X n W b g) (hm : behindInMarks op b = false) : MD X n W (.Compare a [op] [b] pos) (e2M F f g) := weakE (pe_cmpR ho ha hb hm) (op2_runM hF)
/-! ### truth -/
@[simp] def asBM (m : MoM Vl) : MoM Bool := fun s => (m s).bind fun x s1 => match lookM s1.μ x with
  | some (.bool b) => .ok b s1
  | _ => .no
theorem asB_runM {f : MoM Vl} {σ : St} {H : Hp} {Q : Bool → Hp → Prop} (h : tXbM X.K n W (asBM f) σ H Q) : tXM X.K n W f σ H fun x H1 => ∃ c, x = .bl c ∧ Q c H1 := by
  obtain ⟨α, s, G, h⟩ := h
  refine ⟨α, s, G, (AftM.bind G h).mono fun a s1 α1 H1 st1 h1 v rv => ?_⟩
  split at h1
  · next b e =>
    have := rv.see st1.good e
    exact ⟨b, this.bl, AftM.ok st1.good h1⟩
  · exact h1.elim
theorem mb_cmp {a b : Expr} {op : CmpOp} {pos : Pos} {r : R2} {F : D → D → Option D} {f g : MoM Vl} (ho : OpR X (compareOp op) r) (hF : Op2 X.K r F) (ha : MD X n W a f) (hb : MD X n W b g) (hm : behindInMarks op b = false) : MB X n W (.Compare a [op] [b] pos) (asBM (e2M F f g)) :=
  weakT (pt_cmpR ho ha hb hm) fun σ H Q h => op2_runM hF σ H _ (asB_runM h)
theorem mb_val {e : Expr} {f : MoM Vl} (h : MD X n W e f) (he : ∀ whole, isTrue e X.env whole = (do let v ← whole; standAt e.pos; holding [v] (truthy v)) := by intro _; rfl) : MB X n W e (asBM f) := weakT (pt_val h he) fun σ H Q h => asB_runM h
@[simp] def bNotM (f : MoM Bool) : MoM Bool := fun s => (f s).bind fun b s1 => .ok (!b) s1
@[simp] def bAndM (f g : MoM Bool) : MoM Bool := fun s => (f s).bind fun b s1 => if b = true then g s1 else .ok false s1
@[simp] def bOrM (f g : MoM Bool) : MoM Bool := fun s => (f s).bind fun b s1 => if b = true then .ok true s1 else g s1
theorem mb_not {a : Expr} {pos : Pos} {f : MoM Bool} (h : MB X n W a f) : MB X n W (.UnaryOp .Not a pos) (bNotM f) := weakT (pt_not h) fun σ H Q ⟨α, s, G, h⟩ => ⟨α, s, G, (AftM.bind G h).mono fun b s1 α1 H1 st1 h1 => AftM.ok st1.good h1⟩
abbrev MWb (X : Cx) (n : Nat) (W : XW) (e : Expr) (m : MoM Bool) : Prop := PW X e (tXbM X.K n W m)
theorem and_runM {f g : MoM Bool} {σ : St} {H : Hp} {Q : Bool → Hp → Prop} (h : tXbM X.K n W (bAndM f g) σ H Q) : tAnd (tXbM X.K n W f) (tXbM X.K n W g) σ H Q := by
  obtain ⟨α, s, G, h⟩ := h
  refine ⟨α, s, G, (AftM.bind G h).mono fun b s1 α1 H1 st1 h1 => ?_⟩
  cases b with
  | true => exact iteT ⟨α1, s1, st1.good, h1⟩
  | false => exact iteF (AftM.ok st1.good h1)
theorem or_runM {f g : MoM Bool} {σ : St} {H : Hp} {Q : Bool → Hp → Prop} (h : tXbM X.K n W (bOrM f g) σ H Q) : tOr (tXbM X.K n W f) (tXbM X.K n W g) σ H Q := by
  obtain ⟨α, s, G, h⟩ := h
  refine ⟨α, s, G, (AftM.bind G h).mono fun b s1 α1 H1 st1 h1 => ?_⟩
  cases b with
  | true => exact iteT (AftM.ok st1.good h1)
  | false => exact iteF ⟨α1, s1, st1.good, h1⟩
theorem mw_and1 {a : Expr} {pos : Pos} {f : MoM Bool} (h : MB X n W a f) : MWb X n W (.BoolOp .And [a] pos) f := pw_and1 h
theorem mw_or1 {a : Expr} {pos : Pos} {f : MoM Bool} (h : MB X n W a f) : MWb X n W (.BoolOp .Or [a] pos) f := pw_or1 h
theorem mw_and {a b : Expr} {rest : List Expr} {pos : Pos} {f g : MoM Bool} (ha : MB X n W a f) (hb : MWb X n W (.BoolOp .And (b :: rest) pos) g) : MWb X n W (.BoolOp .And (a :: b :: rest) pos) (bAndM f g) := weakW (pw_and ha hb) fun _ _ _ h => and_runM h
theorem mw_or {a b : Expr} {rest : List Expr} {pos : Pos} {f g : MoM Bool} (ha : MB X n W a f) (hb : MWb X n W (.BoolOp .Or (b :: rest) pos) g) : MWb X n W (.BoolOp .Or (a :: b :: rest) pos) (bOrM f g) := weakW (pw_or ha hb) fun _ _ _ h => or_runM h
@[simp] def eIfM (c : MoM Bool) (f g : MoM Vl) : MoM Vl := fun s => (c s).bind fun b s1 => if b = true then f s1 else g s1
@[simp] def eAndM (f g : MoM Vl) : MoM Vl := fun s => (f s).bind fun r s1 => match lookM s1.μ r with
  | some (.bool b) => if b = true then g s1 else .ok (.d (.bool false)) s1
  | _ => .no
@[simp] def eOrM (f g : MoM Vl) : MoM Vl := fun s => (f s).bind fun r s1 => match lookM s1.μ r with
  | some (.bool b) => if b = true then .ok (.d (.bool true)) s1 else g s1
  | _ => .no
theorem md_and {a b : Expr} {rest : List Expr} {pos : Pos} {f g : MoM Vl} (ha : MD X n W a f) (hb : MD X n W (.BoolOp .And (b :: rest) pos) g) : MD X n W (.BoolOp .And (a :: b :: rest) pos) (eAndM f g) := weakE (pe_and ha hb) fun σ H Q ⟨α, s, G, h⟩ => by
  refine ⟨α, s, G, (AftM.bind G h).mono fun r s1 α1 H1 st1 h1 v rv => ?_⟩
  split at h1
  · next b e =>
    refine ⟨b, (rv.see st1.good e).bl, ?_⟩
    cases b with
    | true => exact iteT ⟨α1, s1, st1.good, h1⟩
    | false => exact iteF (AftM.ok st1.good h1 _ (.d (.bl false)))
  · exact h1.elim
theorem md_one {a : Expr} {op} {pos : Pos} {f : MoM Vl} (h : MD X n W a f) : MD X n W (.BoolOp op [a] pos) f := pe_one h
/-! ### tuples, lists -/
@[simp] def eTupM (m : MoM (List Vl)) : MoM Vl := fun s => (m s).bind fun xs s1 => liftM ((datsM xs).bind fun ds => (short ds).map .tuple) s1
@[simp] def fLstM (m : MoM (List Vl)) : MoM Oc := fun s => (m s).bind fun xs s1 => if xs.length ≤ 1000 then .ok (.lst xs) s1 else .no
theorem mf_lst {es : List Expr} {pos : Pos} {m : MoM (List Vl)} (h : MA X n W es m) : MF X n W (.List es pos) (fLstM m) := weakE (pe_lst h) fun σ H Q ⟨α, s, G, h⟩ => by
  refine ⟨α, s, G, (AftM.bind G h).mono fun xs s1 α1 H1 st1 h1 vs rvs => ?_⟩
  split at h1
  · next le =>
    refine ⟨by rw [rvs.len]; exact Nat.le_trans le (by decide), fun p hp => ?_⟩
    have s2 := StpM.same (n := n) st1.good (same_upd (o := .lst vs) hp)
    exact h1 _ α1 s2 p (st1.live p hp) (st1.good.fresh hp) ⟨vs, upd_same, rvs.on s2 st1.good⟩ (fun z => nomatch z)
  · exact h1.elim
end
end Q
namespace Q
open PySem PySem.Spec PyProof.Rows L2 Gd
variable [Tbl]
/-! ### statements of the layer of objects -/
inductive OutM
  | nx
  | bk
  | ct
  | rt (r : Vl)
def AftSM (K : PySem.W.Frag) (n : Nat) (W : XW) (E : Ends) (H : Hp) (σ : St) (α : List Addr) (s : Ms) (r : RtM OutM) : Prop := match r with
  | .no => False
  | .ok .nx s' => ∀ σ' H' α', StpM K n H σ α s H' σ' α' s' → E.nx σ' H'
  | .ok .bk s' => ∀ σ' H' α', StpM K n H σ α s H' σ' α' s' → E.bk σ' H'
  | .ok .ct s' => ∀ σ' H' α', StpM K n H σ α s H' σ' α' s' → E.ct σ' H'
  | .ok (.rt x) s' => ∀ v σ' H' α', StpM K n H σ α s H' σ' α' s' → RV K H' α' v x → E.rt v H'
  | .ex c d s' => ∀ σ' H' α', StpM K n H σ α s H' σ' α' s' → W c d σ' H'
def tSM (K : PySem.W.Frag) (n : Nat) (W : XW) (m : MoM OutM) : TS := fun E σ H => ∃ α s, GoodM K H σ α s ∧ AftSM K n W E H σ α s (m s)
abbrev MS (X : Cx) (n : Nat) (W : XW) (st : Stmt) (m : MoM OutM) : Prop := PS X st (tSM X.K n W m)
abbrev MSs (X : Cx) (n : Nat) (W : XW) (st : List Stmt) (m : MoM OutM) : Prop := PSs X st (tSM X.K n W m)
section
variable {K : PySem.W.Frag} {n : Nat} {W : XW} {E : Ends} {H H1 H' : Hp} {σ σ1 σ' : St} {α α1 α' : List Addr} {s s1 s' : Ms}
theorem AftSM.on {r : RtM OutM} (st : StpM K n H σ α s H1 σ1 α1 s1) (G : GoodM K H σ α s) (h : AftSM K n W E H σ α s r) : AftSM K n W E H1 σ1 α1 s1 r := by
  cases r with
  | no => exact h
  | ex c d s' => exact fun σ' H' α' st' => h σ' H' α' (st.trans st' G)
  | ok o s' => cases o with
    | nx => exact fun σ' H' α' st' => h σ' H' α' (st.trans st' G)
    | bk => exact fun σ' H' α' st' => h σ' H' α' (st.trans st' G)
    | ct => exact fun σ' H' α' st' => h σ' H' α' (st.trans st' G)
    | rt x => exact fun v σ' H' α' st' => h v σ' H' α' (st.trans st' G)
theorem AftSM.bind {β : Type} (G : GoodM K H σ α s) {m : RtM β} {k : β → Ms → RtM OutM} (h : AftSM K n W E H σ α s (m.bind k)) : AftM K n W H σ α s m fun a s1 α1 H1 => AftSM K n W E H1 σ α1 s1 (k a s1) := by
  cases m with
  | no => exact h
  | ok a s1 => exact fun H1 α1 st => AftSM.on st G h
  | ex c d s1 => exact fun H1 α1 st => h σ H1 α1 st
theorem AftSM.bind' {β : Type} {m : RtM β} {k : β → Ms → RtM OutM} (st : StpM K n H σ α s H1 σ1 α1 s1) (G : GoodM K H σ α s) (h : AftSM K n W E H σ α s (m.bind k)) : AftM K n W H1 σ1 α1 s1 m fun a s2 _ _ => AftSM K n W E H σ α s (k a s2) := by
  cases m with
  | no => exact h
  | ok a s2 => exact fun H2 α2 st2 => h
  | ex c d s2 => exact fun H2 α2 st2 => h σ1 H2 α2 (st.trans st2 G)
/-- a thing of the store is changed -/
theorem StpM.write (G : GoodM K H σ α s) {i : Nat} {a : Addr} {c c' : Oc} {h' : HO} (ea : α[i]? = some a) (em : s.μ[i]? = some c) (ng : c ≠ .gone) (ng' : c' ≠ .gone) (r' : Grow H (upd H a h') → OcR K (upd H a h') α a c') : StpM K n H σ α s (upd H a h') σ α ⟨s.ρ, s.μ.set i c'⟩ := by
  obtain ⟨u, eu, nt, n1, n2, n3⟩ := (G.obj i a c ea em).mut ng
  have lm : i < s.μ.length := (List.getElem?_eq_some_iff.mp em).1
  have out : ∀ {b : Addr} {o : HO}, H b = some o → o ≠ u → upd H a h' b = some o := fun {b o} e ne => by
    rw [upd_ne fun z => ?_]
    · exact e
    · rw [z, eu] at e
      exact ne (Option.some.inj e).symm
  have g : Grow H (upd H a h') := ⟨fun b xs e => out e fun z => n1 _ z.symm, fun b o w e => out e fun z => n2 _ _ z.symm, fun b fs e => out e fun z => n3 _ z.symm, fun b q e => out e fun z => noTab_code nt q z.symm⟩
  have uniq : ∀ {j : Nat}, α[j]? = some a → j = i := fun {j} e => by
    have l1 := (List.getElem?_eq_some_iff.mp e)
    have l2 := (List.getElem?_eq_some_iff.mp ea)
    exact (List.getElem_inj G.nd).mp (l1.2.trans l2.2.symm)
  have tb : TabOk (upd H a h') := G.tab.updX eu (by
    cases u <;> first | trivial | (exact absurd rfl (n1 _)) | (exact absurd rfl (n2 _ _)) | (exact absurd rfl (n3 _)) | skip
    all_goals (have z := (G.obj i a c ea em); revert z; cases c <;> simp_all [OcR])) (fun ps z => by
    rw [z] at nt
    exact nt) (noTab_code nt)
  refine ⟨⟨G.len, fun j x e => ?_, fun j c f d e => (G.exc j c f d e).elim fun a h => ⟨a, h.1, h.2.grow g⟩, by rw [List.length_set]; exact G.la, fun j b c2 e1 e2 => ?_, G.nd, tb⟩, fun _ _ => rfl, ⟨[], (List.append_nil _).symm⟩, fun b o e nb _ => ?_, live_upd eu, fun j b l e => absurd (List.getElem?_eq_some_iff.mp e).1 (Nat.not_lt.mpr l), fun j e => ?_⟩
  · obtain ⟨v, h1, h2⟩ := G.val j x e
    have := h2.ext (β := []) g
    rw [List.append_nil] at this
    exact ⟨v, h1, this⟩
  · have e2 : (s.μ.set i c')[j]? = some c2 := e2
    by_cases z : i = j
    · subst z
      rw [set_at lm] at e2
      cases e2
      rw [ea] at e1
      cases e1
      exact r' g
    · rw [set_ne z] at e2
      have ba : b ≠ a := fun y => by
        rw [y] at e1
        exact z (uniq e1).symm
      have := (G.obj j b c2 e1 e2).ext (β := []) g fun o ho => ⟨o, by rw [upd_ne ba]; exact ho, fun _ => rfl⟩
      rw [List.append_nil] at this
      exact this
  · rw [upd_ne fun z => nb ⟨i, c, by rw [z]; exact ea, em, ng⟩]
    exact e
  · show (s.μ.set i c')[j]? = _
    by_cases z : i = j
    · subst z
      rw [em] at e
      exact absurd (Option.some.inj e) ng
    · rw [set_ne z]
      exact e
/-- a slot is filled -/
theorem StpM.set (st : StpM K n H σ α s H' σ' α' s') {i : Nat} (hn : n ≤ i) (hi : i < s'.ρ.length) {v : V} {x : Vl} (h : RV K H' α' v x) : StpM K n H σ α s H' (σ'.set i (some v)) α' ⟨s'.ρ.set i (.v x), s'.μ⟩ := by
  have G := st.good
  have his : i < σ'.length := by rw [G.len]; exact hi
  refine ⟨⟨by rw [List.length_set, List.length_set, G.len], fun j y e => ?_, fun j c f d e => ?_, G.la, G.obj, G.nd, G.tab⟩, fun j hj => ?_, st.ext, st.kept, st.live, st.news, st.gone⟩
  · have e : (s'.ρ.set i (.v x))[j]? = some (.v y) := e
    by_cases z : i = j
    · subst z
      rw [set_at hi] at e
      cases e
      exact ⟨v, set_at his, h⟩
    · rw [set_ne z] at e ⊢
      exact G.val j y e
  · have e : (s'.ρ.set i (.v x))[j]? = some (.exc c f d) := e
    by_cases z : i = j
    · subst z
      rw [set_at hi] at e
      cases e
    · rw [set_ne z] at e ⊢
      exact G.exc j c f d e
  · have ne : i ≠ j := by omega
    rw [set_ne ne]
    exact st.par j hj
end
section
variable {X : Cx} {n : Nat} {W : XW}
@[simp] def mNil : MoM OutM := fun s => .ok .nx s
@[simp] def mSeq (f g : MoM OutM) : MoM OutM := fun s => (f s).bind fun o s1 => match o with
  | .nx => g s1
  | o => .ok o s1
theorem mss_nil : MSs X n W [] mNil := weakSs pss_nil fun E σ H ⟨α, s, G, h⟩ => h σ H α (StpM.refl G)
theorem seq_runM {f g : MoM OutM} {E : Ends} {σ : St} {H : Hp} (h : tSM X.K n W (mSeq f g) E σ H) : tSeq (tSM X.K n W f) (tSM X.K n W g) E σ H := by
  obtain ⟨α, s, G, h⟩ := h
  refine ⟨α, s, G, ?_⟩
  unfold mSeq at h
  generalize f s = r at h
  cases r with
  | no => exact h
  | ex c d s' => exact h
  | ok o s' => cases o with
    | nx => exact fun σ' H' α' st => ⟨α', s', st.good, AftSM.on st G h⟩
    | bk => exact h
    | ct => exact h
    | rt r => exact h
theorem mss_cons {st : Stmt} {rest : List Stmt} {f g : MoM OutM} (h1 : MS X n W st f) (h2 : MSs X n W rest g) : MSs X n W (st :: rest) (mSeq f g) := weakSs (pss_cons h1 h2) fun _ _ _ h => seq_runM h
def mBrk : MoM OutM := fun s => .ok .bk s
def mCnt : MoM OutM := fun s => .ok .ct s
@[simp] def mEx (f : MoM Vl) : MoM OutM := fun s => (f s).bind fun _ s1 => .ok .nx s1
theorem ms_expr {e : Expr} {pos : Pos} {f : MoM Vl} (he : MD X n W e f) (hs : swapsWith e none pos.line X.env = pure false := by rfl) : MS X n W (.Expr e pos) (mEx f) := weakS (ps_expr he hs) fun E σ H ⟨α, s, G, h⟩ =>
  ⟨α, s, G, (AftSM.bind G h).mono fun a s1 α1 H1 st h1 v rv => h1 σ H1 α1 (StpM.refl st.good)⟩
@[simp] def mRet (f : MoM Vl) : MoM OutM := fun s => (f s).bind fun x s1 => .ok (.rt x) s1
theorem ms_ret {e : Expr} {pos : Pos} {f : MoM Vl} (he : MD X n W e f) : MS X n W (.Return (some e) pos) (mRet f) := weakS (ps_ret he) fun E σ H ⟨α, s, G, h⟩ =>
  ⟨α, s, G, (AftSM.bind G h).mono fun a s1 α1 H1 st h1 v rv => h1 v σ H1 α1 (StpM.refl st.good) rv⟩
@[simp] def mIf (c : MoM Bool) (f g : MoM OutM) : MoM OutM := fun s => (c s).bind fun b s1 => if b = true then f s1 else g s1
theorem ms_if {c : Expr} {a b : List Stmt} {pos : Pos} {fc : MoM Bool} {f g : MoM OutM} (hc : MB X n W c fc) (ha : MSs X n W a f) (hb : MSs X n W b g) : MS X n W (.If c a b pos) (mIf fc f g) := weakS (ps_if hc ha hb) fun E σ H ⟨α, s, G, h⟩ => by
  refine ⟨α, s, G, (AftSM.bind G h).mono fun k s1 α1 H1 st h1 => ?_⟩
  cases k with
  | true => exact iteT ⟨α1, s1, st.good, h1⟩
  | false => exact iteF ⟨α1, s1, st.good, h1⟩
/-! ### stores -/
@[simp] def putM (i : Nat) (x : Vl) (s : Ms) : RtM OutM := if i < s.ρ.length then .ok .nx ⟨s.ρ.set i (.v x), s.μ⟩ else .no
@[simp] def mSet (i : Nat) (f : MoM Vl) : MoM OutM := fun s => (f s).bind fun x s1 => putM i x s1
theorem putM_aft {K : PySem.W.Frag} {E : Ends} {H : Hp} {σ : St} {α : List Addr} {s s1 : Ms} {i : Nat} {x : Vl} (h : AftSM K n W E H σ α s (putM i x s1)) : i < s1.ρ.length ∧ ∀ σ' H' α', StpM K n H σ α s H' σ' α' ⟨s1.ρ.set i (.v x), s1.μ⟩ → E.nx σ' H' := by
  unfold putM at h
  split at h
  · next le => exact ⟨le, h⟩
  · exact h.elim
theorem ms_set {i : Nat} {x : Str} {e : Expr} {pos pos' : Pos} {f : MoM Vl} (hn : n ≤ i) (hN : X.N.Nodup) (hi : X.N[i]? = some x) (hx : Loc X.env.scope x) (he : MD X n W e f) (hs : swapsWith e (some (.Name x pos')) pos.line X.env = pure false := by rfl) (hf : X.fn x = true ∨ X.env.scope.names.lookup x = some .local := by first | exact .inl rfl | exact .inr rfl | assumption) :
    MS X n W (.Assign [.Name x pos'] e pos) (mSet i f) := weakS (ps_set hN hi hx he hs hf) fun E σ H ⟨α, s, G, h⟩ => by
  refine ⟨α, s, G, (AftSM.bind G h).mono fun r s1 α1 H1 st h1 v rv => ?_⟩
  obtain ⟨le, q⟩ := putM_aft h1
  exact q _ _ _ ((StpM.refl st.good).set hn le rv)
/-! ### fields -/
theorem RVk.look {K : PySem.W.Frag} {H : Hp} {α : List Addr} {f : Str} : ∀ {gs : List (Str × V)} {fs : List (Str × Vl)}, RVk K H α gs fs → (∀ x, fs.lookup f = some x → ∃ v, gs.lookup f = some v ∧ RV K H α v x) ∧ (fs.lookup f = none → gs.lookup f = none)
  | _, _, .nil => ⟨(fun x e => nomatch e), fun _ => rfl⟩
  | _, _, .cons (k := k) (v := v) (vs := vs) (x := x) (xs := xs) h r => by
    obtain ⟨i1, i2⟩ := RVk.look (f := f) r
    rw [List.lookup_cons, List.lookup_cons]
    cases f == k with
    | true =>
      exact ⟨fun y e => by
        cases e
        exact ⟨v, rfl, h⟩, fun e => nomatch e⟩
    | false => exact ⟨i1, i2⟩
@[simp] def eFldM (c f : Str) (m : MoM Vl) : MoM Vl := fun s => (m s).bind fun x s1 => match x with
  | .o i => match s1.μ[i]? with
    | some (.ins c' fs) => if c' = c then match fs.lookup f with
        | some y => .ok y s1
        | none => .no
      else .no
    | _ => .no
  | .d _ => .no
/-- what the program's class c at C is known for -/
structure ClsT (K : PySem.W.Frag) (c : Str) (C : Addr) (fs : List Str) : Prop where
  nC : PySem.W.nsIn K mainGlobals c = some (some (.ref C))
  cl : Cls K C
  nf : ∀ f ∈ fs, NoAttr K C f
theorem ClsT.uniq {K : PySem.W.Frag} {c : Str} {C D : Addr} {fs : List Str} (T : ClsT K c C fs) (e : PySem.W.nsIn K mainGlobals c = some (some (.ref D))) : D = C := by
  have := T.nC
  rw [e] at this
  injection this with this
  injection this with this
  injection this
theorem md_fld {c f : Str} {C : Addr} {fs : List Str} {e : Expr} {pos : Pos} {m : MoM Vl} (T : ClsT X.K c C fs) (hf : f ∈ fs) (he : MD X n W e m) (hb : attributeBase e f X.env (eval e X.env) = eval e X.env := by rfl) : MD X n W (.Attribute e f pos) (eFldM c f m) := weakE (pe_fld he hb) fun σ H Q ⟨α, s, G, h⟩ => by
  refine ⟨α, s, G, (AftM.bind G h).mono fun x s1 α1 H1 st h1 v rv => ?_⟩
  cases rv with
  | d _ => exact h1.elim
  | @o a i ea =>
    dsimp only at h1
    cases ec : s1.μ[i]? with
    | none =>
      rw [ec] at h1
      exact h1.elim
    | some oc =>
      rw [ec] at h1
      cases oc with
      | ins c' gs =>
        dsimp only at h1
        split at h1
        · next q =>
          subst q
          obtain ⟨C', dx, vs, e1, nc, r⟩ := st.good.obj i a _ ea ec
          have := T.uniq nc
          subst this
          cases el : gs.lookup f with
          | none =>
            rw [el] at h1
            exact h1.elim
          | some y =>
            rw [el] at h1
            obtain ⟨w, ew, rw'⟩ := r.look.1 y el
            exact ⟨a, C', dx, vs, w, rfl, e1, T.cl, T.nf f hf, ew, AftM.ok st.good h1 w rw'⟩
        · exact h1.elim
      | _ => exact h1.elim
def putFM (f : Str) (v : Vl) : List (Str × Vl) → List (Str × Vl)
  | [] => [(f, v)]
  | (g, x) :: r => if g = f then (g, v) :: r else (g, x) :: putFM f v r
theorem RVk.putF {K : PySem.W.Frag} {H : Hp} {α : List Addr} {f : Str} {v : V} {x : Vl} (h : RV K H α v x) : ∀ {gs : List (Str × V)} {fs : List (Str × Vl)}, RVk K H α gs fs → RVk K H α (L2.putF f v gs) (putFM f x fs)
  | _, _, .nil => .cons h .nil
  | _, _, .cons (k := k) h2 r => by
    unfold L2.putF putFM
    by_cases e : k = f
    · rw [if_pos e, if_pos e]
      exact .cons h r
    · rw [if_neg e, if_neg e]
      exact .cons h2 (RVk.putF h r)
@[simp] def mFld (c f : Str) (mv mo : MoM Vl) : MoM OutM := fun s => (mv s).bind fun y s1 => (mo s1).bind fun x s2 => match x with
  | .o i => match s2.μ[i]? with
    | some (.ins c' fs) => if c' = c ∧ fs.length < 1000 then .ok .nx ⟨s2.ρ, s2.μ.set i (.ins c' (putFM f y fs))⟩ else .no
    | _ => .no
  | .d _ => .no
theorem ms_fld {c f : Str} {C : Addr} {fs : List Str} {e o : Expr} {pos pos' : Pos} {mv mo : MoM Vl} (T : ClsT X.K c C fs) (hf : f ∈ fs) (ho : MD X n W o mo) (hv : MD X n W e mv) (hs : swapsWith e (some (.Attribute o f pos')) pos.line X.env = pure false := by rfl) : MS X n W (.Assign [.Attribute o f pos'] e pos) (mFld c f mv mo) := weakS (ps_fld ho hv hs) fun E σ H ⟨α, s, G, h⟩ => by
  refine ⟨α, s, G, (AftSM.bind G h).mono fun y s1 α1 H1 st1 h1 v rv => ⟨α1, s1, st1.good, (AftSM.bind st1.good h1).mono fun x s2 α2 H2 st2 h2 w rw' => ?_⟩⟩
  have rv2 := rv.on st2 st1.good
  cases rw' with
  | d _ => exact h2.elim
  | @o a i ea =>
    dsimp only at h2
    cases ec : s2.μ[i]? with
    | none =>
      rw [ec] at h2
      exact h2.elim
    | some oc =>
      rw [ec] at h2
      cases oc with
      | ins c' gs =>
        dsimp only at h2
        split at h2
        · next q =>
          obtain ⟨q, ql⟩ := q
          subst q
          obtain ⟨C', dx, vs, e1, nc, r⟩ := st2.good.obj i a _ ea ec
          have := T.uniq nc
          subst this
          refine ⟨a, C', dx, vs, rfl, e1, T.cl, T.nf f hf, by rw [r.len]; exact ql, ?_⟩
          refine h2 σ _ α2 (StpM.write (n := n) st2.good ea ec (fun z => nomatch z) (fun z => nomatch z) fun g => ⟨C', dx, _, upd_same, nc, ?_⟩)
          have a1 := rv2.ext (β := []) g
          have a2 := r.ext (β := []) g
          rw [List.append_nil] at a1 a2
          exact a2.putF a1
        · exact h2.elim
      | _ => exact h2.elim
/-! ### items -/
theorem RVk.val {K : PySem.W.Frag} {H : Hp} {α : List Addr} {k : Key} : ∀ {gs : List (Key × V)} {fs : List (Key × Vl)}, RVk K H α gs fs → (∀ x, (fs.find? fun q => decide (q.1 = k)).map (·.2) = some x → ∃ v, valV gs k = some v ∧ RV K H α v x) ∧ ((fs.find? fun q => decide (q.1 = k)).map (·.2)).isSome = (valV gs k).isSome
  | _, _, .nil => ⟨(fun x e => nomatch e), rfl⟩
  | _, _, .cons (k := k1) (v := v) (vs := vs) (x := x) (xs := xs) h r => by
    obtain ⟨i1, i2⟩ := RVk.val (k := k) r
    by_cases e : k1 = k
    · rw [valV_pos e]
      rw [List.find?_cons]
      simp only [e, decide_true]
      exact ⟨fun y q => by
        cases q
        exact ⟨v, rfl, h⟩, rfl⟩
    · rw [valV_neg e]
      rw [List.find?_cons]
      simp only [e, decide_false]
      exact ⟨i1, i2⟩
def valM (kvs : List (Key × Vl)) (k : Key) : Option Vl := (kvs.find? fun q => decide (q.1 = k)).map (·.2)
def putKM (kvs : List (Key × Vl)) (k : Key) (v : Vl) : List (Key × Vl) := if (kvs.any fun kv => decide (kv.1 = k)) = true then kvs.map (fun kv => if kv.1 = k then (kv.1, v) else kv) else kvs ++ [(k, v)]
def dropKM (kvs : List (Key × Vl)) (k : Key) : List (Key × Vl) := kvs.filter fun kv => decide (kv.1 ≠ k)
theorem RVk.drop {K : PySem.W.Frag} {H : Hp} {α : List Addr} {k : Key} : ∀ {gs : List (Key × V)} {fs : List (Key × Vl)}, RVk K H α gs fs → RVk K H α (dropK gs k) (dropKM fs k)
  | _, _, .nil => .nil
  | _, _, .cons (k := k1) h r => by
    unfold dropK dropKM
    rw [List.filter_cons, List.filter_cons]
    have ih := RVk.drop (k := k) r
    by_cases e : k1 = k
    · simp only [e, ne_eq, not_true, decide_false]
      exact ih
    · simp only [e, ne_eq, not_false_eq_true, decide_true]
      exact .cons h ih
theorem RVk.any {K : PySem.W.Frag} {H : Hp} {α : List Addr} {k : Key} : ∀ {gs : List (Key × V)} {fs : List (Key × Vl)}, RVk K H α gs fs → (gs.any fun kv => decide (kv.1 = k)) = fs.any fun kv => decide (kv.1 = k)
  | _, _, .nil => rfl
  | _, _, .cons h r => by
    rw [List.any_cons, List.any_cons, RVk.any r]
theorem RVk.mapP {K : PySem.W.Frag} {H : Hp} {α : List Addr} {k : Key} {v : V} {x : Vl} (h : RV K H α v x) : ∀ {gs : List (Key × V)} {fs : List (Key × Vl)}, RVk K H α gs fs → RVk K H α (gs.map fun kv => if kv.1 = k then (kv.1, v) else kv) (fs.map fun kv => if kv.1 = k then (kv.1, x) else kv)
  | _, _, .nil => .nil
  | _, _, .cons (k := k1) h2 r => by
    rw [List.map_cons, List.map_cons]
    by_cases e : k1 = k
    · rw [if_pos e, if_pos e]
      exact .cons h (RVk.mapP h r)
    · rw [if_neg e, if_neg e]
      exact .cons h2 (RVk.mapP h r)
theorem RVk.append {K : PySem.W.Frag} {H : Hp} {α : List Addr} : ∀ {gs hs : List (Key × V)} {fs ys : List (Key × Vl)}, RVk K H α gs fs → RVk K H α hs ys → RVk K H α (gs ++ hs) (fs ++ ys)
  | _, _, _, _, .nil, h => h
  | _, _, _, _, .cons h r, h2 => .cons h (RVk.append r h2)
theorem RVk.put {K : PySem.W.Frag} {H : Hp} {α : List Addr} {k : Key} {v : V} {x : Vl} (h : RV K H α v x) {gs : List (Key × V)} {fs : List (Key × Vl)} (r : RVk K H α gs fs) : RVk K H α (putK gs k v) (putKM fs k x) := by
  unfold putK putKM
  rw [r.any]
  split
  · exact RVk.mapP h r
  · exact r.append (.cons h .nil)
/-- d[k], d a dict of the store -/
@[simp] def eGetM (f g : MoM Vl) : MoM Vl := fun s => (f s).bind fun x s1 => (g s1).bind fun y s2 => match x with
  | .o i => match s2.μ[i]?, (lookM s2.μ y).bind keyOf with
    | some (.dk kvs), some k => match valM kvs k with
      | some z => .ok z s2
      | none => .no
    | _, _ => .no
  | .d _ => .no
theorem md_get {a b : Expr} {pos : Pos} {f g : MoM Vl} (hu : X.A.units + 65 < cLine) (ha : MD X n W a f) (hb : MD X n W b g) (hs : NoSl b) : MD X n W (.Subscript a b pos) (eGetM f g) := weakE (pe_dget (Nat.lt_of_le_of_lt (Nat.add_le_add_left (by decide) _) hu) ha hb hs) fun σ H Q ⟨α, s, G, h⟩ => by
  refine ⟨α, s, G, (AftM.bind G h).mono fun x s1 α1 H1 st1 h1 v rv => ⟨α1, s1, st1.good, (AftM.bind st1.good h1).mono fun y s2 α2 H2 st2 h2 w rw' => ?_⟩⟩
  have rv2 := rv.on st2 st1.good
  cases rv2 with
  | d _ => exact h2.elim
  | @o p i ea =>
    dsimp only at h2
    split at h2
    · next kvs k ec ek =>
      obtain ⟨dy, ed, ek⟩ := Option.bind_eq_some_iff.mp ek
      obtain ⟨ks, e1, r⟩ := st2.good.obj i p _ ea ec
      have ew := key_of_vw (rw'.see st2.good ed) ek
      cases ez : valM kvs k with
      | none =>
        rw [ez] at h2
        exact h2.elim
      | some z =>
        rw [ez] at h2
        obtain ⟨u, eu, ru⟩ := r.val.1 z ez
        refine ⟨p, u, rfl, ?_, AftM.ok st2.good h2 u ru⟩
        rw [ew, ← eu]
        exact DGet.k e1
    · exact h2.elim
/-- d[k] = e -/
@[simp] def mPutK (mv mo mk : MoM Vl) : MoM OutM := fun s => (mv s).bind fun z s1 => (mo s1).bind fun x s2 => (mk s2).bind fun y s3 => match x with
  | .o i => match s3.μ[i]?, (lookM s3.μ y).bind keyOf with
    | some (.dk kvs), some k => if kvs.length < 1000000 then .ok .nx ⟨s3.ρ, s3.μ.set i (.dk (putKM kvs k z))⟩ else .no
    | _, _ => .no
  | .d _ => .no
theorem ms_putk {e o j : Expr} {p2 pos : Pos} {mv mo mk : MoM Vl} (hu : X.A.units + 65 < cLine) (ho : MD X n W o mo) (he : MD X n W e mv) (hj : MD X n W j mk)
    (hs : swapsWith e (some (.Subscript o j p2)) pos.line X.env = pure false := by rfl) : MS X n W (.Assign [.Subscript o j p2] e pos) (mPutK mv mo mk) := weakS (ps_dput (by omega) ho hj he hs) fun E σ H ⟨α, s, G, h⟩ => by
  refine ⟨α, s, G, (AftSM.bind G h).mono fun z s1 α1 H1 st1 h1 v rv => ⟨α1, s1, st1.good, (AftSM.bind st1.good h1).mono fun x s2 α2 H2 st2 h2 w rw' => ⟨α2, s2, st2.good, (AftSM.bind st2.good h2).mono fun y s3 α3 H3 st3 h3 u ru => ?_⟩⟩⟩
  have rv3 := (rv.on st2 st1.good).on st3 st2.good
  have rw3 := rw'.on st3 st2.good
  cases rw3 with
  | d _ => exact h3.elim
  | @o p i ea =>
    dsimp only at h3
    split at h3
    · next kvs k ec ek =>
      split at h3
      · next lt =>
        obtain ⟨dy, ed, ek⟩ := Option.bind_eq_some_iff.mp ek
        obtain ⟨ks, e1, r⟩ := st3.good.obj i p _ ea ec
        have ew := key_of_vw (ru.see st3.good ed) ek
        subst ew
        refine ⟨p, _, rfl, DPut.k (k := k) e1 (by rw [r.len]; exact Nat.lt_of_lt_of_le lt (by decide)), ?_⟩
        refine h3 σ _ α3 (StpM.write (n := n) st3.good ea ec (fun z => nomatch z) (fun z => nomatch z) fun g => ⟨_, upd_same, ?_⟩)
        have a1 := rv3.ext (β := []) g
        have a2 := r.ext (β := []) g
        rw [List.append_nil] at a1 a2
        exact a2.put a1
      · exact h3.elim
    · exact h3.elim
/-- del d[k] -/
@[simp] def mDelK (mo mk : MoM Vl) : MoM OutM := fun s => (mo s).bind fun x s1 => (mk s1).bind fun y s2 => match x with
  | .o i => match s2.μ[i]?, (lookM s2.μ y).bind keyOf with
    | some (.dk kvs), some k => if (valM kvs k).isSome = true then .ok .nx ⟨s2.ρ, s2.μ.set i (.dk (dropKM kvs k))⟩ else .no
    | _, _ => .no
  | .d _ => .no
theorem ms_delk {o j : Expr} {p2 pos : Pos} {mo mk : MoM Vl} (ho : MD X n W o mo) (hj : MD X n W j mk) : MS X n W (.Delete [.Subscript o j p2] pos) (mDelK mo mk) := weakS (ps_ddel ho hj) fun E σ H ⟨α, s, G, h⟩ => by
  refine ⟨α, s, G, (AftSM.bind G h).mono fun x s1 α1 H1 st1 h1 v rv => ⟨α1, s1, st1.good, (AftSM.bind st1.good h1).mono fun y s2 α2 H2 st2 h2 u ru => ?_⟩⟩
  have rv2 := rv.on st2 st1.good
  cases rv2 with
  | d _ => exact h2.elim
  | @o p i ea =>
    dsimp only at h2
    split at h2
    · next kvs k ec ek =>
      split at h2
      · next lt =>
        obtain ⟨dy, ed, ek⟩ := Option.bind_eq_some_iff.mp ek
        obtain ⟨ks, e1, r⟩ := st2.good.obj i p _ ea ec
        have ew := key_of_vw (ru.see st2.good ed) ek
        refine ⟨p, ks, k, rfl, e1, ew, by rw [← r.val.2]; exact lt, ?_⟩
        refine h2 σ _ α2 (StpM.write (n := n) st2.good ea ec (fun z => nomatch z) (fun z => nomatch z) fun g => ⟨_, upd_same, ?_⟩)
        have a2 := r.ext (β := []) g
        rw [List.append_nil] at a2
        exact a2.drop
      · exact h2.elim
    · exact h2.elim
end
end Q
namespace Q
open PySem PySem.Spec PyProof.Rows L2 Gd
variable [Tbl]
/-! ### defs and calls in the layer of objects -/
abbrev FnM := List Vl → List Oc → RtM Vl
def OutMX (K : PySem.W.Frag) (H : Hp) (α : List Addr) (μ : List Oc) (r : RtM Vl) (Q : VK) (E : L2.XK) : Prop := match r with
  | .no => False
  | .ok x s' => ∀ v H' α', StpM K 0 H [] α ⟨[], μ⟩ H' [] α' ⟨[], s'.μ⟩ → RV K H' α' v x → Q v H'
  | .ex c d s' => ∀ H' α', StpM K 0 H [] α ⟨[], μ⟩ H' [] α' ⟨[], s'.μ⟩ → wE K (fun cls dd _ H => E cls dd H) c d [] H'
def spM (K : PySem.W.Frag) (F : FnM) : Sp := fun vs H Q E => ∃ α μ xs, GoodM K H [] α ⟨[], μ⟩ ∧ RVs K H α vs xs ∧ OutMX K H α μ (F xs μ) Q E
def Out0 (K : PySem.W.Frag) (H : Hp) (α : List Addr) (μ : List Oc) (r : RtM Vl) (Q : VK) : Prop := match r with
  | .ok x s' => ∀ v H' α', StpM K 0 H [] α ⟨[], μ⟩ H' [] α' ⟨[], s'.μ⟩ → RV K H' α' v x → Q v H'
  | _ => False
def spM0 (K : PySem.W.Frag) (F : FnM) : Sp := fun vs H Q _ => ∃ α μ xs, GoodM K H [] α ⟨[], μ⟩ ∧ RVs K H α vs xs ∧ Out0 K H α μ (F xs μ) Q
@[simp] def finM : RtM OutM → RtM Vl
  | .ok .nx s => .ok (.d .none) s
  | .ok (.rt x) s => .ok x s
  | .ex c d s => .ex c d s
  | _ => .no
@[simp] def fnM (n N : Nat) (b : MoM OutM) : FnM := fun xs μ => if xs.length = n then finM (b ⟨xs.map .v ++ List.replicate (N - n) .no, μ⟩) else .no
section
variable {K : PySem.W.Frag} {n : Nat} {H H' : Hp} {σ σ' : St} {α α' : List Addr} {s s' : Ms} {μ μ' : List Oc}
/-- the store alone -/
theorem GoodM.strip (G : GoodM K H σ α s) : GoodM K H [] α ⟨[], s.μ⟩ := ⟨rfl, (fun i x e => nomatch e), (fun i c f d e => nomatch e), G.la, G.obj, G.nd, G.tab⟩
theorem StpM.strip (st : StpM K n H σ α s H' σ' α' s') : StpM K 0 H [] α ⟨[], s.μ⟩ H' [] α' ⟨[], s'.μ⟩ := ⟨st.good.strip, fun _ h => absurd h (Nat.not_lt_zero _), st.ext, st.kept, st.live, st.news, st.gone⟩
theorem StpM.unstrip (G : GoodM K H σ α s) (st : StpM K 0 H [] α ⟨[], s.μ⟩ H' [] α' ⟨[], μ'⟩) : StpM K n H σ α s H' σ α' ⟨s.ρ, μ'⟩ := by
  have g := st.grow G.strip
  obtain ⟨β, eβ⟩ := st.ext
  refine ⟨⟨G.len, fun i x e => ?_, fun i c f d e => (G.exc i c f d e).elim fun a h => ⟨a, h.1, h.2.grow g⟩, st.good.la, st.good.obj, st.good.nd, st.good.tab⟩, fun _ _ => rfl, st.ext, st.kept, st.live, st.news, st.gone⟩
  obtain ⟨v, h1, h2⟩ := G.val i x e
  refine ⟨v, h1, ?_⟩
  rw [eβ]
  exact h2.ext g
theorem RVs.at : ∀ {vs : List V} {xs : List Vl} {i : Nat} {x : Vl}, RVs K H α vs xs → xs[i]? = some x → ∃ v, vs[i]? = some v ∧ RV K H α v x
  | _, _, 0, _, .cons h _, g => by
    cases (Option.some.inj g)
    exact ⟨_, rfl, h⟩
  | _, _, i + 1, _, .cons _ r, g => RVs.at (i := i) r g
/-- the slots at a def's start -/
theorem start_good {vs : List V} {xs : List Vl} (m : Nat) (G : GoodM K H [] α ⟨[], μ⟩) (r : RVs K H α vs xs) : GoodM K H (vs.map some ++ List.replicate m none) α ⟨xs.map .v ++ List.replicate m .no, μ⟩ := by
  have at' : ∀ {i : Nat} {t : Sm}, (xs.map Sm.v ++ List.replicate m Sm.no)[i]? = some t → t ≠ .no → ∃ x, t = .v x ∧ xs[i]? = some x ∧ i < xs.length := fun {i t} h ne => by
    by_cases lt : i < xs.length
    · rw [List.getElem?_append_left (by rw [List.length_map]; exact lt), List.getElem?_map, List.getElem?_eq_getElem lt] at h
      exact ⟨xs[i], (Option.some.inj h).symm, List.getElem?_eq_getElem lt, lt⟩
    · rw [List.getElem?_append_right (by rw [List.length_map]; omega)] at h
      exact absurd (List.mem_replicate.mp (List.mem_of_getElem? h)).2 ne
  refine ⟨by simp [r.len], fun i x h => ?_, fun i c f d h => ?_, G.la, G.obj, G.nd, G.tab⟩
  · obtain ⟨y, e, h2, lt⟩ := at' h (fun z => nomatch z)
    cases e
    obtain ⟨v, e1, rv⟩ := r.at h2
    refine ⟨v, ?_, rv⟩
    rw [List.getElem?_append_left (by rw [List.length_map, r.len]; exact lt), List.getElem?_map, e1]
    rfl
  · obtain ⟨y, e, _⟩ := at' h (fun z => nomatch z)
    cases e
end
section
variable {P : Program} {w : World} {K : PySem.W.Frag} {mg : Str → Option Value} {base : Heap} {k : Nat} {f : Addr} {fd : FuncData}
theorem okMX {x qual : Str} {st : Stmt} {N ps : List Str} {b : MoM OutM} (F : Fun K x qual st f fd) (S : FnScope N ps (defScope st)) (hN : ps.length ≤ N.length)
    (B : ∀ (cdv : Value) (A : Around) (outer : List Env) (s : Shared) (H : Hp) (E : L2.XK), A.guards = some [] → Room k (A.deeper (envOfC qual (defScope st) s.heap.objs.size f cdv)) →
      MSs (cxOf (L2.CX P w) P w K mg base N qual (defScope st) f cdv A outer s H E) ps.length (wE K fun cls d _ H' => E cls d H') (defBody st) b) : FnGX P w K mg base (k + 1) f fd ps (spM K (fnM ps.length N.length b)) := by
  have lenF : ∀ {xs : List Vl} {α : List Addr} {μ : List Oc} {H : Hp} {Q : VK} {E : L2.XK}, OutMX K H α μ (fnM ps.length N.length b xs μ) Q E → xs.length = ps.length := fun {xs α μ H Q E} e => by
    unfold fnM at e
    split at e
    · next l => exact l
    · exact e.elim
  refine okGX F S (fun vs H Q E ⟨α, μ, xs, _, r, e⟩ => by rw [r.len]; exact lenF e) (fun cdv A outer s0 H vs Q E hg hr h => ?_)
  obtain ⟨α, μ, xs, G, r, e⟩ := h
  have lx : xs.length = ps.length := lenF e
  have lv : vs.length = ps.length := by rw [r.len, lx]
  have st0 : L2.start N vs = vs.map some ++ List.replicate (N.length - ps.length) none := by
    unfold L2.start
    rw [lv]
  unfold fnM at e
  rw [if_pos lx] at e
  have G0 := start_good (N.length - ps.length) G r
  refine ⟨_, B cdv A outer s0 H E hg hr, α, ⟨xs.map .v ++ List.replicate (N.length - ps.length) .no, μ⟩, by rw [st0]; exact G0, ?_⟩
  rw [st0]
  generalize b ⟨xs.map .v ++ List.replicate (N.length - ps.length) .no, μ⟩ = z at e
  cases z with
  | no => exact e.elim
  | ex c d s' => exact fun σ' H' α' st => e H' α' st.strip
  | ok o s' => cases o with
    | bk => exact e.elim
    | ct => exact e.elim
    | nx => exact fun σ' H' α' st => e .non H' α' st.strip (.d .non)
    | rt x => exact fun v σ' H' α' st rv => e v H' α' st.strip rv
theorem okM0 {x qual : Str} {st : Stmt} {N ps : List Str} {b : MoM OutM} (F : Fun K x qual st f fd) (S : FnScope N ps (defScope st)) (hN : ps.length ≤ N.length)
    (B : ∀ (cdv : Value) (A : Around) (outer : List Env) (s : Shared) (H : Hp) (E : L2.XK), fd.code = cdv → A.guards = some [] → Room k (A.deeper (envOfC qual (defScope st) s.heap.objs.size f cdv)) →
      MSs (cxOf CX0 P w K mg base N qual (defScope st) f cdv A outer s H E).nox ps.length W0 (defBody st) b) : FnG P w K mg base (k + 1) f fd ps (spM0 K (fnM ps.length N.length b)) := by
  have lenF : ∀ {xs : List Vl} {α : List Addr} {μ : List Oc} {H : Hp} {Q : VK}, Out0 K H α μ (fnM ps.length N.length b xs μ) Q → xs.length = ps.length := fun {xs α μ H Q} e => by
    unfold fnM at e
    split at e
    · next l => exact l
    · exact e.elim
  refine okG F S (fun vs H Q E ⟨α, μ, xs, _, r, e⟩ => by rw [r.len]; exact lenF e) (fun cdv A outer s0 H vs Q E hc hg hr h => ?_)
  obtain ⟨α, μ, xs, G, r, e⟩ := h
  have lx : xs.length = ps.length := lenF e
  have lv : vs.length = ps.length := by rw [r.len, lx]
  have st0 : L2.start N vs = vs.map some ++ List.replicate (N.length - ps.length) none := by
    unfold L2.start
    rw [lv]
  unfold fnM at e
  rw [if_pos lx] at e
  have G0 := start_good (N.length - ps.length) G r
  refine ⟨_, B cdv A outer s0 H E hc hg hr, α, ⟨xs.map .v ++ List.replicate (N.length - ps.length) .no, μ⟩, by rw [st0]; exact G0, ?_⟩
  rw [st0]
  generalize b ⟨xs.map .v ++ List.replicate (N.length - ps.length) .no, μ⟩ = z at e
  cases z with
  | no => exact e.elim
  | ex c d s' => exact e.elim
  | ok o s' => cases o with
    | bk => exact e.elim
    | ct => exact e.elim
    | nx => exact fun σ' H' α' st => e .non H' α' st.strip (.d .non)
    | rt x => exact fun v σ' H' α' st rv => e v H' α' st.strip rv
end
/-! ### calls -/
@[simp] def runF (F : FnM) (xs : List Vl) (s : Ms) : RtM Vl := match F xs s.μ with
  | .ok x s2 => .ok x ⟨s.ρ, s2.μ⟩
  | .ex c d s2 => .ex c d ⟨s.ρ, s2.μ⟩
  | .no => .no
@[simp] def eCallM (F : FnM) (m : MoM (List Vl)) : MoM Vl := fun s => (m s).bind fun xs s1 => runF F xs s1
@[simp] def eMethM (c : Str) (F : FnM) (m : Str) (mo : MoM Vl) (ma : MoM (List Vl)) : MoM Vl := fun s => (mo s).bind fun x s1 => match x with
  | .o i => match s1.μ[i]? with
    | some (.ins c' fs) => if c' = c ∧ fs.lookup m = none then (ma s1).bind fun xs s2 => runF F (.o i :: xs) s2 else .no
    | _ => .no
  | .d _ => .no
@[simp] def eMakeM (c : Str) (F : FnM) (m : MoM (List Vl)) : MoM Vl := fun s => (m s).bind fun xs s1 => match F (.o s1.μ.length :: xs) (s1.μ ++ [.ins c []]) with
  | .ok (.d .none) s2 => .ok (.o s1.μ.length) ⟨s1.ρ, s2.μ⟩
  | .ex c d s2 => .ex c d ⟨s1.ρ, s2.μ⟩
  | _ => .no
section
variable {X : Cx} {n : Nat} {W : XW} {k : Nat} {f : Addr} {fd : FuncData} {ps : List Str} {x : Str} {p pos : Pos} {e : Expr} {es : List Expr} {m : MoM (List Vl)} {F : FnM} {Wx : WX} {sp : Sp} {ta : TE} {t : TA} {C : Addr} {c : Str} {o : Expr} {mt : Str} {apos : Pos} {mo : MoM Vl}
theorem runF_X {σ : St} {H1 : Hp} {α1 : List Addr} {s1 : Ms} {Q : VK} {vs : List V} {xs : List Vl} (G : GoodM X.K H1 σ α1 s1) (rvs : RVs X.K H1 α1 vs xs) (hW : ∀ c d σ H, W c d σ H → wE X.K Wx c d σ H)
    (h1 : AftM X.K n W H1 σ α1 s1 (runF F xs s1) fun x _ α' H' => ∀ v, RV X.K H' α' v x → Q v H') : spM X.K F vs H1 Q fun cls d H' => Wx cls d σ H' := by
  refine ⟨α1, s1.μ, xs, G.strip, rvs, ?_⟩
  unfold runF at h1
  generalize F xs s1.μ = r at h1
  cases r with
  | no => exact h1.elim
  | ex c d s2 => exact fun H' α' st C dd ff v d' e1 e2 e3 e4 => hW _ _ _ _ (h1 H' α' (st.unstrip G)) C dd ff v d' e1 e2 e3 e4
  | ok x s2 => exact fun v H' α' st rv => h1 H' α' (st.unstrip G) v rv
/-- o.m(e, ..) of a def that may raise -/
def tMethX (C : Addr) (m : Str) (Wx : WX) (sp : Sp) (ta : TE) (t : TA) : TE := fun σ H Q => ta σ H fun x H1 => ∃ a dx fs, x = .ref a ∧ H1 a = some (.ins C dx fs) ∧ fs.lookup m = none ∧ t σ H1 fun vs H2 => sp (x :: vs) H2 Q fun cls d H' => Wx cls d σ H'
theorem run_fnX {pins : List (Addr × Obj)} {σ : St} {H : Hp} {s : Shared} {Q : VK} {us : List Value} {vs : List V} (F : FnGX X.prog X.w X.K X.mg X.base k f fd ps sp) (tk : Takes X Wx) (g : X.A.guards = some []) (room : Room k X.A) (hb : Binds X.K fd ps [])
    (I : Inv X pins σ H s) (r : Vals vs us) (h : sp vs H Q fun cls d H' => Wx cls d σ H') : wpAny (model X.prog X.w) X.A (call (.ref f) us) (EP X pins σ Q) X.xe s := by
  have z := F.len _ _ _ _ h
  have r1 : Vals vs (us ++ []) := by
    rw [List.append_nil]
    exact r
  have z : (us ++ []).length = ps.length := by
    rw [← z]
    exact r1.length.symm
  refine wpAny_call (codeAny_mono (F.go g room I.env0 (hb s us I.kIn z) r1 h) fun res s' hq => ?_)
  cases res with
  | error u => exact tk _ _ (XE.of_call I (fun cls d H' w => w) hq)
  | ok fl =>
    cases fl with
    | ret u => exact I.after hq
    | next => exact False.elim hq
    | brk => exact False.elim hq
    | cont => exact False.elim hq
theorem pe_methGX {pl : Sem Bool} (he : PE X o ta) (c : Cls X.K C) (hm : Meth X.K C mt f) (F : FnGX X.prog X.w X.K X.mg X.base k f fd ps sp) (tk : Takes X Wx) (g : X.A.guards = some []) (room : Room k X.A) (hb : Binds X.K fd ps []) (ha : PA X (e :: es) t)
    (hst : starEach (e :: es) X.env = (false, eval e X.env) :: starEach es X.env := by rfl) (hpl : (backTo pos (starEach es X.env)).any (·.1) = false := by rfl)
    (ht : eval (.Call (.Attribute o mt apos) (e :: es) [] pos) X.env = (do
      let ov ← eval o X.env
      standAt apos.atName
      let (f, first) ← holding [ov] (getMethod ov mt pl)
      callWith pos f first (backTo pos (starEach (e :: es) X.env)) (backToKw pos (keywordEach [] X.env))) := by rfl) :
    PE X (.Call (.Attribute o mt apos) (e :: es) [] pos) (tMethX C mt Wx sp ta t) := by
  refine ⟨fun pins s σ H Q I h => ?_⟩
  refine PySem.W.methodCall_KW (pl := pl) (thn (he.run pins s σ H _ I h) fun u s1 ⟨x, H1, I1, rx, a, dx, fs, ex, ea, l, q⟩ => ?_) ht
  subst ex
  obtain rfl : u = Value.ref a := rx
  refine getmeth_ok I1 ea c hm l ?_
  refine PySem.W.callWith_K (first := [.ref a]) (h₀ := X.base) I.ok.mod.kin hm.kp (thn (ha.run pos pins s1 σ H1 _ I1 q) fun us s2 ⟨vs, H2, I2, r, q2⟩ => ⟨I2.kIn, ?_⟩) hst hpl
  exact run_fnX (us := .ref a :: us) (vs := .ref a :: vs) F tk g room hb I2 (.cons rfl r) q2
theorem pe_methGX0 {pl : Sem Bool} (he : PE X o ta) (c : Cls X.K C) (hm : Meth X.K C mt f) (F : FnGX X.prog X.w X.K X.mg X.base k f fd ps sp) (tk : Takes X Wx) (g : X.A.guards = some []) (room : Room k X.A) (hb : Binds X.K fd ps [])
    (ht : eval (.Call (.Attribute o mt apos) [] [] pos) X.env = (do
      let ov ← eval o X.env
      standAt apos.atName
      let (f, first) ← holding [ov] (getMethod ov mt pl)
      callWith pos f first (backTo pos (starEach [] X.env)) (backToKw pos (keywordEach [] X.env))) := by rfl) :
    PE X (.Call (.Attribute o mt apos) [] [] pos) (tMethX C mt Wx sp ta tNil) := by
  refine ⟨fun pins s σ H Q I h => ?_⟩
  refine PySem.W.methodCall_KW (pl := pl) (thn (he.run pins s σ H _ I h) fun u s1 ⟨x, H1, I1, rx, a, dx, fs, ex, ea, l, q⟩ => ?_) ht
  subst ex
  obtain rfl : u = Value.ref a := rx
  refine getmeth_ok I1 ea c hm l ?_
  exact PySem.W.callWith_K0 (first := [.ref a]) I1.kIn hm.kp (run_fnX (us := [.ref a]) (vs := [.ref a]) F tk g room hb I1 (.cons rfl .nil) q)
/-- C(e, ..), C's __init__ such a def -/
def tMakeX (C : Addr) (Wx : WX) (sp : Sp) (dvs : List V) (t : TA) : TE := fun σ H Q => t σ H fun vs H1 => ∀ x dx, H1 x = none → H1 dx = none → dx ≠ x → sp (.ref x :: (vs ++ dvs)) (upd (upd H1 dx (.own x)) x (.ins C dx [])) (fun v H2 => v = .non ∧ Q (.ref x) H2) fun cls d H' => Wx cls d σ H'
theorem run_makeX {dvs : List V} {ds : List Value} {pins : List (Addr × Obj)} {σ : St} {H : Hp} {s : Shared} {Q : VK} {us : List Value} {vs : List V} (M : Mk X.K C f) (F : FnGX X.prog X.w X.K X.mg X.base k f fd ps sp) (tk : Takes X Wx) (g : X.A.guards = some []) (hr : Room (k + 1) X.A) (hb : Binds X.K fd ps ds) (hd : Vals dvs ds)
    (I : Inv X pins σ H s) (r : Vals vs us)
    (h : ∀ x dx, H x = none → H dx = none → dx ≠ x → sp (.ref x :: (vs ++ dvs)) (upd (upd H dx (.own x)) x (.ins C dx [])) (fun v H2 => v = .non ∧ Q (.ref x) H2) fun cls d H' => Wx cls d σ H') :
    wpAny (model X.prog X.w) X.A (call (.ref C) us) (EP X pins σ Q) X.xe s := by
  have hq := h (s.heap.objs.size + 1) s.heap.objs.size (I.hok.fresh (Nat.le_succ _)) (I.hok.fresh (Nat.le_refl _)) (Nat.ne_of_lt (Nat.lt_succ_self _))
  have I2 := Inv.made (C := C) I
  have r2 : Vals (V.ref (s.heap.objs.size + 1) :: (vs ++ dvs)) (Value.ref (s.heap.objs.size + 1) :: (us ++ ds)) := .cons rfl (r.append hd)
  have hl : (Value.ref (s.heap.objs.size + 1) :: us ++ ds).length = ps.length := by
    have e := r2.length
    rw [F.len _ _ _ _ hq] at e
    exact e.symm
  have g2 : (X.A.under (.builtin "type.__call__" ⟨.ref C :: us, []⟩)).guards = some [] := by
    show pushGuards (Code.guards (.builtin "type.__call__" ⟨.ref C :: us, []⟩)) X.A.guards = some []
    rw [g]
    rfl
  refine wpAny_call (make_map (f := f) I.kIn M.makes M.init (beq_iff_eq.mp M.fn) (codeAny_mono (F.go g2 (hr.make C us [])
    (I2.env0.make C us []) (hb _ (Value.ref (s.heap.objs.size + 1) :: us) I2.kIn hl) r2 hq) fun r s' hq' => ?_))
  cases r with
  | error e => exact tk _ _ (XE.of_call I2 (fun cls d H' w => w) hq')
  | ok fl =>
    cases fl with
    | ret u =>
      obtain ⟨v, H', I3, rv, ev, q3⟩ := I2.after hq'
      subst ev
      exact ⟨rv, ⟨V.ref (s.heap.objs.size + 1), H', I3, rfl, q3⟩⟩
    | next => exact False.elim hq'
    | brk => exact False.elim hq'
    | cont => exact False.elim hq'
theorem pe_makeX (M : Mk X.K C f) (F : FnGX X.prog X.w X.K X.mg X.base k f fd ps sp) (tk : Takes X Wx) (g : X.A.guards = some []) (hr : Room (k + 1) X.A) (hg : Gl X x) (hm : X.mg x = some (.ref C)) (hb : Binds X.K fd ps [])
    (ha : PA X (e :: es) t) (hdb : (x == ("__debug__" : Str)) = false := by decide) (he : starEach (e :: es) X.env = (false, eval e X.env) :: starEach es X.env := by rfl) (hpl : (backTo pos (starEach es X.env)).any (·.1) = false := by rfl) :
    PE X (.Call (.Name x p) (e :: es) [] pos) (tMakeX C Wx sp [] t) := by
  refine ⟨fun pins s σ H Q I h => ?_⟩
  refine wpAny_Call_Name_kw (ld_glob I hg hm ?_ hdb)
  refine PySem.W.callWith_K (h₀ := X.base) I.ok.mod.kin M.kp (thn (ha.run pos pins s σ H _ I h) fun us s1 ⟨vs, H1, I1, r, q⟩ => ⟨I1.kIn, ?_⟩) he hpl
  exact run_makeX M F tk g hr hb .nil I1 r q
theorem md_call0 (G : FnG X.prog X.w X.K X.mg X.base k f fd ps (spM0 X.K F)) (g : X.A.guards = some []) (room : Room k X.A) (hg : Gl X x) (hm : X.mg x = some (.ref f)) (hk : PySem.W.keepIn X.K (.ref f) = true) (hb : Binds X.K fd ps [])
    (ha : MA X n W (e :: es) m) (hdb : (x == ("__debug__" : Str)) = false := by decide) (he : starEach (e :: es) X.env = (false, eval e X.env) :: starEach es X.env := by rfl) (hpl : (backTo pos (starEach es X.env)).any (·.1) = false := by rfl) :
    MD X n W (.Call (.Name x p) (e :: es) [] pos) (fun s => (m s).bind fun xs s1 => match F xs s1.μ with
      | .ok x s2 => .ok x ⟨s1.ρ, s2.μ⟩
      | _ => .no) := weakE (pe_callG G g room hg hm hk hb ha hdb he hpl) fun σ H Q ⟨α, s, Gd, h⟩ => ⟨α, s, Gd, (AftM.bind Gd h).mono fun xs s1 α1 H1 st h1 vs rvs => by
    show spM0 X.K F (vs ++ []) H1 Q E0
    rw [List.append_nil]
    refine ⟨α1, s1.μ, xs, st.good.strip, rvs, ?_⟩
    generalize F xs s1.μ = r at h1
    cases r with
    | no => exact h1.elim
    | ex c d s2 => exact h1.elim
    | ok x s2 => exact fun v H' α' st2 rv => h1 H' α' (st2.unstrip st.good) v rv⟩
/-- what a method of the program's class is known for -/
structure MetT (K : PySem.W.Frag) (C : Addr) (m : Str) (f : Addr) : Prop where
  me : Meth K C m f
theorem meth_runM {fs0 : List Str} (T : ClsT X.K c C fs0) (hW : ∀ c d σ H, W c d σ H → wE X.K Wx c d σ H) (σ : St) (H : Hp) (Q : VK) (h : tXM X.K n W (eMethM c F mt mo m) σ H Q) : tMethX C mt Wx (spM X.K F) (tXM X.K n W mo) (tXsM X.K n W m) σ H Q := by
  obtain ⟨α, s, G, h⟩ := h
  refine ⟨α, s, G, (AftM.bind G h).mono fun x s1 α1 H1 st h1 v rv => ?_⟩
  cases rv with
  | d _ => exact h1.elim
  | @o a i ea =>
    dsimp only at h1
    cases ec : s1.μ[i]? with
    | none =>
      rw [ec] at h1
      exact h1.elim
    | some oc =>
      rw [ec] at h1
      cases oc with
      | ins c' gs =>
        dsimp only at h1
        split at h1
        · next q =>
          obtain ⟨q, ql⟩ := q
          subst q
          obtain ⟨C', dx, vs, e1, nc, r⟩ := st.good.obj i a _ ea ec
          have := T.uniq nc
          subst this
          refine ⟨a, dx, vs, rfl, e1, r.look.2 ql, α1, s1, st.good, (AftM.bind st.good h1).mono fun xs s2 α2 H2 st2 h2 ws rws => ?_⟩
          have rv2 : RV X.K H2 α2 (.ref a) (.o i) := (RV.o ea).on st2 st.good
          exact runF_X st2.good (.cons rv2 rws) hW h2
        · exact h1.elim
      | _ => exact h1.elim
theorem md_meth {pl : Sem Bool} {fs0 : List Str} (T : ClsT X.K c C fs0) (me : Meth X.K C mt f) (tk : Takes X Wx) (hW : ∀ c d σ H, W c d σ H → wE X.K Wx c d σ H) (G : FnGX X.prog X.w X.K X.mg X.base k f fd ps (spM X.K F)) (g : X.A.guards = some []) (room : Room k X.A) (hb : Binds X.K fd ps []) (he : MD X n W o mo) (ha : MA X n W (e :: es) m)
    (hst : starEach (e :: es) X.env = (false, eval e X.env) :: starEach es X.env := by rfl) (hpl : (backTo pos (starEach es X.env)).any (·.1) = false := by rfl)
    (ht : eval (.Call (.Attribute o mt apos) (e :: es) [] pos) X.env = (do
      let ov ← eval o X.env
      standAt apos.atName
      let (f, first) ← holding [ov] (getMethod ov mt pl)
      callWith pos f first (backTo pos (starEach (e :: es) X.env)) (backToKw pos (keywordEach [] X.env))) := by rfl) :
    MD X n W (.Call (.Attribute o mt apos) (e :: es) [] pos) (eMethM c F mt mo m) := weakE (pe_methGX (pl := pl) (Wx := Wx) he T.cl me G tk g room hb ha hst hpl ht) (meth_runM T hW)
theorem md_meth0 {pl : Sem Bool} {fs0 : List Str} (T : ClsT X.K c C fs0) (me : Meth X.K C mt f) (tk : Takes X Wx) (hW : ∀ c d σ H, W c d σ H → wE X.K Wx c d σ H) (G : FnGX X.prog X.w X.K X.mg X.base k f fd ps (spM X.K F)) (g : X.A.guards = some []) (room : Room k X.A) (hb : Binds X.K fd ps []) (he : MD X n W o mo)
    (ht : eval (.Call (.Attribute o mt apos) [] [] pos) X.env = (do
      let ov ← eval o X.env
      standAt apos.atName
      let (f, first) ← holding [ov] (getMethod ov mt pl)
      callWith pos f first (backTo pos (starEach [] X.env)) (backToKw pos (keywordEach [] X.env))) := by rfl) :
    MD X n W (.Call (.Attribute o mt apos) [] [] pos) (eMethM c F mt mo eNilM) := weakE (pe_methGX0 (pl := pl) (Wx := Wx) he T.cl me G tk g room hb ht) fun σ H Q h => by
  obtain ⟨α, s, G, h⟩ := meth_runM (mt := mt) (m := eNilM) T hW σ H Q h
  refine ⟨α, s, G, h.mono fun x s1 α1 H1 st h1 v rv => ?_⟩
  obtain ⟨a, dx, fs, e1, e2, e3, α2, s2, G2, h2⟩ := h1 v rv
  exact ⟨a, dx, fs, e1, e2, e3, AftM.ok G2 h2 [] .nil⟩
theorem md_make {fs0 : List Str} (T : ClsT X.K c C fs0) (M : Mk X.K C f) (tk : Takes X Wx) (hW : ∀ c d σ H, W c d σ H → wE X.K Wx c d σ H) (G : FnGX X.prog X.w X.K X.mg X.base k f fd ps (spM X.K F)) (g : X.A.guards = some []) (hr : Room (k + 1) X.A) (hg : Gl X x) (hm : X.mg x = some (.ref C)) (hb : Binds X.K fd ps [])
    (ha : MA X n W (e :: es) m) (hdb : (x == ("__debug__" : Str)) = false := by decide) (he : starEach (e :: es) X.env = (false, eval e X.env) :: starEach es X.env := by rfl) (hpl : (backTo pos (starEach es X.env)).any (·.1) = false := by rfl) :
    MD X n W (.Call (.Name x p) (e :: es) [] pos) (eMakeM c F m) := weakE (pe_makeX (Wx := Wx) M G tk g hr hg hm hb ha hdb he hpl) fun σ H Q ⟨α, s, Gd, h⟩ => ⟨α, s, Gd, (AftM.bind Gd h).mono fun xs s1 α1 H1 st h1 vs rvs => by
    intro p dx np nd ne
    rw [List.append_nil]
    have s2 : Same H1 (upd (upd H1 dx (.own p)) p (.ins C dx [])) := fun b u eb => by
      rw [upd_ne (ne_of_none eb np), upd_ne (ne_of_none eb nd)]
      exact eb
    have st2 := (StpM.same (n := n) st.good s2).new (p := p) (c := .ins c []) np (st.good.fresh np) ⟨C, dx, [], upd_same, T.nC, .nil⟩
    refine ⟨α1 ++ [p], s1.μ ++ [.ins c []], .o s1.μ.length :: xs, st2.good.strip, .cons (.o ?_) (rvs.on st2 st.good), ?_⟩
    · rw [← st.good.la, List.getElem?_append_right (Nat.le_refl _), Nat.sub_self]
      rfl
    · generalize F (.o s1.μ.length :: xs) (s1.μ ++ [.ins c []]) = r at h1
      cases r with
      | no => exact h1.elim
      | ex c d s3 =>
        intro H' α' st3 C dd ff v d' e1 e2 e3 e4
        have st4 := st2.trans ((st3.unstrip (n := n) (s := ⟨s1.ρ, s1.μ ++ [.ins _ []]⟩) st2.good)) st.good
        exact hW _ _ _ _ (h1 H' α' st4) C dd ff v d' e1 e2 e3 e4
      | ok y s3 =>
        intro v H' α' st3 rv
        have st4 := st2.trans ((st3.unstrip (n := n) (s := ⟨s1.ρ, s1.μ ++ [.ins _ []]⟩) st2.good)) st.good
        cases rv with
        | o _ => exact h1.elim
        | @d _ y im =>
          cases y with
          | none =>
            cases im
            refine ⟨rfl, h1 H' α' st4 _ ?_⟩
            have : RV X.K (upd (upd H1 dx (.own p)) p (.ins C dx [])) (α1 ++ [p]) (.ref p) (.o s1.μ.length) := .o (by
              rw [← st.good.la, List.getElem?_append_right (Nat.le_refl _), Nat.sub_self]
              rfl)
            exact this.on st3 st2.good.strip
          | _ => exact h1.elim⟩
end
end Q
namespace Q
open PySem PySem.Spec PyProof.Rows L2 Gd
variable [Tbl]
/-! ### walks, targets, loops in the layer of objects -/
def WkM (K : PySem.W.Frag) (H1 : Hp) (α1 : List Addr) (xs : List Vl) (J : It) : Prop := Walk J xs.length (fun H => Grow H1 H) fun i H x H' => Same H H' ∧ ∃ y, xs[i]? = some y ∧ RV K H' α1 x y
def tIM (K : PySem.W.Frag) (n : Nat) (W : XW) (m : MoM (List Vl)) : TI := fun σ H R => ∃ α s, GoodM K H σ α s ∧ AftM K n W H σ α s (m s) fun xs _ α' H' => ∀ J, WkM K H' α' xs J → R J H'
abbrev MI (X : Cx) (n : Nat) (W : XW) (tg e : Expr) (m : MoM (List Vl)) : Prop := PI X tg e (tIM X.K n W m)
theorem Wk.toM {K : PySem.W.Frag} {H : Hp} {α : List Addr} {ds : List D} {J : It} (w : Wk K H ds J) : WkM K H α (ds.map .d) J := by
  have w2 : Walk J (ds.map Vl.d).length (fun H' => Grow H H') fun i H x H' => Same H H' ∧ ∃ d, ds[i]? = some d ∧ Im K H' x d := by
    rw [List.length_map]
    exact w
  refine w2.mono (fun H' g => g) fun i H1 x H2 hi g y => ?_
  obtain ⟨sm, d, e, im⟩ := y
  exact ⟨sm, .d d, by rw [List.getElem?_map, e]; rfl, .d im⟩
section
variable {X : Cx} {n : Nat} {W : XW} {tg : Expr}
/-- a walk of the layer of data -/
@[simp] def iD (m : Mo (List D)) : MoM (List Vl) := fun s => match m (oldE s) with
  | .ok ds _ => .ok (ds.map .d) s
  | .ex c d _ => .ex c d s
  | .no => .no
theorem mi_old {e : Expr} {m : Mo (List D)} (h : XI X n W tg e m) : MI X n W tg e (iD m) := weakI h fun σ H R ⟨α, s, G, h⟩ => by
  refine ⟨oldE s, G.old, ?_⟩
  unfold iD at h
  cases e : m (oldE s) with
  | no =>
    rw [e] at h
    exact h.elim
  | ex c d ρ' =>
    rw [e] at h
    exact fun H' st => h H' α (st.toM G)
  | ok ds ρ' =>
    rw [e] at h
    exact fun H' st J wk => h H' α (st.toM G) J wk.toM
@[simp] def iSeqM (f : MoM Vl) : MoM (List Vl) := fun s => (f s).bind fun x s1 => match x with
  | .d y => match iterD y with
    | some ds => .ok (ds.map .d) s1
    | none => .no
  | .o _ => .no
/-- a new list is walked -/
@[simp] def iNewM (m : MoM Oc) : MoM (List Vl) := fun s => (m s).bind fun c s1 => match c with
  | .lst xs => .ok xs s1
  | _ => .no
theorem RVs.get {K : PySem.W.Frag} {H : Hp} {α : List Addr} : ∀ {vs : List V} {xs : List Vl} {i : Nat} {v : V}, RVs K H α vs xs → vs[i]? = some v → ∃ x, xs[i]? = some x ∧ RV K H α v x
  | _, _, 0, _, .cons h _, g => by
    cases (Option.some.inj g)
    exact ⟨_, rfl, h⟩
  | _, _, i + 1, _, .cons _ r, g => RVs.get (i := i) r g
theorem wk_listM {K : PySem.W.Frag} {H : Hp} {α : List Addr} {a : Addr} {vs : List V} {xs : List Vl} (h : LkL K H a vs) (r : RVs K H α vs xs) : WkM K H α xs (Itl K a) := by
  have w := walk_list (K := K) (a := a) (xs := vs)
  rw [r.len] at w
  refine w.mono (fun H' g => (g.l h).sq) fun i H1 x H2 hi g y => ?_
  obtain ⟨rfl, e⟩ := y
  obtain ⟨d, e2, rv⟩ := r.get e
  have := rv.ext (β := []) g
  rw [List.append_nil] at this
  exact ⟨Same.refl _, d, e2, this⟩
theorem mi_new {e : Expr} {m : MoM Oc} (h : MF X n W e m) : MI X n W tg e (iNewM m) := weakI (pi_list (pe_frz h)) fun σ H Q ⟨α, s, G, h⟩ => by
  refine ⟨α, s, G, ?_⟩
  unfold iNewM at h
  cases e : m s with
  | no =>
    rw [e] at h
    exact h.elim
  | ex c d s1 =>
    rw [e] at h
    exact h
  | ok c s1 =>
    rw [e] at h
    cases c with
    | lst xs =>
      intro H1 α1 st p np na oc ng
      obtain ⟨vs, e1, r⟩ := oc
      refine ⟨p, _, rfl, e1, trivial, fun od => ?_⟩
      have g : Grow H1 (upd H1 p (.frz od (.lst vs))) := grow_upd e1 trivial (noTab_code (h := .lst _) trivial)
      have nl : ∀ b, LiveM α1 s1.μ b → b ≠ p := fun b lb z => by
        obtain ⟨i, c, e, _⟩ := lb
        exact na (by rw [← z]; exact List.mem_of_getElem? e)
      have r2 := r.ext (β := []) g
      rw [List.append_nil] at r2
      have lk : LkL X.K (upd H1 p (.frz od (.lst vs))) p vs := ⟨od, upd_same⟩
      refine ⟨p, rfl, ⟨vs, lk.sq⟩, h _ α1 ⟨st.good.grow g (fun b o lb q => by rw [upd_ne (nl b lb)]; exact q) (live_upd e1) (TabOk.upd e1 trivial trivial), st.par, st.ext, fun b o hb nb nt => ?_, fun b hb => st.live b (live_upd e1 b hb), st.news, st.gone⟩ _ (wk_listM lk r2)⟩
      rw [upd_ne (ne_of_none hb np)]
      exact st.kept b o hb nb nt
    | _ => exact h.elim
/-! ### targets -/
abbrev TgM := Vl → List Sm → Option (List Sm)
abbrev TgsM := List D → List Sm → Option (List Sm)
def AftGM (K : PySem.W.Frag) (n : Nat) (is : List Nat) (H : Hp) (σ : St) (α : List Addr) (s : Ms) (r : Option (List Sm)) (Q : St → Hp → Prop) : Prop := ∃ ρ', r = some ρ' ∧ ∀ σ' H' α', StpM K n H σ α s H' σ' α' ⟨ρ', s.μ⟩ → (∀ j, j ∉ is → σ'[j]? = σ[j]?) → σ'.length = σ.length → Q σ' H'
def tGM (K : PySem.W.Frag) (n : Nat) (is : List Nat) (m : TgM) : TG := fun v σ H Q => ∃ α s x, GoodM K H σ α s ∧ RV K H α v x ∧ AftGM K n is H σ α s (m x s.ρ) Q
def tGsM (K : PySem.W.Frag) (n : Nat) (is : List Nat) (m : TgsM) : TGs := fun vs σ H Q => ∃ α s ds, GoodM K H σ α s ∧ ImL K H vs ds ∧ AftGM K n is H σ α s (m ds s.ρ) Q
abbrev MG (X : Cx) (n : Nat) (is : List Nat) (t : Expr) (m : TgM) : Prop := PG X t (tGM X.K n is m)
abbrev MGs (X : Cx) (n : Nat) (is : List Nat) (t : List Expr) (m : TgsM) : Prop := PGs X t (tGsM X.K n is m)
@[simp] def putR (i : Nat) (x : Vl) (ρ : List Sm) : Option (List Sm) := if i < ρ.length then some (ρ.set i (.v x)) else none
theorem putR_some {i : Nat} {x : Vl} {ρ ρ' : List Sm} (h : putR i x ρ = some ρ') : i < ρ.length ∧ ρ' = ρ.set i (.v x) := by
  unfold putR at h
  split at h
  · next le =>
    cases h
    exact ⟨le, rfl⟩
  · cases h
@[simp] def gNM (i : Nat) : TgM := fun x ρ => putR i x ρ
theorem mg_name {i : Nat} {x : Str} {pos : Pos} (hn : n ≤ i) (hN : X.N.Nodup) (hi : X.N[i]? = some x) (hx : Loc X.env.scope x) (hf : X.fn x = true ∨ X.env.scope.names.lookup x = some .local := by first | exact .inl rfl | exact .inr rfl | assumption) : MG X n [i] (.Name x pos) (gNM i) :=
  weakG (pg_name hN hi hx hf) fun v σ H Q ⟨α, s, d, G, rv, ρ', e, h⟩ => by
    obtain ⟨le, rfl⟩ := putR_some e
    exact h _ _ α ((StpM.refl G).set hn le rv) (fun j hj => set_ne fun z => hj (by rw [z]; exact List.mem_singleton.mpr rfl)) List.length_set
@[simp] def gsNilM : TgsM := fun ds ρ => match ds with
  | [] => some ρ
  | _ => none
@[simp] def gsConsM (f : TgM) (g : TgsM) : TgsM := fun ds ρ => match ds with
  | d :: r => (f (.d d) ρ).bind fun ρ1 => g r ρ1
  | [] => none
theorem mgs_nil : MGs X n [] [] gsNilM := weakGs pgs_nil fun vs σ H Q ⟨α, s, ds, G, im, ρ', e, h⟩ => by
  cases im with
  | nil =>
    cases e
    exact ⟨rfl, h _ _ α (StpM.refl G) (fun _ _ => rfl) rfl⟩
  | cons _ _ => cases e
theorem mgs_cons {e : Expr} {es : List Expr} {i1 i2 : List Nat} {f : TgM} {g : TgsM} (h1 : MG X n i1 e f) (h2 : MGs X n i2 es g) (hs : (assignEach (e :: es) X.env).map (·.2) = assign e X.env :: (assignEach es X.env).map (·.2) := by rfl) : MGs X n (i1 ++ i2) (e :: es) (gsConsM f g) :=
  weakGs (pgs_cons h1 h2 hs) fun vs σ H Q ⟨α, s, ds, G, im, ρ2, e, h⟩ => by
    cases im with
    | nil => cases e
    | @cons v vs d ds im r =>
      have e : (f (.d d) s.ρ).bind (fun ρ1 => g ds ρ1) = some ρ2 := e
      cases e1 : f (.d d) s.ρ with
      | none =>
        rw [e1] at e
        cases e
      | some ρ1 =>
        rw [e1] at e
        exact ⟨v, vs, rfl, α, s, .d d, G, .d im, ρ1, e1, fun σ1 H1 α1 s1 n1 l1 => ⟨α1, ⟨ρ1, s.μ⟩, ds, s1.good, r.grow (s1.grow G), ρ2, e, fun σ2 H2 α2 s2 n2 l2 => h σ2 H2 α2 (s1.trans s2 G) (fun j hj => (n2 j fun z => hj (List.mem_append_right _ z)).trans (n1 j fun z => hj (List.mem_append_left _ z))) (l2.trans l1)⟩⟩
@[simp] def gTM (c : Nat) (g : TgsM) : TgM := fun x ρ => match x with
  | .d (.tuple ds) => if ds.length = c then g ds ρ else none
  | .d (.dict [(.bool true, a), (.bool false, b)]) => if c = 2 then g [a, b] ρ else none
  | _ => none
theorem mg_tup {es : List Expr} {k c : Nat} {is : List Nat} {pos : Pos} {g : TgsM} (hc : X.calm = true) (h : MGs X n is es g) (hn : (assignEach es X.env).length = c := by rfl) (hst : (assignEach es X.env).findIdx? (·.1) = none := by rfl) : MG X n is (.Tuple es k pos) (gTM c g) :=
  weakG (pg_tup hc h hn hst) fun v σ H Q ⟨α, s, x, G, rv, ρ', e, h⟩ => by
    cases rv with
    | o _ => cases e
    | d im => cases im with
      | @tup a xs ds hs r =>
        have e : (if ds.length = c then g ds s.ρ else none) = some ρ' := e
        split at e
        · next le => exact ⟨_, _, rfl, hs.sq, by rw [r.len]; exact le, α, s, ds, G, r, ρ', e, h⟩
        · cases e
      | @prm t x y a b hs h1 h2 =>
        have e : (if c = 2 then g [a, b] s.ρ else none) = some ρ' := e
        split at e
        · next le =>
          subst le
          exact ⟨_, _, rfl, hs, rfl, α, s, [a, b], G, .cons h1 (.cons h2 .nil), ρ', e, h⟩
        · cases e
      | scr _ => cases e
      | dic _ r =>
        cases r with
        | nil => cases e
        | @cons k _ _ _ _ _ r => cases k <;> cases e
      | _ => cases e
@[simp] def mAsg (f : MoM Vl) (g : TgM) : MoM OutM := fun s => (f s).bind fun x s1 => match g x s1.ρ with
  | some ρ' => .ok .nx ⟨ρ', s1.μ⟩
  | none => .no
theorem ms_asg {tg e : Expr} {is : List Nat} {pos : Pos} {f : MoM Vl} {g : TgM} (he : MD X n W e f) (hg : MG X n is tg g) (hs : swapsWithSole [tg] e pos.line X.env = pure false := by rfl) (hw : swappedStores [tg] e X.env = pure none := by rfl)
    (h1 : (assignEach [tg] X.env).map (·.2) = [assign tg X.env] := by rfl) : MS X n W (.Assign [tg] e pos) (mAsg f g) := weakS (ps_asg he hg hs hw h1) fun E σ H ⟨α, s, G, h⟩ => by
  refine ⟨α, s, G, (AftSM.bind G h).mono fun x s1 α1 H1 st h1 v rv => ?_⟩
  cases eg : g x s1.ρ with
  | none =>
    rw [eg] at h1
    exact h1.elim
  | some ρ' =>
    rw [eg] at h1
    exact ⟨α1, s1, x, st.good, rv, ρ', eg, fun σ' H' α' s _ _ => h1 σ' H' α' s⟩
/-! ### a, b, .. = x, y, .. -/
@[simp] def putsM : List Nat → List Vl → List Sm → Option (List Sm)
  | [], [], ρ => some ρ
  | i :: is, x :: xs, ρ => (putR i x ρ).bind (putsM is xs)
  | _, _, _ => none
theorem stores_runM {K : PySem.W.Frag} {H H' : Hp} {σ : St} {α α' : List Addr} {s : Ms} {μ : List Oc} : ∀ {is : List Nat} {vs : List V} {xs : List Vl} {σ' : St} {ρ' ρ2 : List Sm}, (∀ i ∈ is, n ≤ i) → StpM K n H σ α s H' σ' α' ⟨ρ', μ⟩ → RVs K H' α' vs xs → putsM is xs ρ' = some ρ2 → StpM K n H σ α s H' (setAll σ' is vs) α' ⟨ρ2, μ⟩ ∧ vs.length = is.length
  | [], _, _, σ', ρ', ρ2, _, st, .nil, e => by
    cases e
    exact ⟨st, rfl⟩
  | [], _, _, σ', ρ', ρ2, _, st, .cons _ _, e => by cases e
  | _ :: _, _, _, σ', ρ', ρ2, _, st, .nil, e => by cases e
  | i :: is, _, _, σ', ρ', ρ2, hn, st, .cons (v := v) (vs := vs) (x := x) (xs := xs) r rs, e => by
    have e : (putR i x ρ').bind (putsM is xs) = some ρ2 := e
    cases e1 : putR i x ρ' with
    | none =>
      rw [e1] at e
      cases e
    | some ρ3 =>
      rw [e1] at e
      obtain ⟨li, rfl⟩ := putR_some e1
      obtain ⟨st3, l3⟩ := stores_runM (fun j hj => hn j (List.mem_cons_of_mem _ hj)) (st.set (hn i List.mem_cons_self) li r) rs e
      exact ⟨st3, by rw [List.length_cons, List.length_cons, l3]⟩
@[simp] def mMany (is : List Nat) (m : MoM (List Vl)) : MoM OutM := fun s => (m s).bind fun xs s1 => match putsM is xs s1.ρ with
  | some ρ' => .ok .nx ⟨ρ', s1.μ⟩
  | none => .no
theorem ms_par {i j : Nat} {x y : Str} {a b : Expr} {px py pt pos : Pos} {kt k2 pt2} {m : MoM (List Vl)} (hni : n ≤ i) (hnj : n ≤ j) (ha : MA X n W [a, b] m)
    (go : ∀ {ta : TA}, PA X [a, b] ta → PS X (.Assign [.Tuple [.Name x px, .Name y py] kt pt] (.Tuple [a, b] k2 pt2) pos) (tPar i j ta)) :
    MS X n W (.Assign [.Tuple [.Name x px, .Name y py] kt pt] (.Tuple [a, b] k2 pt2) pos) (mMany [i, j] m) := weakS (go ha) fun E σ H ⟨α, s, G, h⟩ => by
  refine ⟨α, s, G, (AftSM.bind G h).mono fun xs s1 α1 H1 st h1 vs rvs => ?_⟩
  cases ep : putsM [i, j] xs s1.ρ with
  | none =>
    rw [ep] at h1
    exact h1.elim
  | some ρ2 =>
    rw [ep] at h1
    obtain ⟨st2, lv⟩ := stores_runM (K := X.K) (n := n) (s := s1) (μ := s1.μ) (by simp [hni, hnj]) (StpM.refl st.good) rvs ep
    match vs, lv with
    | [v, w], _ => exact ⟨v, w, rfl, h1 _ _ _ st2⟩
theorem ms_par3 {i j l : Nat} {x y z : Str} {a b c : Expr} {px py pz pt pos : Pos} {kt k2 pt2} {m : MoM (List Vl)} (hn : ∀ m ∈ [i, j, l], n ≤ m) (ha : MA X n W [a, b, c] m)
    (go : ∀ {ta : TA}, PA X [a, b, c] ta → PS X (.Assign [.Tuple [.Name x px, .Name y py, .Name z pz] kt pt] (.Tuple [a, b, c] k2 pt2) pos) (tPar3 i j l ta)) :
    MS X n W (.Assign [.Tuple [.Name x px, .Name y py, .Name z pz] kt pt] (.Tuple [a, b, c] k2 pt2) pos) (mMany [i, j, l] m) := weakS (go ha) fun E σ H ⟨α, s, G, h⟩ => by
  refine ⟨α, s, G, (AftSM.bind G h).mono fun xs s1 α1 H1 st h1 vs rvs => ?_⟩
  cases ep : putsM [i, j, l] xs s1.ρ with
  | none =>
    rw [ep] at h1
    exact h1.elim
  | some ρ2 =>
    rw [ep] at h1
    obtain ⟨st2, lv⟩ := stores_runM (K := X.K) (n := n) (s := s1) (μ := s1.μ) hn (StpM.refl st.good) rvs ep
    match vs, lv with
    | [u, v, w], _ => exact ⟨u, v, w, rfl, h1 _ _ _ st2⟩
/-! ### for, while -/
def loopM (g : TgM) (b : MoM OutM) : List Vl → MoM OutM
  | [], s => .ok .nx s
  | x :: xs, s => match g x s.ρ with
    | none => .no
    | some ρ1 => (b ⟨ρ1, s.μ⟩).bind fun o s2 => match o with
      | .nx => loopM g b xs s2
      | .ct => loopM g b xs s2
      | .bk => .ok .nx s2
      | .rt r => .ok (.rt r) s2
@[simp] def mFor (it : MoM (List Vl)) (g : TgM) (b : MoM OutM) : MoM OutM := fun s => (it s).bind fun xs s1 => loopM g b xs s1
theorem ms_for {iter : Expr} {body : List Stmt} {is : List Nat} {pos : Pos} {it : MoM (List Vl)} {g : TgM} {b : MoM OutM} (hp : PassesOwn (model X.prog X.w) X.A X.env X.xe) (hc : X.calm = true) (hi : MI X n W tg iter it) (hg : MG X n is tg g) (hb : MSs X n W body b)
    (hs : ∀ x, foldedSetIterable iter X.env x = pure x := by intro _; rfl) : MS X n W (.For tg iter body [] pos) (mFor it g b) := weakS (ps_for hp hc hi hg hb hs) fun E σ H ⟨α, s, G, h⟩ => by
  refine ⟨α, s, G, (AftSM.bind G h).mono fun xs s1 α1 H1 st1 h1 J wk => ?_⟩
  refine for_it wk (fun i σ' H' => ∃ α' s', StpM X.K n H1 σ α1 s1 H' σ' α' s' ∧ AftSM X.K n W E H1 σ α1 s1 (loopM g b (xs.drop i) s')) ⟨α1, s1, StpM.refl st1.good, h1⟩ (fun i σ' H' _ ⟨α', s', st, _⟩ => st.grow st1.good) (fun i x σ' H' H2 hi hP hY => ?_) (fun σ' H' ⟨α', s', st, h'⟩ => ?_)
  · obtain ⟨α', s', st, h'⟩ := hP
    obtain ⟨sm, y, ed, rv⟩ := hY
    have es : xs.drop i = y :: xs.drop (i + 1) := by
      have lt : i < xs.length := hi
      rw [List.drop_eq_getElem_cons lt]
      rw [List.getElem?_eq_getElem lt] at ed
      rw [Option.some.inj ed]
    rw [es] at h'
    have st2 := st.trans (StpM.same (n := n) st.good sm) st1.good
    obtain ⟨β, eβ⟩ := st2.ext
    have rv2 : RV X.K H2 α' x y := by
      rw [eβ]
      exact rv.ext (Grow.refl _)
    unfold loopM at h'
    cases eg : g y s'.ρ with
    | none =>
      rw [eg] at h'
      exact h'.elim
    | some ρ2 =>
      rw [eg] at h'
      refine ⟨α', s', y, st2.good, rv2, ρ2, eg, fun σ3 H3 α3 s3 _ _ => ⟨α3, ⟨ρ2, s'.μ⟩, s3.good, ?_⟩⟩
      have st3 := st2.trans s3 st1.good
      dsimp only at h'
      generalize b ⟨ρ2, s'.μ⟩ = z at h'
      cases z with
      | no => exact h'
      | ex c e s4 => exact fun σ4 H4 α4 s4 => h' σ4 H4 α4 (st3.trans s4 st1.good)
      | ok o s4 => cases o with
        | nx => exact fun σ4 H4 α4 st4 => ⟨α4, s4, st3.trans st4 st1.good, h'⟩
        | ct => exact fun σ4 H4 α4 st4 => ⟨α4, s4, st3.trans st4 st1.good, h'⟩
        | bk => exact fun σ4 H4 α4 st4 => h' σ4 H4 α4 (st3.trans st4 st1.good)
        | rt r => exact fun v σ4 H4 α4 st4 rv => h' v σ4 H4 α4 (st3.trans st4 st1.good) rv
  · rw [List.drop_length] at h'
    exact h' σ' H' α' st
def whileM (c : MoM Bool) (b : MoM OutM) : Nat → MoM OutM
  | 0, _ => .no
  | k + 1, s => (c s).bind fun t s1 => if t = true then (b s1).bind fun o s2 => match o with
      | .nx => whileM c b k s2
      | .ct => whileM c b k s2
      | .bk => .ok .nx s2
      | .rt r => .ok (.rt r) s2
    else .ok .nx s1
theorem ms_while {c : Expr} {body : List Stmt} {pos : Pos} {fc : MoM Bool} {b : MoM OutM} (k : Nat) (hp : PassesOwn (model X.prog X.w) X.A X.env X.xe) (hc : MB X n W c fc) (hb : MSs X n W body b) : MS X n W (.While c body [] pos) (whileM fc b k) := weakS (ps_while hp hc hb) fun E σ H ⟨α, s, G, h⟩ => by
  refine ⟨fun m σ' H' => ∃ α' s', StpM X.K n H σ α s H' σ' α' s' ∧ AftSM X.K n W E H σ α s (whileM fc b m s'), ⟨k, α, s, StpM.refl G, h⟩, fun m σ' H' hW => ?_⟩
  obtain ⟨α', s', st, h'⟩ := hW
  cases m with
  | zero => exact h'.elim
  | succ m =>
    refine ⟨α', s', st.good, (AftSM.bind' st G h').mono fun t s1 α1 H1 st0 h1 => ?_⟩
    have st1 := st.trans st0 G
    cases t with
    | false => exact iteF (h1 σ' H1 α1 st1)
    | true =>
      refine iteT ⟨fun σ2 H2 => ∃ α2 s2, StpM X.K n H σ α s H2 σ2 α2 s2 ∧ AftSM X.K n W E H σ α s (whileM fc b m s2), fun σ2 H2 w2 => ⟨m, Nat.lt_succ_self m, w2⟩, α1, s1, st0.good, ?_⟩
      have h1 : AftSM X.K n W E H σ α s ((b s1).bind fun o s2 => match o with
        | .nx => whileM fc b m s2
        | .ct => whileM fc b m s2
        | .bk => .ok .nx s2
        | .rt r => .ok (.rt r) s2) := h1
      generalize b s1 = z at h1
      cases z with
      | no => exact h1
      | ex c e s3 => exact fun σ4 H4 α4 s4 => h1 σ4 H4 α4 (st1.trans s4 G)
      | ok o s3 => cases o with
        | nx => exact fun σ4 H4 α4 st4 => ⟨α4, s3, st1.trans st4 G, h1⟩
        | ct => exact fun σ4 H4 α4 st4 => ⟨α4, s3, st1.trans st4 G, h1⟩
        | bk => exact fun σ4 H4 α4 st4 => h1 σ4 H4 α4 (st1.trans st4 G)
        | rt r => exact fun v σ4 H4 α4 st4 rv => h1 v σ4 H4 α4 (st1.trans st4 G) rv
end
end Q
namespace Q
open PySem PySem.Spec PyProof.Rows L2 Gd
variable [Tbl]
/-! ### comprehensions in the layer of objects -/
@[simp] def wipeM (ρ : List Sm) : List Nat → List Sm
  | [] => ρ
  | v :: vs => (wipeM ρ vs).set v .no
@[simp] def mixM (ρ0 ρ : List Sm) : List Nat → List Sm
  | [] => ρ
  | v :: vs => (mixM ρ0 ρ vs).set v (ρ0.getD v .no)
theorem wipeM_len (ρ : List Sm) : ∀ vs, (wipeM ρ vs).length = ρ.length
  | [] => rfl
  | v :: vs => by
    show ((wipeM ρ vs).set v .no).length = _
    rw [List.length_set, wipeM_len ρ vs]
theorem mixM_len (ρ0 ρ : List Sm) : ∀ vs, (mixM ρ0 ρ vs).length = ρ.length
  | [] => rfl
  | v :: vs => by
    show ((mixM ρ0 ρ vs).set v _).length = _
    rw [List.length_set, mixM_len ρ0 ρ vs]
theorem wipeM_in {ρ : List Sm} {j : Nat} : ∀ {vs : List Nat}, j ∈ vs → j < ρ.length → (wipeM ρ vs)[j]? = some .no
  | v :: vs, h, lt => by
    show ((wipeM ρ vs).set v .no)[j]? = _
    by_cases e : v = j
    · subst e
      exact set_at (by rw [wipeM_len]; exact lt)
    · rw [set_ne e]
      refine wipeM_in ?_ lt
      rcases List.mem_cons.mp h with z | z
      · exact absurd z.symm e
      · exact z
theorem wipeM_out {ρ : List Sm} {j : Nat} : ∀ {vs : List Nat}, j ∉ vs → (wipeM ρ vs)[j]? = ρ[j]?
  | [], _ => rfl
  | v :: vs, h => by
    show ((wipeM ρ vs).set v .no)[j]? = _
    rw [set_ne fun e => h (by rw [e]; exact List.mem_cons_self)]
    exact wipeM_out fun z => h (List.mem_cons_of_mem _ z)
theorem wipeM_some {ρ : List Sm} {j : Nat} {vs : List Nat} {t : Sm} (h : (wipeM ρ vs)[j]? = some t) (ne : t ≠ .no) : j ∉ vs ∧ ρ[j]? = some t := by
  have lt : j < ρ.length := by
    have := (List.getElem?_eq_some_iff.mp h).1
    rw [wipeM_len] at this
    exact this
  by_cases z : j ∈ vs
  · rw [wipeM_in z lt] at h
    cases h
    exact absurd rfl ne
  · rw [wipeM_out z] at h
    exact ⟨z, h⟩
theorem mixM_in {ρ0 ρ : List Sm} {j : Nat} (l0 : ρ0.length = ρ.length) : ∀ {vs : List Nat}, j ∈ vs → j < ρ.length → (mixM ρ0 ρ vs)[j]? = ρ0[j]?
  | v :: vs, h, lt => by
    show ((mixM ρ0 ρ vs).set v _)[j]? = _
    by_cases e : v = j
    · subst e
      rw [set_at (by rw [mixM_len]; exact lt), List.getD_eq_getElem?_getD, List.getElem?_eq_getElem (by omega)]
      rfl
    · rw [set_ne e]
      refine mixM_in l0 ?_ lt
      rcases List.mem_cons.mp h with z | z
      · exact absurd z.symm e
      · exact z
theorem mixM_out {ρ0 ρ : List Sm} {j : Nat} : ∀ {vs : List Nat}, j ∉ vs → (mixM ρ0 ρ vs)[j]? = ρ[j]?
  | [], _ => rfl
  | v :: vs, h => by
    show ((mixM ρ0 ρ vs).set v _)[j]? = _
    rw [set_ne fun e => h (by rw [e]; exact List.mem_cons_self)]
    exact mixM_out fun z => h (List.mem_cons_of_mem _ z)
def wipeS (s : Ms) (vs : List Nat) : Ms := ⟨wipeM s.ρ vs, s.μ⟩
section
variable {K : PySem.W.Frag} {n : Nat} {H H1 H2 H' : Hp} {σ σ1 σ2 σ' : St} {α α1 α2 α' : List Addr} {s s1 s2 s' : Ms} {vs : List Nat}
theorem GoodM.wipe (G : GoodM K H σ α s) (vs : List Nat) : GoodM K H (wipe σ vs) α (wipeS s vs) := by
  refine ⟨by show _ = (wipeM s.ρ vs).length; rw [wipe_length, wipeM_len, G.len], fun i x h => ?_, fun i c f d h => ?_, G.la, G.obj, G.nd, G.tab⟩
  · obtain ⟨ni, e⟩ := wipeM_some h (fun z => nomatch z)
    rw [wipe_out ni]
    exact G.val i x e
  · obtain ⟨ni, e⟩ := wipeM_some h (fun z => nomatch z)
    rw [wipe_out ni]
    exact G.exc i c f d e
theorem StpM.wiped (st : StpM K n H σ α s H' σ' α' s') (hv : ∀ v ∈ vs, n ≤ v) : StpM K n H σ α s H' (wipe σ' vs) α' (wipeS s' vs) := by
  refine ⟨st.good.wipe vs, fun i hi => ?_, st.ext, st.kept, st.live, st.news, st.gone⟩
  have ni : i ∉ vs := fun z => by
    have := hv i z
    omega
  rw [wipe_out ni]
  exact st.par i hi
theorem StpM.mixed (G : GoodM K H σ α s) (hv : ∀ v ∈ vs, n ≤ v) (st : StpM K n H (wipe σ vs) α (wipeS s vs) H' (wipe σ vs) α' s') : StpM K n H σ α s H' σ α' ⟨mixM s.ρ s'.ρ vs, s'.μ⟩ := by
  have l : s.ρ.length = s'.ρ.length := by
    have := st.good.len
    rw [wipe_length, G.len] at this
    exact this
  have g := st.grow (G.wipe vs)
  obtain ⟨β, eβ⟩ := st.ext
  refine ⟨⟨by show _ = (mixM s.ρ s'.ρ vs).length; rw [mixM_len, ← l, G.len], fun i x h => ?_, fun i c f d h => ?_, st.good.la, st.good.obj, st.good.nd, st.good.tab⟩, fun _ _ => rfl, st.ext, st.kept, st.live, st.news, st.gone⟩
  · have h : (mixM s.ρ s'.ρ vs)[i]? = some (.v x) := h
    by_cases z : i ∈ vs
    · rw [mixM_in l z (by have := (List.getElem?_eq_some_iff.mp h).1; rw [mixM_len] at this; exact this)] at h
      obtain ⟨v, e, rv⟩ := G.val i x h
      refine ⟨v, e, ?_⟩
      rw [eβ]
      exact rv.ext g
    · rw [mixM_out z] at h
      obtain ⟨v, e, rv⟩ := st.good.val i x h
      rw [wipe_out z] at e
      exact ⟨v, e, rv⟩
  · have h : (mixM s.ρ s'.ρ vs)[i]? = some (.exc c f d) := h
    by_cases z : i ∈ vs
    · rw [mixM_in l z (by have := (List.getElem?_eq_some_iff.mp h).1; rw [mixM_len] at this; exact this)] at h
      exact (G.exc i c f d h).elim fun a q => ⟨a, q.1, q.2.grow g⟩
    · rw [mixM_out z] at h
      obtain ⟨v, e, rv⟩ := st.good.exc i c f d h
      rw [wipe_out z] at e
      exact ⟨v, e, rv⟩
/-- a thing beside the store is changed -/
theorem StpM.beside (st : StpM K n H σ α s H' σ' α' s') {p : Addr} {h u : HO} (np : H p = none) (e : H' p = some h) (m : Mut (some h)) (nt : NoTab h) (na : p ∉ α') : StpM K n H σ α s (upd H' p u) σ' α' s' := by
  have nl : ∀ b, LiveM α' s'.μ b → b ≠ p := fun b lb z => by
    obtain ⟨i, c, e, _⟩ := lb
    exact na (by rw [← z]; exact List.mem_of_getElem? e)
  refine ⟨st.good.grow (grow_upd e m (noTab_code nt)) (fun b o lb q => by rw [upd_ne (nl b lb)]; exact q) (live_upd e) (TabOk.upd e m nt), st.par, st.ext, fun b o eb nb nt => ?_, fun b hb => st.live b (live_upd e b hb), st.news, st.gone⟩
  rw [upd_ne (ne_of_none eb np)]
  exact st.kept b o eb nb nt
/-- a thing beside the store stays -/
theorem StpM.stays (st : StpM K n H σ α s H' σ' α' s') {p : Addr} {h : HO} (e : H p = some h) (nt : ∀ ps, h ≠ .tbl ps) (na : p ∉ α) : H' p = some h ∧ p ∉ α' := by
  refine ⟨st.kept p h e (fun z => ?_) nt, fun z => ?_⟩
  · obtain ⟨i, c, e1, _⟩ := z
    exact na (List.mem_of_getElem? e1)
  · obtain ⟨i, ei⟩ := List.mem_iff_getElem?.mp z
    by_cases l : i < α.length
    · obtain ⟨β, eβ⟩ := st.ext
      rw [eβ, List.getElem?_append_left l] at ei
      exact na (List.mem_of_getElem? ei)
    · have := st.news i p (by omega) ei
      rw [e] at this
      cases this
end
@[simp] def RtM.bnd {β γ : Type} : RtM β → (β → Ms → RtM γ) → RtM γ
  | .ok a s, k => k a s
  | _, _ => .no
def compM (g : TgM) (t : MoM Bool) (e : MoM Vl) (vs : List Nat) : List Vl → MoM (List Vl)
  | [], s => .ok [] s
  | x :: xs, s => match g x s.ρ with
    | none => .no
    | some ρ1 => (t ⟨ρ1, s.μ⟩).bnd fun b s2 => if b = true then (e s2).bnd fun y s3 => (compM g t e vs xs (wipeS s3 vs)).bnd fun ys s4 => .ok (y :: ys) s4
      else compM g t e vs xs (wipeS s2 vs)
@[simp] def fCompM (it : MoM (List Vl)) (g : TgM) (t : MoM Bool) (e : MoM Vl) (vs : List Nat) : MoM Oc := fun s => (it s).bind fun xs s1 => if xs.length ≤ 1000000 then (compM g t e vs xs (wipeS s1 vs)).bnd fun ys s2 => .ok (.lst ys) ⟨mixM s1.ρ s2.ρ vs, s2.μ⟩ else .no
@[simp] def bYesM : MoM Bool := fun s => .ok true s
theorem mts_nil {X : Cx} {n : Nat} {W : XW} : PTs X [] (tXbM X.K n W bYesM) := ⟨fun pins s σ H Q I ⟨α, s', G, h⟩ => (pts_nil (X := X)).run pins s σ H Q I (AftM.ok G h)⟩
section
variable {X : Cx} {n : Nat} {W : XW} {tg : Expr}
theorem comp_runM {K : PySem.W.Frag} {is vs : List Nat} {it : MoM (List Vl)} {g : TgM} {t : MoM Bool} {e : MoM Vl} (his : ∀ i ∈ is, i ∈ vs) (hn : ∀ v ∈ vs, n ≤ v) (σ : St) (H : Hp) (Q : VK) (h : tFM K n W (fCompM it g t e vs) σ H Q) : tLc (tIM K n W it) (tGM K n is g) (tXbM K n W0 t) (tXM K n W0 e) vs σ H Q := by
  obtain ⟨α, s, G, h⟩ := h
  refine ⟨α, s, G, (AftM.bind G h).mono fun xs s1 α1 H1 st1 h1 J wk D hD => ?_⟩
  split at h1
  case isFalse => exact h1.elim
  case isTrue hl =>
  have sD := same_upd (o := .lst []) hD
  have na1 : D ∉ α1 := st1.good.fresh hD
  have GW := st1.good.wipe vs
  have stD : StpM K n H1 (wipe σ vs) α1 (wipeS s1 vs) (upd H1 D (.lst [])) (wipe σ vs) α1 (wipeS s1 vs) := StpM.same GW sD
  refine lc_it wk (fun i H' => ∃ α' s' acc axs, StpM K n H1 (wipe σ vs) α1 (wipeS s1 vs) H' (wipe σ vs) α' s' ∧ H' D = some (.lst acc) ∧ RVs K H' α' acc axs ∧ acc.length ≤ i ∧ D ∉ α' ∧
      ∃ ys s2, compM g t e vs (xs.drop i) s' = .ok ys s2 ∧ compM g t e vs xs (wipeS s1 vs) = .ok (axs ++ ys) s2) ?_ (fun i H' _ hP => ?_) (fun i x H' H2 hi hP hY => ?_) (fun H' hP => ?_)
  · cases ec : compM g t e vs xs (wipeS s1 vs) with
    | no =>
      rw [ec] at h1
      exact h1.elim
    | ex c d ρ' =>
      rw [ec] at h1
      exact h1.elim
    | ok ys s2 => exact ⟨α1, _, [], [], stD, upd_same, .nil, Nat.le_refl _, na1, ys, s2, ec, rfl⟩
  · obtain ⟨α', s', acc, axs, st, _⟩ := hP
    exact st.grow GW
  · obtain ⟨α', s', acc, axs, st, eD, im, la, na, ys, s2, ec, et⟩ := hP
    obtain ⟨sm, y, ed, rv⟩ := hY
    have lt : i < xs.length := hi
    have es : xs.drop i = y :: xs.drop (i + 1) := by
      rw [List.drop_eq_getElem_cons lt]
      rw [List.getElem?_eq_getElem lt] at ed
      rw [Option.some.inj ed]
    rw [es] at ec
    have stS := StpM.same (n := n) st.good sm
    have st2 := st.trans stS GW
    have eD2 := sm _ _ eD
    have im2 := im.on stS st.good
    obtain ⟨β, eβ⟩ := st2.ext
    have rv2 : RV K H2 α' x y := by
      rw [eβ]
      exact rv.ext (Grow.refl _)
    unfold compM at ec
    cases eg : g y s'.ρ with
    | none =>
      rw [eg] at ec
      cases ec
    | some ρ3 =>
      rw [eg] at ec
      refine ⟨α', s', y, st2.good, rv2, ρ3, eg, fun σ3 H3 α3 s3 nj l3 => ?_⟩
      have l3 : σ3.length = σ.length := by rw [l3, wipe_length]
      have ew : wipe σ3 vs = wipe σ vs := wipe_eq l3 fun j hj => nj j fun z => hj (his j z)
      refine ⟨ew, α3, ⟨ρ3, s'.μ⟩, s3.good, ?_⟩
      obtain ⟨eD3, na3⟩ := s3.stays eD2 (fun ps z => nomatch z) na
      have im3 := im2.on s3 st2.good
      have st3 := st2.trans s3 GW
      dsimp only at ec
      cases ett : t ⟨ρ3, s'.μ⟩ with
      | no =>
        rw [ett] at ec
        cases ec
      | ex c e ρ4 =>
        rw [ett] at ec
        cases ec
      | ok b s4 =>
        rw [ett] at ec
        intro H4 α4 st4'
        obtain ⟨eD4, na4⟩ := st4'.stays eD3 (fun ps z => nomatch z) na3
        have im4 := im3.on st4' s3.good
        have st4 := st3.trans st4' GW
        cases b with
        | false =>
          refine iteF ⟨α4, wipeS s4 vs, acc, axs, ?_, eD4, im4, by omega, na4, ys, s2, ec, et⟩
          have := st4.wiped (vs := vs) hn
          rw [ew] at this
          exact this
        | true =>
          refine iteT ⟨α4, s4, st4'.good, ?_⟩
          have ec : (e s4).bnd (fun y s3 => (compM g t e vs (xs.drop (i + 1)) (wipeS s3 vs)).bnd fun ys s4 => .ok (y :: ys) s4) = .ok ys s2 := ec
          cases ee : e s4 with
          | no =>
            rw [ee] at ec
            cases ec
          | ex c f s5 =>
            rw [ee] at ec
            cases ec
          | ok r s5 =>
            rw [ee] at ec
            intro H5 α5 st5' v rv
            obtain ⟨eD5, na5⟩ := st5'.stays eD4 (fun ps z => nomatch z) na4
            have im5 := im4.on st5' st4'.good
            have st5 := st4.trans st5' GW
            have ec : (compM g t e vs (xs.drop (i + 1)) (wipeS s5 vs)).bnd (fun ys s4 => .ok (r :: ys) s4) = .ok ys s2 := ec
            cases er : compM g t e vs (xs.drop (i + 1)) (wipeS s5 vs) with
            | no =>
              rw [er] at ec
              cases ec
            | ex c f s6 =>
              rw [er] at ec
              cases ec
            | ok zs s6 =>
              rw [er] at ec
              cases ec
              have gu : Grow H5 (upd H5 D (.lst (acc ++ [v]))) := grow_upd eD5 trivial (noTab_code (h := .lst _) trivial)
              have im6 := (im5.append (.cons rv .nil)).ext (β := []) gu
              rw [List.append_nil] at im6
              refine ⟨acc, eD5, Nat.lt_of_lt_of_le (Nat.lt_of_le_of_lt la lt) (Nat.le_trans hl (by decide)), α5, wipeS s5 vs, acc ++ [v], axs ++ [r], ?_, upd_same, im6, by rw [List.length_append]; show acc.length + 1 ≤ _; omega, na5, zs, s2, er, by rw [et, List.append_assoc]; rfl⟩
              have := (st5.beside (u := .lst (acc ++ [v])) hD eD5 trivial trivial na5).wiped (vs := vs) hn
              rw [ew] at this
              exact this
  · obtain ⟨α', s', acc, axs, st, eD, im, la, na, ys, s2, ec, et⟩ := hP
    rw [List.drop_length] at ec
    cases ec
    rw [List.append_nil] at et
    rw [et] at h1
    exact h1 H' α' (StpM.mixed st1.good hn st) D (st1.live D hD) na ⟨acc, eD, im⟩ (fun z => nomatch z)
theorem mf_comp {elt iter : Expr} {ifs : List Expr} {scope : Scope} {own : List (Str × Nat)} {is vs : List Nat} {pos : Pos} {it : MoM (List Vl)} {g : TgM} {t : MoM Bool} {e : MoM Vl} (hc : X.calm = true) (hN : X.N.Nodup) (hv : vs = own.map (·.2)) (his : ∀ i ∈ is, i ∈ vs) (hn : ∀ v ∈ vs, n ≤ v)
    (hi : MI X n W tg iter it) (ok : BlkOk X.N X.env.scope scope own)
    (hg : ∀ (s : Shared) (H : Hp) (C : Addr) (cl : List (Str × Addr)) (fp : List Addr), PG (X.blk s H scope (compEnvC scope cl C X.env) fp) tg (tGM X.K n is g)) (ht : ∀ (s : Shared) (H : Hp) (C : Addr) (cl : List (Str × Addr)) (fp : List Addr), PTs (X.blk s H scope (compEnvC scope cl C X.env) fp) ifs (tXbM X.K n W0 t))
    (he : ∀ (s : Shared) (H : Hp) (C : Addr) (cl : List (Str × Addr)) (fp : List Addr), PE (X.blk s H scope (compEnvC scope cl C X.env) fp) elt (tXM X.K n W0 e)) (hs : ∀ x, foldedSetIterable iter X.env x = pure x := by intro _; rfl) :
    MF X n W (.ListComp elt [⟨tg, iter, ifs, 0⟩] scope pos) (fCompM it g t e vs) := by
  subst hv
  exact weakE (pe_lc hc hN hi ok hg ht he hs) (comp_runM his hn)
end
end Q
namespace Q
open PySem PySem.Spec PyProof.Rows L2 Gd
variable [Tbl]
/-! ### built-ins, lists, old defs in the layer of objects -/
section
variable {X : Cx} {n : Nat} {W : XW}
theorem md_callB {id : String} {F : List D → Option D} {x : Str} {p pos : Pos} {e : Expr} {es : List Expr} {m : MoM (List Vl)} (hc : CallR X (.builtin id) (rQN X.K F)) (hg : Gl X x) (hm : X.mg x = none) (hv : bootBuiltins x = some (.builtin id)) (ha : MA X n W (e :: es) m) (hn : x ≠ "__name__" := by decide) (hdb : (x == ("__debug__" : Str)) = false := by decide)
    (he : starEach (e :: es) X.env = (false, eval e X.env) :: starEach es X.env := by rfl) (hpl : (backTo pos (starEach es X.env)).any (·.1) = false := by rfl) : MD X n W (.Call (.Name x p) (e :: es) [] pos) (eNM F m) := weakE (pe_callB hc hg hm hv ha hn hdb he hpl) (opN_runM qN)
theorem md_callT {T : String} {F : List D → Option D} {x : Str} {p pos : Pos} {e : Expr} {es : List Expr} {m : MoM (List Vl)} (hc : CallR X (.type T) (rQN X.K F)) (hg : Gl X x) (hm : X.mg x = none) (hv : bootBuiltins x = some (.type T)) (ha : MA X n W (e :: es) m) (hn : x ≠ "__name__" := by decide) (hdb : (x == ("__debug__" : Str)) = false := by decide)
    (he : starEach (e :: es) X.env = (false, eval e X.env) :: starEach es X.env := by rfl) (hpl : (backTo pos (starEach es X.env)).any (·.1) = false := by rfl) : MD X n W (.Call (.Name x p) (e :: es) [] pos) (eNM F m) := weakE (pe_callTy hc hg hm hv ha hn hdb he hpl) (opN_runM qN)
@[simp] def asLM (o : Option (List D)) : MoM Oc := fun s => match o with
  | some ds => .ok (.lst (ds.map .d)) s
  | none => .no
theorem new_outM {K : PySem.W.Frag} {H0 H : Hp} {σ : St} {α : List Addr} {s : Ms} {o : Option (List D)} {Q : VK} (G : GoodM K H σ α s) (h0 : ∀ p, H p = none → H0 p = none) (h : AftM K n W H σ α s (asLM o s) fun c _ α' H' => ∀ p, H0 p = none → p ∉ α' → OcR K H' α' p c → c ≠ .gone → Q (.ref p) H') :
    ∃ ds, o = some ds ∧ ∀ p vs, H p = none → ImL K H vs ds → Q (.ref p) (upd H p (.lst vs)) := by
  cases o with
  | none => exact h.elim
  | some ds => exact ⟨ds, rfl, fun p vs hp im => h _ α (StpM.same G (same_upd hp)) p (h0 p hp) (G.fresh hp) ⟨vs, upd_same, (im.same (same_upd hp)).rvs⟩ (fun z => nomatch z)⟩
@[simp] def fNM (F : List D → Option (List D)) (m : MoM (List Vl)) : MoM Oc := fun s => (m s).bind fun xs s1 => asLM ((looksM s1.μ xs).bind F) s1
theorem fN_runM {F : List D → Option (List D)} {m : MoM (List Vl)} (σ : St) (H : Hp) (Q : VK) (h : tFM X.K n W (fNM F m) σ H Q) : tXsM X.K n W m σ H fun xs H1 => rFN X.K F xs H1 Q := by
  obtain ⟨α, s, G, h⟩ := h
  refine ⟨α, s, G, (AftM.bind G h).mono fun xs s1 α1 H1 st h1 vs rvs => ?_⟩
  obtain ⟨ds, e, q⟩ := new_outM st.good st.live h1
  cases ea : looksM s1.μ xs with
  | none =>
    rw [ea] at e
    cases e
  | some as =>
    rw [ea] at e
    exact ⟨as, ds, rvs.see st.good ea, e, q⟩
theorem mf_callB {id : String} {F : List D → Option (List D)} {x : Str} {p pos : Pos} {e : Expr} {es : List Expr} {m : MoM (List Vl)} (hc : CallR X (.builtin id) (rFN X.K F)) (hg : Gl X x) (hm : X.mg x = none) (hv : bootBuiltins x = some (.builtin id)) (ha : MA X n W (e :: es) m) (hn : x ≠ "__name__" := by decide) (hdb : (x == ("__debug__" : Str)) = false := by decide)
    (he : starEach (e :: es) X.env = (false, eval e X.env) :: starEach es X.env := by rfl) (hpl : (backTo pos (starEach es X.env)).any (·.1) = false := by rfl) : MF X n W (.Call (.Name x p) (e :: es) [] pos) (fNM F m) := weakE (pe_callB hc hg hm hv ha hn hdb he hpl) fN_runM
@[simp] def f2M (F : D → D → Option (List D)) (f g : MoM Vl) : MoM Oc := fun s => (f s).bind fun a s1 => (g s1).bind fun b s2 => asLM ((lookM s2.μ a).bind fun x => (lookM s2.μ b).bind fun y => F x y) s2
theorem f2_runM {F : D → D → Option (List D)} {f g : MoM Vl} (σ : St) (H : Hp) (Q : VK) (h : tFM X.K n W (f2M F f g) σ H Q) : tXM X.K n W f σ H fun x H1 => tXM X.K n W g σ H1 fun y H2 => rF2 X.K F x y H2 Q := by
  obtain ⟨α, s, G, h⟩ := h
  refine ⟨α, s, G, (AftM.bind G h).mono fun a s1 α1 H1 st1 h1 v rv => ⟨α1, s1, st1.good, (AftM.bind st1.good h1).mono fun b s2 α2 H2 st2 h2 u ru => ?_⟩⟩
  obtain ⟨ds, e, q⟩ := new_outM st2.good (fun p hp => st1.live p (st2.live p hp)) h2
  cases ea : lookM s2.μ a with
  | none =>
    rw [ea] at e
    cases e
  | some x =>
    rw [ea] at e
    cases eb : lookM s2.μ b with
    | none =>
      rw [eb] at e
      cases e
    | some y =>
      rw [eb] at e
      exact ⟨x, y, ds, (rv.on st2 st1.good).see st2.good ea, ru.see st2.good eb, e, q⟩
theorem mf_cat {a b : Expr} {pos : Pos} {f g : MoM Vl} (ha : MD X n W a f) (hb : MD X n W b g) : MF X n W (.BinOp a .Add b pos) (f2M cat2 f g) := weakE (pe_op o_cat ha hb) f2_runM
/-! slices -/
def tPM (K : PySem.W.Frag) (n : Nat) (W : XW) (m : MoM (Option Int)) : TO := fun σ H Q => ∃ α s, GoodM K H σ α s ∧ AftM K n W H σ α s (m s) fun o _ _ H' => Q o H'
abbrev MP (X : Cx) (n : Nat) (W : XW) (e : Option Expr) (m : MoM (Option Int)) : Prop := PO X e (tPM X.K n W m)
@[simp] def pNoM : MoM (Option Int) := fun s => .ok none s
@[simp] def pSoM (f : MoM Vl) : MoM (Option Int) := fun s => (f s).bind fun x s1 => match lookM s1.μ x with
  | some (.int i) => .ok (some i) s1
  | _ => .no
theorem mp_no : MP X n W none pNoM := weakO po_none fun σ H Q ⟨α, s, G, h⟩ => AftM.ok G h
theorem mp_so {e : Expr} {f : MoM Vl} (he : MD X n W e f) : MP X n W (some e) (pSoM f) := weakO (po_some he) fun σ H Q ⟨α, s, G, h⟩ => by
  refine ⟨α, s, G, (AftM.bind G h).mono fun x s1 α1 H1 st h1 v rv => ?_⟩
  split at h1
  · next i e =>
    have := (rv.see st.good e).int
    exact ⟨i, this, AftM.ok st.good h1⟩
  · exact h1.elim
@[simp] def eSlM (f : MoM Vl) (lo hi : MoM (Option Int)) : MoM Vl := fun s => (f s).bind fun x s1 => (lo s1).bind fun l s2 => (hi s2).bind fun h s3 => liftM ((lookM s3.μ x).bind fun d => cutD d l h) s3
@[simp] def fSlM (f : MoM Vl) (lo hi : MoM (Option Int)) : MoM Oc := fun s => (f s).bind fun x s1 => (lo s1).bind fun l s2 => (hi s2).bind fun h s3 => asLM ((lookM s3.μ x).bind fun d => match d with
  | .list ds => some (cutL ds l h)
  | _ => none) s3
theorem mf_sl {e : Expr} {lo hi : Option Expr} {p2 pos : Pos} {f : MoM Vl} {l h : MoM (Option Int)} (he : MD X n W e f) (hl : MP X n W lo l) (hh : MP X n W hi h) : MF X n W (.Subscript e (.Slice lo hi none p2) pos) (fSlM f l h) := weakE (pe_slice sl_list he hl hh) fun σ H Q ⟨α, s, G, h⟩ => by
  refine ⟨α, s, G, (AftM.bind G h).mono fun x s1 α1 H1 st1 h1 v rv => ⟨α1, s1, st1.good, (AftM.bind st1.good h1).mono fun l s2 α2 H2 st2 h2 => ⟨α2, s2, st2.good, (AftM.bind st2.good h2).mono fun u s3 α3 H3 st3 h3 => ?_⟩⟩⟩
  obtain ⟨ds, e, q⟩ := new_outM st3.good (fun p hp => st1.live p (st2.live p (st3.live p hp))) h3
  obtain ⟨y, ey, ed⟩ := Option.bind_eq_some_iff.mp e
  cases y with
  | list es =>
    cases ed
    obtain ⟨p, xs, rfl, hp, ip⟩ := (((rv.on st2 st1.good).on st3 st2.good).see st3.good ey).list
    exact ⟨p, xs, rfl, hp, fun l hl => q l _ hl (ip.cut _ _)⟩
  | _ => cases ed
/-! ### methods that change a list of the store -/
@[simp] def eMutM (F : List D → List D → Option (D × List D)) (f : MoM Vl) (m : MoM (List Vl)) : MoM Vl := fun s => (f s).bind fun x s1 => match x with
  | .o i => match s1.μ[i]? with
    | some (.lst _) => (m s1).bind fun rs s2 => match s2.μ[i]? with
      | some (.lst xs) => match datsM xs, datsM rs with
        | some ds, some as => match F ds as with
          | some (res, ds') => .ok (.d res) ⟨s2.ρ, s2.μ.set i (.lst (ds'.map .d))⟩
          | none => .no
        | _, _ => .no
      | _ => .no
    | _ => .no
  | .d _ => .no
theorem mut_runM {F : List D → List D → Option (D × List D)} {f : MoM Vl} {m : MoM (List Vl)} (σ : St) (H : Hp) (Q : VK) (h : tXM X.K n W (eMutM F f m) σ H Q) :
    tXM X.K n W f σ H fun x H1 => tyV X.K "list" x H1 ∧ tXsM X.K n W m σ H1 fun vs H2 => rMut X.K F x vs H2 Q := by
  obtain ⟨α, s, G, h⟩ := h
  refine ⟨α, s, G, (AftM.bind G h).mono fun x s1 α1 H1 st1 h1 v rv => ?_⟩
  cases rv with
  | d _ => exact h1.elim
  | @o a i ea =>
    dsimp only at h1
    split at h1
    · next xs0 e0 =>
      obtain ⟨vs0, f1, _⟩ := st1.good.obj i a _ ea e0
      refine ⟨.inl ⟨rfl, _, .inl (.inl f1)⟩, α1, s1, st1.good, (AftM.bind st1.good h1).mono fun rs s2 α2 H2 st2 h2 ws rws => ?_⟩
      obtain ⟨β, eβ⟩ := st2.ext
      have ea2 : α2[i]? = some a := by
        rw [eβ, List.getElem?_append_left (List.getElem?_eq_some_iff.mp ea).1]
        exact ea
      split at h2
      · next xs e3 =>
        split at h2
        · next ds as e4 e5 =>
          split at h2
          · next res ds' e6 =>
            obtain ⟨vs, g1, r⟩ := st2.good.obj i a _ ea2 e3
            have im := datsM_r r e4
            refine ⟨a, vs, ds, as, res, ds', rfl, g1, im, datsM_r rws e5, e6, fun ys v i1 i2 => ?_⟩
            have gr : Grow H2 (upd H2 a (.lst ys)) := grow_upd g1 trivial (noTab_code (h := .lst _) trivial)
            have st := StpM.write (n := n) st2.good ea2 e3 (c' := .lst (ds'.map .d)) (h' := .lst ys) (fun z => nomatch z) (fun z => nomatch z) fun g => ⟨ys, upd_same, (i1.grow g).rvs⟩
            exact h2 _ α2 st v (.d (i2.grow gr))
          · exact h2.elim
        · exact h2.elim
      · exact h2.elim
    · exact h1.elim
theorem md_mut {F : List D → List D → Option (D × List D)} {name : Str} {id : String} {o : Expr} {apos cpos : Pos} {e : Expr} {es : List Expr} {f : MoM Vl} {m : MoM (List Vl)} (hm : MtR X id (rMut X.K F)) (slot : Slot "list" name id) (hty : typeOf (.builtin id) = pure (.type "method_descriptor")) (hx : MD X n W o f) (ha : MA X n W (e :: es) m)
    (hbase : attributeBase o name X.env (eval o X.env) = eval o X.env := by rfl)
    (hfew : ((backTo cpos (starEach (e :: es) X.env)).all (fun x => !x.1) && (backToKw cpos (keywordEach [] X.env)).all (fun x => x.1.isSome) && decide ((e :: es).length + ([] : List Keyword).length + (if ([] : List Keyword).isEmpty then 0 else 1) < 30)) = true := by rfl)
    (hline : (apos.endLine == cpos.line) = true := by rfl) (hs : starEach (e :: es) X.env = (false, eval e X.env) :: starEach es X.env := by rfl) (hplain : (backTo cpos (starEach es X.env)).any (·.1) = false := by rfl) :
    MD X n W (.Call (.Attribute o name apos) (e :: es) [] cpos) (eMutM F f m) := weakE (pe_bm PySem.F.plainAttrs_list slot hty hm hx ha hbase hfew hline hs hplain) mut_runM
end
/-! ### defs of the layer of data, called with things of the store -/
def argO (μ : List Oc) : List Vl → Option (List Sl)
  | [] => some []
  | .d x :: r => (argO μ r).map (.dat x :: ·)
  | .o i :: r => match μ[i]?, argO μ r with
    | some (.lst xs), some as => (datsM xs).map fun ds => .own (.lst ds) :: as
    | some (.dk kvs), some as => (kvsM kvs).map fun ds => .own (.dk ds) :: as
    | _, _ => none
def idsO : List Vl → List Nat
  | [] => []
  | .d _ :: r => idsO r
  | .o i :: r => i :: idsO r
def backO : List Vl → List Sl → List Oc → Option (List Oc)
  | .d _ :: r, _ :: as, μ => backO r as μ
  | .o i :: r, .own o :: as, μ => match ocOf o, backO r as μ with
    | some c, some μ' => some (μ'.set i c)
    | _, _ => none
  | [], _, μ => some μ
  | _, _, _ => none
section
variable {K : PySem.W.Frag} {n : Nat} {H H' : Hp} {σ : St} {α : List Addr} {s : Ms}
theorem argO_at {μ : List Oc} : ∀ {xs : List Vl} {as : List Sl}, argO μ xs = some as → xs.length = as.length ∧ ∀ (k : Nat) (t : Sl), as[k]? = some t → (∃ x, xs[k]? = some (.d x) ∧ t = .dat x) ∨ ∃ (i : Nat) (c : Oc) (o : Ob), xs[k]? = some (.o i) ∧ t = .own o ∧ μ[i]? = some c ∧ c.d = some o.d ∧ ((∃ ds, o = .lst ds ∧ ∃ ys, c = .lst ys ∧ datsM ys = some ds) ∨ ∃ ds, o = .dk ds ∧ ∃ ys, c = .dk ys ∧ kvsM ys = some ds)
  | [], as, h => by
    cases h
    exact ⟨rfl, fun k t e => by cases e⟩
  | .d x :: r, as, h => by
    have h : (argO μ r).map (.dat x :: ·) = some as := h
    cases e : argO μ r with
    | none =>
      rw [e] at h
      cases h
    | some bs =>
      rw [e] at h
      cases h
      obtain ⟨l, q⟩ := argO_at e
      refine ⟨by rw [List.length_cons, List.length_cons, l], fun k t ek => ?_⟩
      cases k with
      | zero =>
        cases ek
        exact .inl ⟨x, rfl, rfl⟩
      | succ k => exact q k t ek
  | .o i :: r, as, h => by
    unfold argO at h
    split at h
    · next xs bs e1 e =>
      obtain ⟨l, q⟩ := argO_at e
      cases e2 : datsM xs with
      | none =>
        rw [e2] at h
        cases h
      | some ds =>
        rw [e2] at h
        cases h
        refine ⟨by rw [List.length_cons, List.length_cons, l], fun k t ek => ?_⟩
        cases k with
        | zero =>
          cases ek
          refine .inr ⟨i, _, _, rfl, rfl, e1, ?_, .inl ⟨ds, rfl, xs, rfl, e2⟩⟩
          show (datsM xs).map PyData.list = _
          rw [e2]
          rfl
        | succ k => exact q k t ek
    · next xs bs e1 e =>
      obtain ⟨l, q⟩ := argO_at e
      cases e2 : kvsM xs with
      | none =>
        rw [e2] at h
        cases h
      | some ds =>
        rw [e2] at h
        cases h
        refine ⟨by rw [List.length_cons, List.length_cons, l], fun k t ek => ?_⟩
        cases k with
        | zero =>
          cases ek
          refine .inr ⟨i, _, _, rfl, rfl, e1, ?_, .inr ⟨ds, rfl, xs, rfl, e2⟩⟩
          show (kvsM xs).map PyData.dict = _
          rw [e2]
          rfl
        | succ k => exact q k t ek
    · cases h
theorem idsO_mem : ∀ {xs : List Vl} {i : Nat}, i ∈ idsO xs ↔ ∃ k : Nat, xs[k]? = some (.o i)
  | [], i => ⟨(fun h => nomatch h), fun ⟨k, e⟩ => by cases e⟩
  | .d x :: r, i => by
    show i ∈ idsO r ↔ _
    rw [idsO_mem]
    constructor
    · rintro ⟨k, e⟩
      exact ⟨k + 1, e⟩
    · rintro ⟨k, e⟩
      cases k with
      | zero => cases e
      | succ k => exact ⟨k, e⟩
  | .o j :: r, i => by
    show i ∈ j :: idsO r ↔ _
    rw [List.mem_cons, idsO_mem]
    constructor
    · rintro (rfl | ⟨k, e⟩)
      · exact ⟨0, rfl⟩
      · exact ⟨k + 1, e⟩
    · rintro ⟨k, e⟩
      cases k with
      | zero =>
        cases e
        exact .inl rfl
      | succ k => exact .inr ⟨k, e⟩
theorem idsO_uniq : ∀ {xs : List Vl} {k l i : Nat}, (idsO xs).Nodup → xs[k]? = some (.o i) → xs[l]? = some (.o i) → k = l
  | .d x :: r, 0, _, i, _, e, _ => by cases e
  | .d x :: r, _ + 1, 0, i, _, _, e => by cases e
  | .d x :: r, k + 1, l + 1, i, nd, e1, e2 => by rw [idsO_uniq (xs := r) nd e1 e2]
  | .o j :: r, 0, 0, i, _, _, _ => rfl
  | .o j :: r, 0, l + 1, i, nd, e1, e2 => by
    cases e1
    exact absurd (idsO_mem.mpr ⟨l, e2⟩) (List.nodup_cons.mp nd).1
  | .o j :: r, k + 1, 0, i, nd, e1, e2 => by
    cases e2
    exact absurd (idsO_mem.mpr ⟨k, e1⟩) (List.nodup_cons.mp nd).1
  | .o j :: r, k + 1, l + 1, i, nd, e1, e2 => by rw [idsO_uniq (xs := r) (List.nodup_cons.mp nd).2 e1 e2]
theorem backO_at {μ : List Oc} : ∀ {xs : List Vl} {as : List Sl} {μ' : List Oc}, backO xs as μ = some μ' → (idsO xs).Nodup → (∀ i ∈ idsO xs, i < μ.length) → μ'.length = μ.length ∧ (∀ i, i ∉ idsO xs → μ'[i]? = μ[i]?) ∧ ∀ i ∈ idsO xs, ∃ (k : Nat) (o : Ob) (c : Oc), xs[k]? = some (.o i) ∧ as[k]? = some (.own o) ∧ ocOf o = some c ∧ μ'[i]? = some c
  | [], as, μ', h, _, _ => by
    cases h
    exact ⟨rfl, fun _ _ => rfl, fun i hi => nomatch hi⟩
  | .d x :: r, [], μ', h, _, _ => by cases h
  | .d x :: r, a :: as, μ', h, nd, lt => by
    obtain ⟨l, q1, q2⟩ := backO_at (xs := r) (as := as) h nd lt
    refine ⟨l, q1, fun i hi => ?_⟩
    obtain ⟨k, o, c, e1, e2, e3, e4⟩ := q2 i hi
    exact ⟨k + 1, o, c, e1, e2, e3, e4⟩
  | .o j :: r, [], μ', h, _, _ => by cases h
  | .o j :: r, .no :: as, μ', h, _, _ => by cases h
  | .o j :: r, .dat _ :: as, μ', h, _, _ => by cases h
  | .o j :: r, .exc _ _ _ :: as, μ', h, _, _ => by cases h
  | .o j :: r, .own o :: as, μ', h, nd, lt => by
    have nd2 := List.nodup_cons.mp nd
    unfold backO at h
    split at h
    · next c μ2 e1 e2 =>
      cases h
      obtain ⟨l, q1, q2⟩ := backO_at e2 nd2.2 fun i hi => lt i (List.mem_cons_of_mem _ hi)
      have lj : j < μ2.length := by
        rw [l]
        exact lt j List.mem_cons_self
      refine ⟨by rw [List.length_set, l], fun i hi => ?_, fun i hi => ?_⟩
      · rw [set_ne fun z => hi (by rw [z]; exact List.mem_cons_self)]
        exact q1 i fun z => hi (List.mem_cons_of_mem _ z)
      · by_cases z : j = i
        · subst z
          exact ⟨0, o, c, rfl, rfl, e1, set_at lj⟩
        · have hi : i ∈ j :: idsO r := hi
          rcases List.mem_cons.mp hi with y | y
          · exact absurd y.symm z
          · obtain ⟨k, o2, c2, f1, f2, f3, f4⟩ := q2 i y
            exact ⟨k + 1, o2, c2, f1, f2, f3, by rw [set_ne z]; exact f4⟩
    · cases h
theorem argO_good (G : GoodM K H σ α s) {vs : List V} {xs : List Vl} {as : List Sl} (rv : RVs K H α vs xs) (ea : argO s.μ xs = some as) (nd : (idsO xs).Nodup) : Good K H (vs.map some) as := by
  obtain ⟨l, q⟩ := argO_at ea
  refine ⟨by rw [List.length_map, rv.len, l], fun k d h => ?_, fun k o h => ?_, fun k j o o' p h1 h2 h3 h4 => ?_, G.tab, fun k c f d h => ?_⟩
  · rcases q k _ h with ⟨x, e, z⟩ | ⟨i, c, o, e, z, _⟩
    · cases z
      obtain ⟨v, ev, r⟩ := rv.at e
      cases r with
      | d im => exact ⟨v, by rw [List.getElem?_map, ev]; rfl, im⟩
    · cases z
  · rcases q k _ h with ⟨x, e, z⟩ | ⟨i, c, o2, e, z, em, ed, _⟩
    · cases z
    · cases z
      obtain ⟨v, ev, r⟩ := rv.at e
      cases r with
      | @o a _ ea2 =>
        obtain ⟨ho, o3, e1, r, e3, nd3⟩ := oc_see (G.obj i a c ea2 em) ed
        refine ⟨a, ho, by rw [List.getElem?_map, ev]; rfl, e1, ?_⟩
        cases r with
        | lst r =>
          cases o with
          | lst ds =>
            injection e3 with e3
            rw [← e3]
            exact .lst r
          | dk ds => cases e3
          | dt ds => cases e3
        | dk r =>
          cases o with
          | lst ds => cases e3
          | dk ds =>
            injection e3 with e3
            rw [← e3]
            exact .dk r
          | dt ds => cases e3
        | dt _ => cases nd3
  · rcases q k _ h1 with ⟨x, e, z⟩ | ⟨i, c, o2, e, z, em, ed, _⟩
    · cases z
    · rcases q j _ h2 with ⟨x, e', z'⟩ | ⟨i', c', o2', e', z', em', ed', _⟩
      · cases z'
      · obtain ⟨v, ev, r⟩ := rv.at e
        obtain ⟨v', ev', r'⟩ := rv.at e'
        rw [List.getElem?_map, ev] at h3
        rw [List.getElem?_map, ev'] at h4
        cases h3
        cases h4
        cases r with
        | o f1 => cases r' with
          | o f2 =>
            have l1 := List.getElem?_eq_some_iff.mp f1
            have l2 := List.getElem?_eq_some_iff.mp f2
            have : i = i' := (List.getElem_inj G.nd).mp (l1.2.trans l2.2.symm)
            subst this
            exact idsO_uniq nd e e'
  · rcases q k _ h with ⟨x, e, z⟩ | ⟨i, c, o2, e, z, _⟩
    · cases z
    · cases z
theorem argO_stp (G : GoodM K H σ α s) {vs : List V} {xs : List Vl} {as as' : List Sl} {μ' : List Oc} (rv : RVs K H α vs xs) (ea : argO s.μ xs = some as) (nd : (idsO xs).Nodup) (st : Stp K vs.length H (vs.map some) as H' (vs.map some) as') (eb : backO xs as' s.μ = some μ') : StpM K n H σ α s H' σ α ⟨s.ρ, μ'⟩ := by
  have Gd := argO_good G rv ea nd
  obtain ⟨l, q⟩ := argO_at ea
  have g := st.grow Gd
  have lt : ∀ i ∈ idsO xs, i < s.μ.length := fun i hi => by
    obtain ⟨k, e⟩ := idsO_mem.mp hi
    have lk : k < as.length := by
      rw [← l]
      exact (List.getElem?_eq_some_iff.mp e).1
    rcases q k _ (List.getElem?_eq_getElem lk) with ⟨x, e1, _⟩ | ⟨i', c, o2, e1, _, em, _⟩
    · rw [e] at e1
      cases e1
    · rw [e] at e1
      cases e1
      exact (List.getElem?_eq_some_iff.mp em).1
  obtain ⟨lm, b1, b2⟩ := backO_at eb nd lt
  -- an own thing of the callee is a thing of the store
  have own : ∀ b, Own (vs.map some) as b → ∃ i c, i ∈ idsO xs ∧ α[i]? = some b ∧ s.μ[i]? = some c ∧ c ≠ .gone := fun b ⟨k, o, e1, e2⟩ => by
    rcases q k _ e1 with ⟨x, e, z⟩ | ⟨i, c, o2, e, z, em, ed, _⟩
    · cases z
    · obtain ⟨v, ev, r⟩ := rv.at e
      rw [List.getElem?_map, ev] at e2
      cases e2
      cases r with
      | o f1 =>
        refine ⟨i, c, idsO_mem.mpr ⟨k, e⟩, f1, em, fun z => ?_⟩
        subst z
        cases ed
  have uniq : ∀ {i j : Nat} {b : Addr}, α[i]? = some b → α[j]? = some b → i = j := fun {i j b} f1 f2 => by
    have l1 := List.getElem?_eq_some_iff.mp f1
    have l2 := List.getElem?_eq_some_iff.mp f2
    exact (List.getElem_inj G.nd).mp (l1.2.trans l2.2.symm)
  have ex : ∀ {v : V} {x : Vl}, RV K H α v x → RV K H' α v x := fun {v x} h => by
    have := h.ext (β := []) g
    rw [List.append_nil] at this
    exact this
  refine ⟨⟨G.len, fun i x e => ?_, fun i c f d e => (G.exc i c f d e).elim fun a h => ⟨a, h.1, h.2.grow g⟩, by rw [G.la]; exact lm.symm, fun i a c e1 e2 => ?_, G.nd, st.good.tab⟩, fun _ _ => rfl, ⟨[], (List.append_nil _).symm⟩, fun b o h nb nt => st.kept b o h (fun z => nb ?_) nt, st.live, fun i a l e => absurd (List.getElem?_eq_some_iff.mp e).1 (Nat.not_lt.mpr l), fun i h => ?_⟩
  · obtain ⟨v, h1, h2⟩ := G.val i x e
    exact ⟨v, h1, ex h2⟩
  · have e2 : μ'[i]? = some c := e2
    by_cases hi : i ∈ idsO xs
    · obtain ⟨k, o, c', f1, f2, f3, f4⟩ := b2 i hi
      rw [f4] at e2
      cases e2
      obtain ⟨v, ev, r⟩ := rv.at f1
      cases r with
      | @o a' _ g1 =>
        rw [e1] at g1
        cases g1
        obtain ⟨p, ho, h1, h2, h3⟩ := st.good.own k o f2
        rw [List.getElem?_map, ev] at h1
        cases h1
        exact (ocOf_r h2 h3 f3).1
    · rw [b1 i hi] at e2
      have := (G.obj i a c e1 e2).ext (β := []) g fun o ho => by
        by_cases ng : c = .gone
        · cases eh : H' a with
          | none =>
            rw [st.live a eh] at ho
            cases ho
          | some o' => exact ⟨o', rfl, fun z => absurd ng z⟩
        · obtain ⟨u, eu, nt, _⟩ := (G.obj i a c e1 e2).mut ng
          rw [ho] at eu
          cases eu
          exact ⟨o, st.kept a o ho (fun z => by
            obtain ⟨j, c2, hj, f1, _⟩ := own a z
            exact hi (by rw [uniq e1 f1]; exact hj)) (fun ps z => by rw [z] at nt; exact nt), fun _ => rfl⟩
      rw [List.append_nil] at this
      exact this
  · obtain ⟨i, c, _, f1, f2, f3⟩ := own b z
    exact ⟨i, c, f1, f2, f3⟩
  · show μ'[i]? = _
    rw [b1 i fun z => ?_]
    · exact h
    · obtain ⟨k, e⟩ := idsO_mem.mp z
      have lk : k < as.length := by
        rw [← l]
        exact (List.getElem?_eq_some_iff.mp e).1
      rcases q k _ (List.getElem?_eq_getElem lk) with ⟨x, e1, _⟩ | ⟨i', c, o2, e1, _, em, ed, _⟩
      · rw [e] at e1
        cases e1
      · rw [e] at e1
        cases e1
        rw [h] at em
        cases em
        cases ed
end
@[simp] def applyO (F : Fn) (xs : List Vl) (s : Ms) : RtM Sl := match argO s.μ xs with
  | none => .no
  | some as => if nodupB (idsO xs) = true then (match F as with
      | .ok t as' => match backO xs as' s.μ with
        | some μ' => .ok t ⟨s.ρ, μ'⟩
        | none => .no
      | _ => .no) else .no
@[simp] def applyOX (F : Fn) (xs : List Vl) (s : Ms) : RtM Sl := match argO s.μ xs with
  | none => .no
  | some as => if nodupB (idsO xs) = true then (match F as with
      | .ok t as' => match backO xs as' s.μ with
        | some μ' => .ok t ⟨s.ρ, μ'⟩
        | none => .no
      | .ex c d as' => match backO xs (as'.take xs.length) s.μ with
        | some μ' => .ex c d ⟨s.ρ, μ'⟩
        | none => .no
      | .no => .no) else .no
@[simp] def toVl (t : Sl) (s : Ms) : RtM Vl := match t with
  | .dat x => .ok (.d x) s
  | _ => .no
@[simp] def toOc (t : Sl) (s : Ms) : RtM Oc := match t with
  | .own o => match ocOf o with
    | some c => .ok c s
    | none => .no
  | _ => .no
@[simp] def eCallO (F : Fn) (m : MoM (List Vl)) : MoM Vl := fun s => (m s).bind fun xs s1 => (applyO F xs s1).bind toVl
@[simp] def fCallO (F : Fn) (m : MoM (List Vl)) : MoM Oc := fun s => (m s).bind fun xs s1 => (applyO F xs s1).bind toOc
@[simp] def eCallOX (F : Fn) (m : MoM (List Vl)) : MoM Vl := fun s => (m s).bind fun xs s1 => (applyOX F xs s1).bind toVl
section
variable {X : Cx} {n : Nat} {W : XW} {k : Nat} {f : Addr} {fd : FuncData} {ps : List Str} {x : Str} {p pos : Pos} {e : Expr} {es : List Expr} {m : MoM (List Vl)} {F : Fn} {Wx : WX}
/-- what an old def that raises nothing gives -/
theorem applyO_0 {β : Type} {σ : St} {H1 : Hp} {α1 : List Addr} {s1 : Ms} {xs : List Vl} {vs : List V} {Q : β → Ms → List Addr → Hp → Prop} {Qv : VK} {kk : Sl → Ms → RtM β} {E : L2.XK} (G : GoodM X.K H1 σ α1 s1) (rvs : RVs X.K H1 α1 vs xs) (h : AftM X.K n W H1 σ α1 s1 ((applyO F xs s1).bind kk) Q)
    (hq : ∀ t s2 v H' as', StpM X.K n H1 σ α1 s1 H' σ α1 s2 → SR X.K H1 H' (vs.map some) as' v t → AftM X.K n W H1 σ α1 s1 (kk t s2) Q → Qv v H') : spD X.K F vs H1 Qv E := by
  unfold applyO at h
  cases ea : argO s1.μ xs with
  | none =>
    rw [ea] at h
    exact h.elim
  | some as =>
    rw [ea] at h
    dsimp only at h
    split at h
    · next nd =>
      have nd := nodupB_iff nd
      have Gd := argO_good G rvs ea nd
      cases er : F as with
      | no =>
        rw [er] at h
        exact h.elim
      | ex c d as' =>
        rw [er] at h
        exact h.elim
      | ok t as' =>
        rw [er] at h
        dsimp only at h
        cases eb : backO xs as' s1.μ with
        | none =>
          rw [eb] at h
          exact h.elim
        | some μ' =>
          rw [eb] at h
          exact ⟨as, t, as', Gd, er, fun v H' st sr => hq t ⟨s1.ρ, μ'⟩ v H' as' (argO_stp G rvs ea nd st eb) sr h⟩
    · exact h.elim
theorem md_callO (G : FnG X.prog X.w X.K X.mg X.base k f fd ps (spD X.K F)) (g : X.A.guards = some []) (room : Room k X.A) (hg : Gl X x) (hm : X.mg x = some (.ref f)) (hk : PySem.W.keepIn X.K (.ref f) = true) (hb : Binds X.K fd ps [])
    (ha : MA X n W (e :: es) m) (hdb : (x == ("__debug__" : Str)) = false := by decide) (he : starEach (e :: es) X.env = (false, eval e X.env) :: starEach es X.env := by rfl) (hpl : (backTo pos (starEach es X.env)).any (·.1) = false := by rfl) :
    MD X n W (.Call (.Name x p) (e :: es) [] pos) (eCallO F m) := weakE (pe_callG G g room hg hm hk hb ha hdb he hpl) fun σ H Q ⟨α, s, Gd, h⟩ => ⟨α, s, Gd, (AftM.bind Gd h).mono fun xs s1 α1 H1 st h1 vs rvs => by
    show spD X.K F (vs ++ []) H1 Q E0
    rw [List.append_nil]
    refine applyO_0 st.good rvs h1 fun t s2 v H' as' st2 sr h2 => ?_
    cases sr with
    | dat im => exact h2 H' α1 st2 v (.d im)
    | own _ _ _ _ => exact h2.elim⟩
theorem mf_callO (G : FnG X.prog X.w X.K X.mg X.base k f fd ps (spD X.K F)) (g : X.A.guards = some []) (room : Room k X.A) (hg : Gl X x) (hm : X.mg x = some (.ref f)) (hk : PySem.W.keepIn X.K (.ref f) = true) (hb : Binds X.K fd ps [])
    (ha : MA X n W (e :: es) m) (hdb : (x == ("__debug__" : Str)) = false := by decide) (he : starEach (e :: es) X.env = (false, eval e X.env) :: starEach es X.env := by rfl) (hpl : (backTo pos (starEach es X.env)).any (·.1) = false := by rfl) :
    MF X n W (.Call (.Name x p) (e :: es) [] pos) (fCallO F m) := weakE (pe_callG G g room hg hm hk hb ha hdb he hpl) fun σ H Q ⟨α, s, Gd, h⟩ => ⟨α, s, Gd, (AftM.bind Gd h).mono fun xs s1 α1 H1 st h1 vs rvs => by
    show spD X.K F (vs ++ []) H1 Q E0
    rw [List.append_nil]
    refine applyO_0 st.good rvs h1 fun t s2 v H' as' st2 sr h2 => ?_
    cases sr with
    | dat im => exact h2.elim
    | @own q ho o np eh r no =>
      have h2 : AftM X.K n W H1 σ α1 s1 (match ocOf o with
        | some c => .ok c s2
        | none => .no : RtM Oc) fun c _ α' H' => ∀ p, H p = none → p ∉ α' → OcR X.K H' α' p c → c ≠ .gone → Q (.ref p) H' := h2
      cases eo : ocOf o with
      | none =>
        rw [eo] at h2
        exact h2.elim
      | some c =>
        rw [eo] at h2
        obtain ⟨oc, ng⟩ := ocOf_r (α := α1) eh r eo
        exact h2 H' α1 st2 q (st.live q np) (st.good.fresh np) oc ng⟩
theorem md_callOX (tk : Takes X Wx) (hW : ∀ c d σ H, W c d σ H → wE X.K Wx c d σ H) (G : FnGX X.prog X.w X.K X.mg X.base k f fd ps (spX X.K F)) (g : X.A.guards = some []) (room : Room k X.A) (hg : Gl X x) (hm : X.mg x = some (.ref f)) (hk : PySem.W.keepIn X.K (.ref f) = true) (hb : Binds X.K fd ps [])
    (ha : MA X n W (e :: es) m) (hdb : (x == ("__debug__" : Str)) = false := by decide) (he : starEach (e :: es) X.env = (false, eval e X.env) :: starEach es X.env := by rfl) (hpl : (backTo pos (starEach es X.env)).any (·.1) = false := by rfl) :
    MD X n W (.Call (.Name x p) (e :: es) [] pos) (eCallOX F m) := weakE (pe_callGX (Wx := Wx) G tk g room hg hm hk hb ha hdb he hpl) fun σ H Q ⟨α, s, Gd, h⟩ => ⟨α, s, Gd, (AftM.bind Gd h).mono fun xs s1 α1 H1 st h1 vs rvs => by
    unfold applyOX at h1
    cases ea : argO s1.μ xs with
    | none =>
      rw [ea] at h1
      exact h1.elim
    | some as =>
      rw [ea] at h1
      dsimp only at h1
      split at h1
      · next nd =>
        have nd := nodupB_iff nd
        refine ⟨as, argO_good st.good rvs ea nd, ?_⟩
        generalize F as = r at h1
        cases r with
        | no => exact h1.elim
        | ex c d as' =>
          dsimp only at h1
          cases eb : backO xs (as'.take xs.length) s1.μ with
          | none =>
            rw [eb] at h1
            exact h1.elim
          | some μ' =>
            rw [eb] at h1
            intro H' st2 C dd ff v d' e1 e2 e3 e4
            rw [rvs.len] at st2
            exact hW _ _ _ _ (h1 H' α1 (argO_stp st.good rvs ea nd (by rw [rvs.len]; exact st2) eb)) C dd ff v d' e1 e2 e3 e4
        | ok t as' =>
          dsimp only at h1
          cases eb : backO xs as' s1.μ with
          | none =>
            rw [eb] at h1
            exact h1.elim
          | some μ' =>
            rw [eb] at h1
            intro v H' st2 sr
            have st3 := argO_stp (n := n) st.good rvs ea nd st2 eb
            cases sr with
            | dat im => exact h1 H' α1 st3 v (.d im)
            | own _ _ _ _ => exact h1.elim
      · exact h1.elim⟩
end
/-! ### a thing of the store becomes data -/
def subV (i : Nat) (d : D) : Vl → Vl
  | .o j => if j = i then .d d else .o j
  | x => x
def subM (i : Nat) (d : D) : Sm → Sm
  | .v x => .v (subV i d x)
  | t => t
def subK {κ : Type} (i : Nat) (d : D) : List (κ × Vl) → List (κ × Vl)
  | [] => []
  | p :: r => (p.1, subV i d p.2) :: subK i d r
def subO (i : Nat) (d : D) : Oc → Oc
  | .lst xs => .lst (xs.map (subV i d))
  | .dk kvs => .dk (subK i d kvs)
  | .ins c fs => .ins c (subK i d fs)
  | .gone => .gone
def Ms.frz (s : Ms) (i : Nat) (d : D) : Ms := ⟨s.ρ.map (subM i d), (s.μ.map (subO i d)).set i .gone⟩
@[simp] def eFrzM (f : MoM Vl) : MoM Vl := fun s => (f s).bind fun x s1 => match x with
  | .o i => match s1.μ[i]?.bind Oc.d with
    | some d => .ok (.d d) (s1.frz i d)
    | none => .no
  | .d _ => .no
section
variable {K : PySem.W.Frag} {H H' : Hp} {α : List Addr} {i : Nat} {a : Addr} {d : D}
end
section
variable {X : Cx} {n : Nat} {W : XW}
end
end Q
namespace Q
open PySem PySem.Spec PyProof.Rows L2 Gd
variable [Tbl]
/-! ### dicts, errors in the layer of objects -/
section
variable {X : Cx} {n : Nat} {W : XW} {tg : Expr}
/-! {k: v for x in xs} -/
def dcM (g : TgM) (t : MoM Bool) (ek ev : MoM Vl) (vs : List Nat) : List Vl → List (Key × Vl) → MoM (List (Key × Vl))
  | [], acc, s => .ok acc s
  | x :: xs, acc, s => match g x s.ρ with
    | none => .no
    | some ρ1 => (t ⟨ρ1, s.μ⟩).bnd fun b s2 => if b = true then (ek s2).bnd fun y s3 => (ev s3).bnd fun z s4 => match (lookM s4.μ y).bind keyOf with
        | some k => dcM g t ek ev vs xs (putKM acc k z) (wipeS s4 vs)
        | none => .no
      else dcM g t ek ev vs xs acc (wipeS s2 vs)
@[simp] def fDcM (it : MoM (List Vl)) (g : TgM) (t : MoM Bool) (ek ev : MoM Vl) (vs : List Nat) : MoM Oc := fun s => (it s).bind fun xs s1 => if xs.length ≤ 1000000 then (dcM g t ek ev vs xs [] (wipeS s1 vs)).bnd fun kvs s2 => .ok (.dk kvs) ⟨mixM s1.ρ s2.ρ vs, s2.μ⟩ else .no
/-! {k: v, ..}, the keys written -/
def disM : List (Key × MoM Vl) → MoM (List (Key × Vl))
  | [], s => .ok [] s
  | (k, m) :: r, s => (m s).bind fun x s1 => (disM r s1).bind fun kvs s2 => .ok ((k, x) :: kvs) s2
def mergeKM (kvs more : List (Key × Vl)) : List (Key × Vl) := more.foldl (fun acc kv => putKM acc kv.1 kv.2) kvs
@[simp] def fDisM (ms : List (Key × MoM Vl)) : MoM Oc := fun s => if ms.length ≤ 15 then (disM ms s).bind fun kvs s1 => if kvs.length ≤ 15 then .ok (.dk (mergeKM [] kvs)) s1 else .no else .no
def trM (K : PySem.W.Frag) (n : Nat) (W : XW) (ms : List (Key × MoM Vl)) : List (TE × TE) := ms.map fun p => (tC (kV p.1), tXM K n W p.2)
end
end Q
namespace Q
open PySem PySem.Spec PyProof.Rows L2 Gd
variable [Tbl]
/-! ### errors, kept errors, comprehensions given to a name, in the layer of objects -/
section
variable {K : PySem.W.Frag} {n : Nat} {H H' : Hp} {σ σ' : St} {α α' : List Addr} {s s' : Ms}
theorem StpM.set_exc (st : StpM K n H σ α s H' σ' α' s') {i : Nat} (hn : n ≤ i) (hi : i < s'.ρ.length) {a : Addr} {c f : Str} {d : D} (x : ExcAt K H' a c f d) : StpM K n H σ α s H' (σ'.set i (some (.ref a))) α' ⟨s'.ρ.set i (.exc c f d), s'.μ⟩ := by
  have G := st.good
  have his : i < σ'.length := by rw [G.len]; exact hi
  refine ⟨⟨by rw [List.length_set, List.length_set, G.len], fun j y e => ?_, fun j c' f' d' e => ?_, G.la, G.obj, G.nd, G.tab⟩, fun j hj => ?_, st.ext, st.kept, st.live, st.news, st.gone⟩
  · have e : (s'.ρ.set i (.exc c f d))[j]? = some (.v y) := e
    by_cases z : i = j
    · subst z
      rw [set_at hi] at e
      cases e
    · rw [set_ne z] at e ⊢
      exact G.val j y e
  · have e : (s'.ρ.set i (.exc c f d))[j]? = some (.exc c' f' d') := e
    by_cases z : i = j
    · subst z
      rw [set_at hi] at e
      cases e
      exact ⟨a, set_at his, x⟩
    · rw [set_ne z] at e ⊢
      exact G.exc j _ _ _ e
  · have ne : i ≠ j := by omega
    rw [set_ne ne]
    exact st.par j hj
theorem StpM.set_no (st : StpM K n H σ α s H' σ' α' s') {i : Nat} (hn : n ≤ i) (hi : i < s'.ρ.length) : StpM K n H σ α s H' (σ'.set i none) α' ⟨s'.ρ.set i .no, s'.μ⟩ := by
  have G := st.good
  refine ⟨⟨by rw [List.length_set, List.length_set, G.len], fun j y e => ?_, fun j c' f' d' e => ?_, G.la, G.obj, G.nd, G.tab⟩, fun j hj => ?_, st.ext, st.kept, st.live, st.news, st.gone⟩
  · have e : (s'.ρ.set i .no)[j]? = some (.v y) := e
    by_cases z : i = j
    · subst z
      rw [set_at hi] at e
      cases e
    · rw [set_ne z] at e ⊢
      exact G.val j y e
  · have e : (s'.ρ.set i .no)[j]? = some (.exc c' f' d') := e
    by_cases z : i = j
    · subst z
      rw [set_at hi] at e
      cases e
    · rw [set_ne z] at e ⊢
      exact G.exc j _ _ _ e
  · have ne : i ≠ j := by omega
    rw [set_ne ne]
    exact st.par j hj
end
@[simp] def mRaise (c f : Str) (m : MoM (List Vl)) : MoM OutM := fun s => (m s).bind fun xs s1 => match datsM xs with
  | some [x] => .ex c (errD f x) s1
  | _ => .no
section
variable {X : Cx} {n : Nat} {W : XW} {Wx : WX} {c f : Str} {C fI : Addr} {fd : FuncData} {k : Nat} {e : Expr} {p pos pos2 : Pos} {m : MoM (List Vl)}
theorem ms_raise (hc : X.calm = true) (tk : Takes X Wx) (hW : ∀ c d σ H, W c d σ H → wE X.K Wx c d σ H) (T : ExcT X.K X.mg c f C fI) (F1 : FnOk X.prog X.w X.K X.mg X.base (L2.CX X.prog X.w) k fI fd ["self", f] (spIni C f)) (hb : Binds X.K fd ["self", f] [])
    (hr : Room (k + 1) X.A) (hg : Gl X c) (ha : MA X n W [e] m) (hdb : (c == ("__debug__" : Str)) = false := by decide) (he : starEach [e] X.env = (false, eval e X.env) :: starEach [] X.env := by rfl) (hpl : (backTo pos (starEach [] X.env)).any (·.1) = false := by rfl) :
    MS X n W (.Raise (some (.Call (.Name c p) [e] [] pos)) none pos2) (mRaise c f m) :=
  weakS (ps_raise hc tk (pmk_oex T.ox T.iC T.tI F1 hr hb (dvs := []) .nil L2.passL hg T.gC ha hdb he hpl)) fun E σ H ⟨α, s, G, h⟩ => by
    refine ⟨α, s, G, (AftSM.bind G h).mono fun xs s1 α1 H1 st h1 vs rvs => ?_⟩
    split at h1
    · next x ed =>
      have im := datsM_r rvs ed
      cases im with
      | @cons v _ _ _ im r =>
        cases r
        refine ⟨by show 1 ≤ 1000; decide, fun a na => ⟨a, v, rfl, upd_same, fun dx nd ne => ⟨rfl, dx, [(f, v)], upd_same, by rw [upd_ne ne, upd_same], by rw [upd_ne ne] at nd; exact nd, ?_⟩⟩⟩
        have nd1 : H1 dx = none := by
          rw [upd_ne ne] at nd
          exact nd
        have eq : upd (del (upd (upd (upd H1 a (exo a C none)) dx (exd dx [(f, v)])) a (exo a C (some dx))) a) dx (.xd [(f, v)]) = upd H1 dx (.xd [(f, v)]) := by
          funext b
          by_cases h1 : b = dx
          · rw [h1, upd_same, upd_same]
          · rw [upd_ne h1, upd_ne h1]
            by_cases h2 : b = a
            · rw [h2, del_same, na]
            · rw [del_ne h2, upd_ne h2, upd_ne h1, upd_ne h2]
        rw [eq]
        have sm : Same H1 (upd H1 dx (.xd [(f, v)])) := same_upd nd1
        exact hW _ _ _ _ (h1 _ _ α1 (StpM.same st.good sm)) C dx f v x rfl T.nC upd_same (im.same sm)
    · exact h1.elim
end
@[simp] def keepXM (tab : List (Str × Bool)) (i j : Nat) : RtM OutM → RtM OutM
  | .ok o s => .ok o s
  | .ex c (.tuple [.str f, x]) s => match tab.lookup c with
    | some true => if i < s.ρ.length ∧ j < s.ρ.length then .ok .nx ⟨(s.ρ.set j (.exc c f x)).set i .no, s.μ⟩ else .no
    | some false => .ex c (.tuple [.str f, x]) s
    | none => .no
  | _ => .no
@[simp] def mTry (tab : List (Str × Bool)) (i j : Nat) (m : MoM OutM) : MoM OutM := fun s => keepXM tab i j (m s)
section
variable {X : Cx} {n : Nat} {W : XW} {Wx : WX} {x y z : Str} {cv : Value} {tab : List (Str × Bool)} {i j : Nat} {body : List Stmt} {np p1 p2 p3 pos pos' : Pos} {m : MoM OutM}
theorem ms_try (hni : n ≤ i) (hnj : n ≤ j) (hij : i ≠ j) (hx : X.ex = []) (hs : X.stack = X.env :: X.outer) (hf : X.env.frame = some X.env.locals) (hN : X.N.Nodup) (hi : X.N[i]? = some y) (hj : X.N[j]? = some z) (hln : X.env.kindOf y = some .local) (vn : Vis X.env.scope y) (vz : X.env.scope.names.lookup z = some .local) (hc : Names X x cv)
    (tk : Takes X Wx) (hW : ∀ c d σ H, W c d σ H → wE X.K Wx c d σ H) (hT : ∀ c b, tab.lookup c = some b → ∀ C, PySem.W.nsIn X.K mainGlobals c = some (some (.ref C)) → PySem.W.exmOne X.K (.ref C) cv = some b)
    (hb : ∀ (W' : WX) (pn : List (Addr × Obj)) (xe : Value → Shared → Prop), Takes (X.tr pn xe) W' → PassesOwn (model X.prog X.w) X.A X.env xe → MSs (X.tr pn xe) n (wE X.K W') body m) (dn : (y == ("__debug__" : Str)) = false := by decide) (dc : (y == ("__classdict__" : Str)) = false := by decide)
    (sw : swapsWith (.Name y p2) (some (.Name z p1)) p3.line X.env = pure false := by rfl) :
    MS X n W (.Try body [.ExceptHandler (some (.Name x np)) (some y) [.Assign [.Name z p1] (.Name y p2) p3] pos'] [] [] pos) (mTry tab i j m) :=
  weakS (ps_try_keep (tb := fun W' => tSM X.K n (wE X.K W') m) (Wout := Wx) hx hs hf hN hi hj hln vn vz hc tk hb dn dc sw) fun E σ H ⟨α, s, G, h⟩ => by
    refine ⟨α, s, G, ?_⟩
    have h : AftSM X.K n W E H σ α s (keepXM tab i j (m s)) := h
    show AftSM X.K n (wE X.K (wKeep X.K cv i j Wx E)) E H σ α s (m s)
    generalize m s = r at h
    cases r with
    | no => exact h
    | ok o s' => cases o <;> exact h
    | ex c d s' =>
      intro σ' H' α' st C dd f v d' ed nC hd im
      subst ed
      have h : AftSM X.K n W E H σ α s (match tab.lookup c with
        | some true => if i < s'.ρ.length ∧ j < s'.ρ.length then .ok .nx ⟨(s'.ρ.set j (.exc c f d')).set i .no, s'.μ⟩ else .no
        | some false => .ex c (.tuple [.str f, d']) s'
        | none => .no) := h
      cases et : tab.lookup c with
      | none =>
        rw [et] at h
        exact h.elim
      | some b =>
        rw [et] at h
        refine ⟨b, hT c b et C nC, fun hb a oe na zc fe => ?_, fun hb => ?_⟩
        · subst hb
          have h : AftSM X.K n W E H σ α s (if i < s'.ρ.length ∧ j < s'.ρ.length then .ok .nx ⟨(s'.ρ.set j (.exc c f d')).set i .no, s'.μ⟩ else .no) := h
          split at h
          · next l =>
            have st1 := st.trans (StpM.same (n := n) st.good (same_upd (o := .frz oe (.ext fun h => h.get? a = some oe)) na)) G
            have hdn : dd ≠ a := ne_of_none hd na
            have xa : ExcAt X.K (upd H' a (.frz oe (.ext fun h => h.get? a = some oe))) a c f d' := .inl ⟨dd, C, oe, _, v, upd_same, zc.1, zc.2, fe, by rw [upd_ne hdn]; exact hd, nC, im.same (same_upd na)⟩
            have st2 := (st1.set_exc hnj l.2 xa).set_no hni (by show i < (s'.ρ.set j _).length; rw [List.length_set]; exact l.1)
            have es : (((σ'.set i (some (.ref a))).set j (some (.ref a))).set i none) = (σ'.set j (some (V.ref a))).set i none := by
              rw [List.set_comm _ _ hij, List.set_set]
            rw [es]
            exact h _ _ _ st2
          · exact h.elim
        · subst hb
          exact hW _ _ _ _ (h σ' H' α' st) C dd f v d' rfl nC hd im
end
/-! ### x = [..] on one line -/
section
variable {X : Cx} {n : Nat} {W : XW} {tg : Expr}
end
end Q
namespace Q
open PySem PySem.Spec PyProof.Rows L2 Gd
variable [Tbl]
/-! ### a def with defaults; calls, places, ranges, sums in the layer of objects; tuple(d) -/
/-- a def of the text, whatever its defaults are -/
structure FunV (K : PySem.W.Frag) (x qual : Str) (st : Stmt) (f : Addr) (fd : FuncData) : Prop where
  ex : ∃ (oc : Value) (od : Option Addr) (dV kV doc pm : Value) (an : Option Addr) (cdv ct : Value) (osl : Array (Option Value)),
    fd = PySem.W.fnOf x qual (defArgs st) (defBody st) (defScope st) dV kV doc pm an cdv ct ∧ K.lookup f = some ⟨oc, od, .func fd, osl⟩ ∧ PySem.W.codeIn K cdv qual = true
  kp : PySem.W.keepIn K (.ref f) = true
section
variable {P : Program} {w : World} {K : PySem.W.Frag} {mg : Str → Option Value} {base : Heap} {k : Nat} {f : Addr} {fd : FuncData}
theorem okGXv {x qual : Str} {st : Stmt} {N ps : List Str} {sp : Sp} (F : FunV K x qual st f fd) (S : FnScope N ps (defScope st)) (len : ∀ vs H Q E, sp vs H Q E → vs.length = ps.length)
    (B : ∀ (cdv : Value) (A : Around) (outer : List Env) (s : Shared) (H : Hp) (vs : List V) (Q : VK) (E : L2.XK), A.guards = some [] → Room k (A.deeper (envOfC qual (defScope st) s.heap.objs.size f cdv)) → sp vs H Q E →
      ∃ t, PSs (cxOf (L2.CX P w) P w K mg base N qual (defScope st) f cdv A outer s H E) (defBody st) t ∧ t { nx := fun _ H' => Q .non H', rt := Q } (start N vs) H) : FnGX P w K mg base (k + 1) f fd ps sp := by
  obtain ⟨oc, od, dV, kV, doc, pm, an, cdv, ct, osl, rfl, lk, hcd⟩ := F.ex
  refine ⟨len, fun {A outer s H args us vs Q E} g room env0 bt rel want => ?_⟩
  have kin : K.In s.heap := env0.mod.kin.keeps fun b o q => (env0.bs b o q).1
  have nol : s.heap.NoLimit := env0.mod.nolimit.keeps fun b o q => (env0.bs b o q).1
  refine codeAny_call_function room.depth (kin _ _ lk) rfl S.co S.gen rfl (PySem.W.codeRec_of kin hcd) (bt _ _ _ _ ?_)
  refine wpAny_newFunctionEnv_cells S.kind ?_ fun env ee s1 inn => ?_
  · rintro ⟨n, v⟩ hy
    refine (S.par n (List.of_mem_zip hy).1).elim Or.inl fun q => Or.inr ⟨q, ?_⟩
    exact PySem.W.cellsFrom_some _ _ _ (Or.inl q)
  subst ee
  refine ⟨nol.keeps inn.toInCall.keep, codeAny_func ?_⟩
  obtain ⟨t, ht, hq⟩ := B cdv A outer s H vs Q E g (room.deeper _) want
  have I0 := inv_start (CX := L2.CX P w) (E := E) S room.hd env0 (len _ _ _ _ want) rel inn
  refine wpAny_mono (ht.run [] s1 (start N vs) H _ I0 hq) (fun fl s' z => ?_) fun _ _ z => z
  cases fl with
  | ret u =>
    obtain ⟨v, σ', H', J, rv, q⟩ := z
    exact ⟨v, H', J.os, J.bare, J.base, J.hok, rv, q⟩
  | next =>
    obtain ⟨σ', H', J, q⟩ := z
    exact ⟨V.non, H', J.os, J.bare, J.base, J.hok, rfl, q⟩
  | brk => exact z.elim fun _ z => z.elim fun _ z => z.2.elim
  | cont => exact z.elim fun _ z => z.elim fun _ z => z.2.elim
theorem okMXv {x qual : Str} {st : Stmt} {N ps : List Str} {b : MoM OutM} (F : FunV K x qual st f fd) (S : FnScope N ps (defScope st)) (hN : ps.length ≤ N.length)
    (B : ∀ (cdv : Value) (A : Around) (outer : List Env) (s : Shared) (H : Hp) (E : L2.XK), A.guards = some [] → Room k (A.deeper (envOfC qual (defScope st) s.heap.objs.size f cdv)) →
      MSs (cxOf (L2.CX P w) P w K mg base N qual (defScope st) f cdv A outer s H E) ps.length (wE K fun cls d _ H' => E cls d H') (defBody st) b) : FnGX P w K mg base (k + 1) f fd ps (spM K (fnM ps.length N.length b)) := by
  have lenF : ∀ {xs : List Vl} {α : List Addr} {μ : List Oc} {H : Hp} {Q : VK} {E : L2.XK}, OutMX K H α μ (fnM ps.length N.length b xs μ) Q E → xs.length = ps.length := fun {xs α μ H Q E} e => by
    unfold fnM at e
    split at e
    · next l => exact l
    · exact e.elim
  refine okGXv F S (fun vs H Q E ⟨α, μ, xs, _, r, e⟩ => by rw [r.len]; exact lenF e) (fun cdv A outer s0 H vs Q E hg hr h => ?_)
  obtain ⟨α, μ, xs, G, r, e⟩ := h
  have lx : xs.length = ps.length := lenF e
  have lv : vs.length = ps.length := by rw [r.len, lx]
  have st0 : L2.start N vs = vs.map some ++ List.replicate (N.length - ps.length) none := by
    unfold L2.start
    rw [lv]
  unfold fnM at e
  rw [if_pos lx] at e
  have G0 := start_good (N.length - ps.length) G r
  refine ⟨_, B cdv A outer s0 H E hg hr, α, ⟨xs.map .v ++ List.replicate (N.length - ps.length) .no, μ⟩, by rw [st0]; exact G0, ?_⟩
  rw [st0]
  generalize b ⟨xs.map .v ++ List.replicate (N.length - ps.length) .no, μ⟩ = z at e
  cases z with
  | no => exact e.elim
  | ex c d s' => exact fun σ' H' α' st => e H' α' st.strip
  | ok o s' => cases o with
    | bk => exact e.elim
    | ct => exact e.elim
    | nx => exact fun σ' H' α' st => e .non H' α' st.strip (.d .non)
    | rt x => exact fun v σ' H' α' st rv => e v H' α' st.strip rv
end
@[simp] def eCall0M (F : FnM) (m : MoM (List Vl)) : MoM Vl := fun s => (m s).bind fun xs s1 => match F xs s1.μ with
  | .ok x s2 => .ok x ⟨s1.ρ, s2.μ⟩
  | _ => .no
section
variable {X : Cx} {n : Nat} {W : XW} {k : Nat} {f : Addr} {fd : FuncData} {ps : List Str} {x : Str} {p pos : Pos} {e : Expr} {es : List Expr} {m : MoM (List Vl)} {F : FnM} {tg : Expr}
theorem md_callZ (G : FnG X.prog X.w X.K X.mg X.base k f fd ps (spM0 X.K F)) (g : X.A.guards = some []) (room : Room k X.A) (hg : Gl X x) (hm : X.mg x = some (.ref f)) (hk : PySem.W.keepIn X.K (.ref f) = true) (hb : Binds X.K fd ps [])
    (ha : MA X n W (e :: es) m) (hdb : (x == ("__debug__" : Str)) = false := by decide) (he : starEach (e :: es) X.env = (false, eval e X.env) :: starEach es X.env := by rfl) (hpl : (backTo pos (starEach es X.env)).any (·.1) = false := by rfl) :
    MD X n W (.Call (.Name x p) (e :: es) [] pos) (eCall0M F m) := md_call0 G g room hg hm hk hb ha hdb he hpl
/-! ### range(..) -/
@[simp] def outLM : Option (List D) → MoM (List Vl)
  | some ds, s => .ok (ds.map .d) s
  | none, _ => .no
theorem AftM.outL {K : PySem.W.Frag} {H : Hp} {σ : St} {α : List Addr} {s s1 : Ms} {o : Option (List D)} {Q : List Vl → Ms → List Addr → Hp → Prop} (h : AftM K n W H σ α s (outLM o s1) Q) : ∃ ds, o = some ds ∧ AftM K n W H σ α s (.ok (ds.map .d) s1) Q := by
  cases o with
  | none => exact h.elim
  | some ds => exact ⟨ds, rfl, h⟩
@[simp] def iNM (F : List D → Option (List D)) (f : MoM (List Vl)) : MoM (List Vl) := fun s => (f s).bind fun xs s1 => outLM ((looksM s1.μ xs).bind F) s1
theorem mi_range1 {a : Expr} {f : MoM (List Vl)} (hg : Gl X "range") (hm : X.mg "range" = none) (ha : MA X n W [a] f) (hs : starEach [a] X.env = [(false, eval a X.env)] := by rfl) : MI X n W tg (.Call (.Name "range" p) [a] [] pos) (iNM range1D f) :=
  weakI (pi_range1 hg hm ha hs) fun σ H Q ⟨α, s, G, h⟩ => by
    refine ⟨α, s, G, (AftM.bind G h).mono fun xs s1 α1 H1 st1 h1 vs rvs => ?_⟩
    obtain ⟨ds, e, h1⟩ := h1.outL
    cases ed : looksM s1.μ xs with
    | none =>
      rw [ed] at e
      cases e
    | some es =>
      rw [ed] at e
      have e : range1D es = some ds := e
      unfold range1D at e
      split at e
      · next j _ =>
        split at e
        · next le =>
          cases e
          have im := rvs.see st1.good ed
          cases im with
          | cons i1 r => cases r; cases i1.int; exact ⟨j, rfl, (of_cb le).1, (of_cb le).2, AftM.ok st1.good h1 _ (Wk.toM wk_range)⟩
        · cases e
      · cases e
end
/-! ### sum(t) -/
def sumD : List D → Option D
  | [.tuple ds] => (intsD ds).map fun ns => .int ns.sum
  | [.list ds] => (intsD ds).map fun ns => .int ns.sum
  | _ => none
section
variable {X : Cx}
theorem c_sum (hc : X.calm = true) : CallR X (.builtin "sum") (rQN X.K sumD) := by
  rintro pins s σ H xs us Q I r ⟨as, d, hx, e, q⟩
  unfold sumD at e
  split at e
  · next ds =>
    cases en : intsD ds with
    | none =>
      rw [en] at e
      cases e
    | some ns =>
      rw [en] at e
      cases e
      obtain ⟨x, rfl, h⟩ := hx.one
      obtain ⟨p, ys, rfl, hp, ip⟩ := h.tuple
      rw [intsD_eq en] at ip
      rw [ip.ints] at hp
      obtain ⟨its, rv, hl, _⟩ := I.tuple hp
      obtain ⟨us', hx2⟩ := rv.ints.allInts.items
      have hn : numsOf (intItems us').toList = ns := by rw [← hx2]; exact rv.ints.numsOf
      rw [nums_intItems] at hn
      rw [Vals.ref1 r]
      have hl' : s.heap.IsTuple p its.toArray := hl
      rw [hx2] at hl'
      refine PySem.W.ktm_sumG (I.ok.hd hc) hl' fun h' tk t' hk => ?_
      rw [preSum_eq, List.take_of_length_le (by simp), hn]
      exact ⟨.int _, H, I.kept hk, ⟨_, rfl⟩, q _ H (Same.refl H) (.int _)⟩
  · next ds =>
    cases en : intsD ds with
    | none =>
      rw [en] at e
      cases e
    | some ns =>
      rw [en] at e
      cases e
      obtain ⟨x, rfl, h⟩ := hx.one
      obtain ⟨p, ys, rfl, hp, ip⟩ := h.list
      rw [intsD_eq en] at ip
      rw [ip.ints] at hp
      exact cr_sum hc pins s σ H _ us Q I r ⟨p, ns, rfl, hp, q _ H (Same.refl H) (.int _)⟩
  · cases e
/-! ### sorted(xs) of whole numbers: a list, or a dict's keys -/
def isrt (l : List Int) : List Int := l.mergeSort fun a b => decide (a ≤ b)
theorem isrt_perm (l : List Int) : (isrt l).Perm l := List.mergeSort_perm _ _
theorem isrt_pw (l : List Int) : (isrt l).Pairwise (· ≤ ·) := (List.pairwise_mergeSort (le := fun a b => decide (a ≤ b)) (fun a b c h1 h2 => by simp only [decide_eq_true_eq] at *; omega) (fun a b => by simp only [Bool.or_eq_true, decide_eq_true_eq]; omega) l).imp fun h => by simpa using h
theorem isrt_one {l m : List Int} (p : l.Perm m) (h : l.Pairwise (· ≤ ·)) : l = isrt m := List.Perm.eq_of_pairwise (fun _ _ _ _ h1 h2 => Int.le_antisymm h1 h2) h (isrt_pw m) (p.trans (isrt_perm m).symm)
def sortI (ds : List D) : Option (List D) := match intsD ds with
  | some ns => if ns.length < 64 then some ((isrt ns).map PyData.int) else none
  | none => none
theorem sortI_some {ds es : List D} (h : sortI ds = some es) : ∃ ns, ds = ns.map PyData.int ∧ ns.length < 64 ∧ es = (isrt ns).map PyData.int := by
  unfold sortI at h
  cases e : intsD ds with
  | none =>
    rw [e] at h
    cases h
  | some ns =>
    rw [e] at h
    have h : (if ns.length < 64 then some ((isrt ns).map PyData.int) else none) = some es := h
    split at h
    · next l =>
      cases h
      exact ⟨ns, intsD_eq e, l, rfl⟩
    · cases h
def sortID : List D → Option (List D)
  | [.list ds] => sortI ds
  | [.dict kvs] => sortI (kvs.map Prod.fst)
  | _ => none
theorem ImKV.ints {K : PySem.W.Frag} {H : Hp} : ∀ {kvs : List (Key × V)} {ds : List (D × D)} {ns : List Int}, ImKV K H kvs ds → ds.map Prod.fst = ns.map PyData.int → kvs.map (·.1) = ns.map Sum.inl
  | _, _, [], .nil, _ => rfl
  | _, _, _ :: _, .nil, e => by cases e
  | _, _, [], .cons _ _, e => by cases e
  | (k, _) :: _, _, m :: ns, .cons h r, e => by
    injection e with hE1 hE2
    cases k with
    | inr i => cases hE1
    | inl x =>
      cases hE1
      rw [List.map_cons, List.map_cons, ImKV.ints r hE2]
theorem c_sortI (hc : X.calm = true) : CallR X (.builtin "sorted") (rFN X.K sortID) := by
  rintro pins s σ H xs us Q I r ⟨as, d, hx, e, q⟩
  unfold sortID at e
  split at e
  · obtain ⟨ns, rfl, l, rfl⟩ := sortI_some e
    obtain ⟨x, rfl, h⟩ := hx.one
    obtain ⟨p, ys, rfl, hp, ip⟩ := h.list
    rw [ip.ints] at hp
    refine cr_sorted pins s σ H _ us Q I r ⟨p, ns, rfl, hp, l, fun zs t pm so ht => ?_⟩
    rw [isrt_one pm so]
    exact q t _ ht (ints_im _)
  · next kvs =>
    obtain ⟨ns, ek, l, rfl⟩ := sortI_some e
    obtain ⟨x, rfl, h⟩ := hx.one
    obtain ⟨p, ys, rfl, hp, ip⟩ := vw_dict h (fun d z => by
      subst z
      cases ns <;> cases ek) fun a b z => by
      subst z
      cases ns <;> cases ek
    refine call_sortedDI hc pins s σ H _ us Q I r ⟨p, ys, ns, rfl, hp, ip.ints ek, l, fun zs t pm so ht => ?_⟩
    rw [isrt_one pm so]
    exact q t _ ht (ints_im _)
  · cases e
end
end Q
namespace PySem
open PySem.Spec PyProof.Rows PySem.W
section
variable {prog : Program} {w : World} {A : Around} {E : Value → Shared → Prop} {s : Shared} {r d : Addr} {n : Nat} {T : String} {P : Nat → Value → Prop} {OK : Heap → Prop}
theorem code_tuple_new_src {Q₁ : Value → Shared → Prop} (K : KdlSrc prog w T r d n P OK) (hh : A.handled = none) (hok : OK s.heap) (hn : n ≤ sizeLine) (hd : T = "dict")
    (h : ∀ (h' : Heap) (tk : Nat) (acc : Array Value), (∀ b o, s.heap.get? b = some o → h'.get? b = some o) → ItemsOf P acc n →
      Q₁ (.ref h'.objs.size) { s with heap := h'.push { cls := .type "tuple", data := .seq acc }, toks := tk }) :
    codeAny (model prog w) A (.call (.builtin "tuple.__new__") ⟨[.type "tuple", .ref r], []⟩) (wants Q₁ E) s := by
  refine codeAny_of_tree ?_
  show wpAny _ A.in1 (do checkBuiltinCall "tuple.__new__" ⟨[.type "tuple", .ref r], []⟩; again (.builtin "tuple.__new__" ⟨[.type "tuple", .ref r], []⟩)) _ _ s
  refine wpAny_bind (wpAny_of_eq (F.newCall_tuple_1 _) (wpAny_pure ⟨plainId_quiet F.plain_tuple_new _, codeAny_builtin F.entry_tuple_new ?_⟩))
  rw [Around.under_plainId F.plain_tuple_new _]
  subst hd
  have hsub := sub_tuple_self
  have hinit := init_tuple_lookup
  have hmh := madeHere_tuple
  have hTI : s.TypeIs (.ref r) "dict" := K.type _ hok
  have hh1 : A.in1.handled = none := hh
  wp_walk using wpAny_typeOf hTI, kdu_collect (A := A.in1) K hh1 hok hn
  intro h' tk acc hk hacc
  show wpAny _ _ (Builtin.Tuple.tupleExact acc.toList.toArray >>= fun v => ret v) _ _ _
  unfold Builtin.Tuple.tupleExact
  refine wpAny_bind (wpAny_newObj_type ?_ (by show acc.toList.toArray.size ≤ sizeLine; simp only [Array.toArray_toList]; rw [hacc.1]; exact hn))
  refine wpAny_pure ?_
  have e : acc.toList.toArray = acc := by simp
  rw [e]
  exact h h' tk acc hk hacc
theorem call_tuple_src {Q : Value → Shared → Prop} (K : KdlSrc prog w T r d n P OK) (hh : A.handled = none) (hok : OK s.heap) (hn : n ≤ sizeLine) (hd : T = "dict")
    (hQ : ∀ (h' : Heap) (tk : Nat) (acc : Array Value), (∀ b o, s.heap.get? b = some o → h'.get? b = some o) → ItemsOf P acc n →
      Q (.ref h'.objs.size) { s with heap := h'.push { cls := .type "tuple", data := .seq acc }, toks := tk }) :
    wpAny (model prog w) A (call (.type "tuple") [.ref r]) Q E s := by
  refine callType_codes (Q₁ := fun obj s₁ => s₁.TypeIs obj "tuple" ∧ Q obj s₁) F.called_tuple (F.typeCall_tuple_1 _) F.entry_object_init
    (code_tuple_new_src (A := A.in1) K hh hok hn hd fun h' tk acc hk hacc => ⟨⟨_, Heap.get?_push_size _ rfl, rfl⟩, hQ h' tk acc hk hacc⟩) fun obj s₁ h₁ => ?_
  exact ⟨h₁.1, F.args_object_init_2 obj _, object_init_meets F.called_tuple.init.lookup F.called_tuple.made (by decide) prog w A.in1 _ s₁ ⟨h₁.1, rfl, h₁.2⟩⟩
end
end PySem
namespace Q
open PySem PySem.Spec PyProof.Rows L2 Gd
variable [Tbl]
section
variable {X : Cx} {n : Nat} {W : XW}
/-! ### tuple(d), d an own dict whose keys are tuples -/
def rTupT (K : PySem.W.Frag) : List V → Hp → VK → Prop := fun vs H Q => ∃ p a xs ds, vs = [V.ref p] ∧ H p = some (.ext (TDp Tbl.hs a xs)) ∧ ImT K H xs ds ∧ ∀ q us (o : Obj), H q = none → o.dict = none → ImL K H us (ds.map Prod.fst) → Q (.ref q) (upd H q (.frz o (.tup us)))
theorem c_tupT (hw : HsOk X.prog X.w) (hc : X.calm = true) : CallR X (.type "tuple") (rTupT X.K) := by
  rintro pins s σ H vs us Q I r ⟨p, a, xs, ds, rfl, e, im, q⟩
  obtain rfl := Vals.ref1 r
  obtain ⟨rfl, z, lo, o, es, ep, h1, h2, h3, h4, h5, h6⟩ := td_dict hw I.hok e im
  have l1 : es.size = xs.length := size_of_entries h4
  refine call_tuple_src (kdl_raw lo h2 h3) (I.ok.hd hc) h1 (by omega) rfl fun h' tk acc' kp it => ?_
  have ea := its_of h4 it
  have rv : Vals (xs.map fun x => V.ref x.2.1) acc'.toList := by rw [ea]; exact vals_addr xs
  have I1 : Inv X pins σ H { s with heap := h', toks := tk } := I.kept (t' := tk) kp
  have nt := new_tup (Q := Q) (its := acc'.toList) I1 (by rw [List.length_map]; exact z) rv fun p o hp ho => q p _ o hp ho (imT_list im)
  rw [Array.toArray_toList] at nt
  exact nt
@[simp] def eTupT (i : Nat) : Mo R := fun ρ => match ρ[i]? with
  | some (.own (.dt ds)) => .ok (.d (.tuple (ds.map Prod.fst))) ρ
  | _ => .no
theorem xd_tupT {x : Str} {p p2 pos : Pos} {i : Nat} (hw : HsOk X.prog X.w) (calm : X.calm = true) (hg : Gl X "tuple") (hm : X.mg "tuple" = none) (hx : PE X (.Name x p2) (tVar i))
    (hs : starEach [.Name x p2] X.env = (false, eval (.Name x p2) X.env) :: starEach [] X.env := by rfl) (hpl : (backTo pos (starEach [] X.env)).any (·.1) = false := by rfl) :
    XD X n W (.Call (.Name "tuple" p) [.Name x p2] [] pos) (eTupT i) := weakE (pe_callTy (c_tupT hw calm) hg hm (show bootBuiltins "tuple" = some (.type "tuple") by decide +kernel) (pa_cons hx pa_nil hs) (by decide) (by decide) hs hpl) fun σ H Q ⟨ρ, G, h⟩ => by
  unfold eTupT at h
  split at h
  · next ds e =>
    obtain ⟨q0, a, xs, f1, f2, im⟩ := own_dt G e
    refine ⟨_, f1, q0, a, xs, ds, rfl, f2, im, fun p us o hp ho iu => ?_⟩
    exact h _ (Stp.same G (same_upd hp)) _ (.d (.tup ⟨o, upd_same, ho⟩ (iu.same (same_upd hp))))
  · exact h.elim
end
end Q
namespace Q
open PySem PySem.Spec PyProof.Rows L2 Gd
/-- no tables; the world's hashes -/
abbrev tblW (P : Program) (w : World) : Tbl := ⟨[], fun _ => True, fun _ _ _ _ => trivial, fun ks => (tupleKind (mixKind P w)).hash ks⟩
theorem walkGW {l : PySem.W.OpenLaw} {n k : Nat} {q : Program} {loose : List Str} {XP : (Str → Option Value) → Heap → Prop} {YP : World → Heap → Prop} {d : DefRec} {K : Params → PySem.W.Frag} {sp : World → PySem.W.Frag → Sp} {x : Str}
    (hn : l.most = some n) (hn2 : n ≤ sizeLine) (hdf : d.params.defaults = []) (room : Room k callerA) (hY : ∀ (w : World) (h : Heap), YP w h → (K w.params).In h)
    (F : ∀ (w : World) (mg : Str → Option Value) (fa : Addr) (h : Heap), (K w.params).In h → h.Ns mainGlobals mg → mg d.name = some (.ref fa) → ∃ fd : FuncData, (∀ (s : Shared) (u : Value), BindsTo s fd ⟨[u], []⟩ [(x, u)]) ∧
        ∀ base : Heap, (K w.params).In base → base.Ns mainGlobals mg → FnG l.prog w (K w.params) mg base k fa fd [x] (sp w (K w.params)))
    (want : ∀ (w : World) (K : PySem.W.Frag) (H : Hp) (a : Addr) (ns : List Int), ns.length ≤ n → Only H → SqL K H a (ns.map V.int) → sp w K [.ref a] H (fun v _ => v = .bl true) fun _ _ _ => False) :
    PySem.W.WalkO q loose XP YP l.row.toRowW d [] (fun f vs => PySem.call f vs) :=
  Att.attach_call hn hdf fun w s₀ s₁ mg mb fa o pm cd doc a vs ns G Y ho hd hcd hmg hobj hints hlen hg => by
    obtain ⟨fd, hb, hF⟩ := F w mg fa _ (hY w _ Y) G.T.g hmg
    exact law_callG (hY w _ Y) G.T.g G.T.b G.T.builtins G.T.nolimit hg hobj hints (Nat.le_trans hlen hn2) room hF hb fun H hO hS => want w _ H a ns hlen hO hS
end Q
namespace Z
open PySem PySem.Spec PyProof.Rows L2 Gd Q
def topS (i : Nat) : Stmt := PySem.Challenge.pw_movingpages_k55_devices_and_their_number.main.body.getD i (.Pass ⟨0, 0, 0, 0⟩)
abbrev s_i_NoDevice : Stmt := (cbody (topS 6)).getD 0 (.Pass ⟨0, 0, 0, 0⟩)
theorem sc_i_NoDevice : FnScope ["self", "device"] ["self", "device"] (defScope s_i_NoDevice) := ⟨rfl, rfl, rfl, by decide +kernel, rfl, by decide +kernel, by decide +kernel⟩
abbrev s_i_BadVersion : Stmt := (cbody (topS 5)).getD 0 (.Pass ⟨0, 0, 0, 0⟩)
theorem sc_i_BadVersion : FnScope ["self", "version"] ["self", "version"] (defScope s_i_BadVersion) := ⟨rfl, rfl, rfl, by decide +kernel, rfl, by decide +kernel, by decide +kernel⟩
abbrev s_i_BadToken : Stmt := (cbody (topS 4)).getD 0 (.Pass ⟨0, 0, 0, 0⟩)
theorem sc_i_BadToken : FnScope ["self", "token"] ["self", "token"] (defScope s_i_BadToken) := ⟨rfl, rfl, rfl, by decide +kernel, rfl, by decide +kernel, by decide +kernel⟩
abbrev s_i_TooMany : Stmt := (cbody (topS 3)).getD 0 (.Pass ⟨0, 0, 0, 0⟩)
theorem sc_i_TooMany : FnScope ["self", "most"] ["self", "most"] (defScope s_i_TooMany) := ⟨rfl, rfl, rfl, by decide +kernel, rfl, by decide +kernel, by decide +kernel⟩
/-! ### _law_take -/
abbrev s__law_take : Stmt := topS 30
abbrev n__law_take : List Str := ["_law_hand_here", "_law_many", "_law_digit", "_law_turn", "_law_prime", "_law_mixed"]
theorem sc__law_take : FnScope n__law_take ["_law_hand_here", "_law_many"] (defScope s__law_take) := ⟨rfl, rfl, rfl, by decide +kernel, rfl, by decide +kernel, by decide +kernel⟩
noncomputable def b__law_take : Mo Out := (bSeq (bIf (asB (e2 gtD (e2 ixD (eVar 0) (eC (.int 0))) (eC (.int 0)))) (bSeq (bSet 2 (e2 modD (e2 ixD (eVar 0) (eC (.int 0))) (eVar 1))) (bSeq (bSetIx 0 (e2 fdivD (e2 ixD (eVar 0) (eC (.int 0))) (eVar 1)) (eC (.int 0))) (bSeq (bRet (eVar 2)) bNil))) bNil) (bSeq (bSet 3 (e2 addD (e2 ixD (eVar 0) (eC (.int 2))) (eC (.int 1)))) (bSeq (bSetIx 0 (eVar 3) (eC (.int 2))) (bSeq (bSet 4 (e2 ixD (eLock (fLst (eCons (eC (.int 2147483647)) (eCons (eC (.int 2147483629)) (eCons (eC (.int 2147483587)) (eCons (eC (.int 2147483579)) (eCons (eC (.int 2147483563)) (eCons (eC (.int 2147483549)) eNil)))))))) (e2 modD (eVar 3) (eC (.int 6))))) (bSeq (bSet 5 (e2 modD (e2 powD (e2 addD (e2 addD (e2 ixD (eVar 0) (eC (.int 1))) (e2 mulA (e2 mulA (eC (.int 65537)) (eVar 3)) (eVar 3))) (e2 mulA (eC (.int 31)) (eVar 3))) (eC (.int 3))) (eVar 4))) (bSeq (bRet (e2 modD (e2 fdivD (e2 modD (e2 mulA (eVar 5) (e2 addD (e2 modD (eVar 5) (eC (.int 10007))) (e2 mulA (eC (.int 13)) (eVar 3)))) (eC (.int 2305843009213693907))) (eC (.int 97))) (eVar 1))) bNil))))))
noncomputable def F__law_take : Fn := fnOf 2 6 b__law_take
/-! ### _law_pick -/
abbrev s__law_pick : Stmt := topS 31
abbrev n__law_pick : List Str := ["_law_hand_here", "_law_items"]
theorem sc__law_pick : FnScope n__law_pick ["_law_hand_here", "_law_items"] (defScope s__law_pick) := ⟨rfl, rfl, rfl, by decide +kernel, rfl, by decide +kernel, by decide +kernel⟩
noncomputable def b__law_pick : Mo Out := (bSeq (bRet (e2 ixD (eVar 1) (eCall F__law_take (eCons (eVar 0) (eCons (eN lenD (eCons (eVar 1) eNil)) eNil))))) bNil)
noncomputable def F__law_pick : Fn := fnOf 2 2 b__law_pick
/-! ### _law_names -/
abbrev s__law_names : Stmt := topS 32
abbrev n__law_names : List Str := ["_law_hand_here", "_law_count", "_law_letters", "_law_first", "_law_leap", "_law_stem", "_law_cut", "_law_nth"]
theorem sc__law_names : FnScope n__law_names ["_law_hand_here", "_law_count"] (defScope s__law_names) := ⟨rfl, rfl, rfl, by decide +kernel, rfl, by decide +kernel, by decide +kernel⟩
noncomputable def b__law_names : Mo Out := (bSeq (bSet 2 (eC (.str abcS))) (bSeq (bAsg (eTup (eCons (eCall F__law_take (eCons (eVar 0) (eCons (eC (.int 26)) eNil))) (eCons (eCall F__law_pick (eCons (eVar 0) (eCons (eLock (fLst (eCons (eC (.int 1)) (eCons (eC (.int 3)) (eCons (eC (.int 5)) (eCons (eC (.int 7)) (eCons (eC (.int 9)) (eCons (eC (.int 11)) (eCons (eC (.int 25)) eNil))))))))) eNil))) eNil))) (gT 2 (gsCons (gN 3) (gsCons (gN 4) gsNil)))) (bSeq (bSet 5 (e2 mulA (eCall F__law_pick (eCons (eVar 0) (eCons (eVar 2) eNil))) (eCall F__law_pick (eCons (eVar 0) (eCons (eLock (fLst (eCons (eC (.int 0)) (eCons (eC (.int 0)) (eCons (eC (.int 1)) (eCons (eC (.int 3)) (eCons (eC (.int 7)) eNil))))))) eNil))))) (bSeq (bSet 6 (eCall F__law_take (eCons (eVar 0) (eCons (e2 addD (eN lenD (eCons (eVar 5) eNil)) (eC (.int 1))) eNil)))) (bSeq (bRetF (fComp (iN range1D (eCons (eVar 1) eNil)) (gN 7) bYes (e2 addD (e2 addD (eSl (eVar 5) pNo (pSo (eVar 6))) (e2 ixD (eVar 2) (e2 modD (e2 addD (eVar 3) (e2 mulA (eVar 4) (eVar 7))) (eC (.int 26))))) (eSl (eVar 5) (pSo (eVar 6)) pNo)) [7])) bNil)))))
noncomputable def F__law_names : Fn := fnOf 2 8 b__law_names
/-! ### _law_shuffled -/
abbrev s__law_shuffled : Stmt := topS 33
abbrev n__law_shuffled : List Str := ["_law_hand_here", "_law_items", "_law_rest", "_law_found"]
theorem sc__law_shuffled : FnScope n__law_shuffled ["_law_hand_here", "_law_items"] (defScope s__law_shuffled) := ⟨rfl, rfl, rfl, by decide +kernel, rfl, by decide +kernel, by decide +kernel⟩
noncomputable def b__law_shuffled : Mo Out := (bSeq (bPar 2 3 (.ff (fN listD (eCons (eVar 1) eNil))) (.ff (fLst eNil))) (bSeq (whileD (asB (e2 neF (eVar 2) (eLock (fLst eNil)))) (bSeq (bEx (eMut appF 3 (eCons (eMut popF 2 (eCons (eCall F__law_take (eCons (eVar 0) (eCons (eN lenD (eCons (eVar 2) eNil)) eNil))) eNil)) eNil))) bNil) 1000) (bSeq (bRet (eVar 3)) bNil)))
noncomputable def F__law_shuffled : Fn := fnOf 2 4 b__law_shuffled
/-! ### kept_orders -/
abbrev s_kept_orders : Stmt := topS 27
abbrev n_kept_orders : List Str := ["orders", "kept", "order"]
theorem sc_kept_orders : FnScope n_kept_orders ["orders"] (defScope s_kept_orders) := ⟨rfl, rfl, rfl, by decide +kernel, rfl, by decide +kernel, by decide +kernel⟩
noncomputable def b_kept_orders : Mo Out := (bSeq (bSetF 1 (fDcT (iSeq (eVar 0)) (gN 2) (asB (e2 gtD (eN lenD (eCons (eVar 2) eNil)) (eC (.int 0)))) (eVar 2) (eC (.bool true)) [2])) (bSeq (bRet (eTupT 1)) bNil))
noncomputable def F_kept_orders : Fn := fnOf 1 3 b_kept_orders
/-! ### is_row -/
abbrev s_is_row : Stmt := topS 12
abbrev n_is_row : List Str := ["value", "letter"]
theorem sc_is_row : FnScope n_is_row ["value"] (defScope s_is_row) := ⟨rfl, rfl, rfl, by decide +kernel, rfl, by decide +kernel, by decide +kernel⟩
noncomputable def b_is_row : Mo Out := (bSeq (bIf (bOr (bNot (asB (e1 (isiD "str") (eVar 0)))) (bNot (asB (eChain leD leD (eC (.int 1)) (eN lenD (eCons (eVar 0) eNil)) (eC (.int 8)))))) (bSeq (bRet (eC (.bool false))) bNil) bNil) (bSeq (bRet (eN allD (eCons (eLock (fComp (iSeq (eVar 0)) (gN 1) bYes (eChain leD leD (eC (.str "a")) (eVar 1) (eC (.str "z"))) [1])) eNil))) bNil))
noncomputable def F_is_row : Fn := fnOf 1 2 b_is_row
/-! ### is_version -/
abbrev s_is_version : Stmt := topS 13
abbrev n_is_version : List Str := ["value", "row"]
theorem sc_is_version : FnScope n_is_version ["value"] (defScope s_is_version) := ⟨rfl, rfl, rfl, by decide +kernel, rfl, by decide +kernel, by decide +kernel⟩
noncomputable def b_is_version : Mo Out := (bSeq (bIf (bOr (bNot (asB (e1 (isiD "tuple") (eVar 0)))) (asB (e2 gtD (eN lenD (eCons (eVar 0) eNil)) (eC (.int 24))))) (bSeq (bRet (eC (.bool false))) bNil) bNil) (bSeq (bRet (eAnd (eN allD (eCons (eLock (fComp (iSeq (eVar 0)) (gN 1) bYes (eCall F_is_row (eCons (eVar 1) eNil)) [1])) eNil)) (e2 eqF (e1 lenSetD (eVar 0)) (eN lenD (eCons (eVar 0) eNil))))) bNil))
noncomputable def F_is_version : Fn := fnOf 1 2 b_is_version
/-! ### Feed.__init__ -/
abbrev s_Feed___init__ : Stmt := (cbody (topS 26)).getD 0 (.Pass ⟨0, 0, 0, 0⟩)
abbrev n_Feed___init__ : List Str := ["self", "version"]
theorem sc_Feed___init__ : FnScope n_Feed___init__ ["self", "version"] (defScope s_Feed___init__) := ⟨rfl, rfl, rfl, by decide +kernel, rfl, by decide +kernel, by decide +kernel⟩
noncomputable def b_Feed___init__ : MoM OutM := (mSeq (mIf (bD (bNot (asB (eCall F_is_version (eCons (eVar 1) eNil))))) (mSeq (mRaise "BadVersion" "version" (eConsM (eD (eVar 1)) eNilM)) mNil) mNil) (mSeq (mFld "Feed" "current" (eD (eVar 1)) (eVarM 0)) (mSeq (mFld "Feed" "stored" (eD (eCall F_kept_orders (eCons (eLock (fLst (eCons (eVar 1) eNil))) eNil))) (eVarM 0)) (mSeq (mFld "Feed" "tokens" (eNewM (fD fNewD)) (eVarM 0)) (mSeq (mFld "Feed" "next_number" (eD (eC (.int 0))) (eVarM 0)) mNil)))))
noncomputable def F_Feed___init__ : FnM := fnM 2 2 b_Feed___init__
/-! ### prefix_length -/
abbrev s_prefix_length : Stmt := topS 15
abbrev n_prefix_length : List Str := ["version", "live", "rows", "place", "row"]
theorem sc_prefix_length : FnScope n_prefix_length ["version", "live", "rows"] (defScope s_prefix_length) := ⟨rfl, rfl, rfl, by decide +kernel, rfl, by decide +kernel, by decide +kernel⟩
noncomputable def b_prefix_length : Mo Out := (bSeq (bFor (iMap enF (eCons (eVar 0) eNil)) (gT 2 (gsCons (gN 3) (gsCons (gN 4) gsNil))) (bSeq (bIf (bAnd (asB (e2 ninF (eVar 4) (eVar 2))) (asB (e2 inF (eVar 4) (eVar 1)))) (bSeq (bRet (eVar 3)) bNil) bNil) bNil)) (bSeq (bRet (eN lenD (eCons (eVar 0) eNil))) bNil))
noncomputable def F_prefix_length : Fn := fnOf 3 5 b_prefix_length
/-! ### encode_state -/
abbrev s_encode_state : Stmt := topS 17
abbrev n_encode_state : List Str := ["orders", "rows", "order"]
theorem sc_encode_state : FnScope n_encode_state ["orders", "rows"] (defScope s_encode_state) := ⟨rfl, rfl, rfl, by decide +kernel, rfl, by decide +kernel, by decide +kernel⟩
noncomputable def b_encode_state : Mo Out := (bSeq (bRet (eN tupleD (eCons (eLock (fComp (iSeq (eVar 0)) (gN 2) bYes (eCall F_prefix_length (eCons (eVar 2) (eCons (eVar 2) (eCons (eVar 1) eNil)))) [2])) eNil))) bNil)
noncomputable def F_encode_state : Fn := fnOf 2 3 b_encode_state
/-! ### Feed.open_device -/
abbrev s_Feed_open_device : Stmt := (cbody (topS 26)).getD 12 (.Pass ⟨0, 0, 0, 0⟩)
abbrev n_Feed_open_device : List Str := ["self", "device"]
theorem sc_Feed_open_device : FnScope n_Feed_open_device ["self"] (defScope s_Feed_open_device) := ⟨rfl, rfl, rfl, by decide +kernel, rfl, by decide +kernel, by decide +kernel⟩
noncomputable def b_Feed_open_device : MoM OutM := (mSeq (mIf (asBM (e2M geD (eNM lenK (eConsM (eFldM "Feed" "tokens" (eVarM 0)) eNilM)) (eD (eC (.int 40))))) (mSeq (mRaise "TooMany" "most" (eConsM (eD (eC (.int 40))) eNilM)) mNil) mNil) (mSeq (mSet 1 (eFldM "Feed" "next_number" (eVarM 0))) (mSeq (mPutK (eCallO F_encode_state (eConsM (eFldM "Feed" "stored" (eVarM 0)) (eConsM (eD (eTup eNil)) eNilM))) (eFldM "Feed" "tokens" (eVarM 0)) (eD (eVar 1))) (mSeq (mFld "Feed" "next_number" (eD (e2 addD (eVar 1) (eC (.int 1)))) (eVarM 0)) (mSeq (mRet (eD (eVar 1))) mNil)))))
noncomputable def F_Feed_open_device : FnM := fnM 1 2 b_Feed_open_device
/-! ### _law_opened -/
abbrev s__law_opened : Stmt := topS 34
abbrev n__law_opened : List Str := ["_law_feed", "_law_told", "_law_caught", "error"]
theorem sc__law_opened : FnScope n__law_opened ["_law_feed"] (defScope s__law_opened) := ⟨rfl, rfl, rfl, by decide +kernel, rfl, by decide +kernel, by decide +kernel⟩
noncomputable def b__law_opened : MoM OutM := (mSeq (mAsg (eD (eTup (eCons (eC .none) (eCons (eC .none) eNil)))) (gTM 2 (gsConsM (gNM 1) (gsConsM (gNM 2) gsNilM)))) (mSeq (mTry [("TooMany", true), ("BadToken", true), ("BadVersion", true), ("NoDevice", true)] 3 2 (mSeq (mSet 1 (eMethM "Feed" F_Feed_open_device "open_device" (eVarM 0) eNilM)) mNil)) (mSeq (mIf (bD (asB (eNonX 2))) (mSeq (mRet (eD (eVar 1))) mNil) mNil) (mSeq (mRet (eD (eIf (bAnd (asB (eIsX [("TooMany", true), ("BadToken", false), ("BadVersion", false), ("NoDevice", false)] 2)) (bNot (asB (eIsX [("TooMany", false), ("BadToken", false), ("BadVersion", false), ("NoDevice", true)] 2)))) (eTup (eCons (eC (.str "many")) (eCons (eFldX ["TooMany"] "most" 2) eNil))) (eC (.str "other"))))) mNil))))
noncomputable def F__law_opened : FnM := fnM 1 4 b__law_opened
/-! ### union_of -/
abbrev s_union_of : Stmt := topS 20
abbrev n_union_of : List Str := ["groups", "rows", "row"]
theorem sc_union_of : FnScope n_union_of ["groups"] (defScope s_union_of) := ⟨rfl, rfl, rfl, by decide +kernel, rfl, by decide +kernel, by decide +kernel⟩
noncomputable def b_union_of : Mo Out := (bSeq (bRet (eN tupleD (eCons (eLock (fSc2 (iSeq (eVar 0)) (gN 1) (iSeq (eVar 1)) (gN 2) (eVar 2) [1, 2] [2])) eNil))) bNil)
noncomputable def F_union_of : Fn := fnOf 1 3 b_union_of
/-! ### is_integer_within -/
abbrev s_is_integer_within : Stmt := topS 8
abbrev n_is_integer_within : List Str := ["value", "low", "high"]
theorem sc_is_integer_within : FnScope n_is_integer_within ["value", "low", "high"] (defScope s_is_integer_within) := ⟨rfl, rfl, rfl, by decide +kernel, rfl, by decide +kernel, by decide +kernel⟩
noncomputable def b_is_integer_within : Mo Out := (bSeq (bIf (bOr (asB (e1 (isiD "bool") (eVar 0))) (bNot (asB (e1 (isiD "int") (eVar 0))))) (bSeq (bRet (eC (.bool false))) bNil) bNil) (bSeq (bRet (eChain leD leD (eVar 1) (eVar 0) (eVar 2))) bNil))
noncomputable def F_is_integer_within : Fn := fnOf 3 3 b_is_integer_within
/-! ### is_token -/
abbrev s_is_token : Stmt := topS 19
abbrev n_is_token : List Str := ["orders", "value", "order", "many"]
theorem sc_is_token : FnScope n_is_token ["orders", "value"] (defScope s_is_token) := ⟨rfl, rfl, rfl, by decide +kernel, rfl, by decide +kernel, by decide +kernel⟩
noncomputable def b_is_token : Mo Out := (bSeq (bIf (bOr (bNot (asB (e1 (isiD "tuple") (eVar 1)))) (asB (e2 neF (eN lenD (eCons (eVar 1) eNil)) (eN lenD (eCons (eVar 0) eNil))))) (bSeq (bRet (eC (.bool false))) bNil) bNil) (bSeq (bRet (eN allD (eCons (eLock (fComp (iMap zipF (eCons (eVar 0) (eCons (eVar 1) eNil))) (gT 2 (gsCons (gN 2) (gsCons (gN 3) gsNil))) bYes (eCall F_is_integer_within (eCons (eVar 3) (eCons (eC (.int 0)) (eCons (eN lenD (eCons (eVar 2) eNil)) eNil)))) [2, 3])) eNil))) bNil))
noncomputable def F_is_token : Fn := fnOf 2 4 b_is_token
/-! ### decode_token -/
abbrev s_decode_token : Stmt := topS 18
abbrev n_decode_token : List Str := ["orders", "token", "order", "many"]
theorem sc_decode_token : FnScope n_decode_token ["orders", "token"] (defScope s_decode_token) := ⟨rfl, rfl, rfl, by decide +kernel, rfl, by decide +kernel, by decide +kernel⟩
noncomputable def b_decode_token : Mo Out := (bSeq (bIf (bNot (asB (eCall F_is_token (eCons (eVar 0) (eCons (eVar 1) eNil))))) (bSeq (bRaise "BadToken" "token" (eCons (eVar 1) eNil)) bNil) bNil) (bSeq (bRet (eCall F_union_of (eCons (eLock (fComp (iMap zipF (eCons (eVar 0) (eCons (eVar 1) eNil))) (gT 2 (gsCons (gN 2) (gsCons (gN 3) gsNil))) bYes (eSl (eVar 2) pNo (pSo (eVar 3))) [2, 3])) eNil))) bNil))
noncomputable def F_decode_token : Fn := fnX 2 4 b_decode_token
/-! ### Feed.require_device -/
abbrev s_Feed_require_device : Stmt := (cbody (topS 26)).getD 14 (.Pass ⟨0, 0, 0, 0⟩)
abbrev n_Feed_require_device : List Str := ["self", "device"]
theorem sc_Feed_require_device : FnScope n_Feed_require_device ["self", "device"] (defScope s_Feed_require_device) := ⟨rfl, rfl, rfl, by decide +kernel, rfl, by decide +kernel, by decide +kernel⟩
noncomputable def b_Feed_require_device : MoM OutM := (mSeq (mIf (bOrM (bNotM (asBM (eCallO F_is_integer_within (eConsM (eD (eVar 1)) (eConsM (eD (eC (.int 0))) (eConsM (eFldM "Feed" "next_number" (eVarM 0)) eNilM)))))) (asBM (e2M ninK (eD (eVar 1)) (eFldM "Feed" "tokens" (eVarM 0))))) (mSeq (mRaise "NoDevice" "device" (eConsM (eD (eVar 1)) eNilM)) mNil) mNil) mNil)
noncomputable def F_Feed_require_device : FnM := fnM 2 2 b_Feed_require_device
/-! ### Feed.token_of -/
abbrev s_Feed_token_of : Stmt := (cbody (topS 26)).getD 16 (.Pass ⟨0, 0, 0, 0⟩)
abbrev n_Feed_token_of : List Str := ["self", "device"]
theorem sc_Feed_token_of : FnScope n_Feed_token_of ["self", "device"] (defScope s_Feed_token_of) := ⟨rfl, rfl, rfl, by decide +kernel, rfl, by decide +kernel, by decide +kernel⟩
noncomputable def b_Feed_token_of : MoM OutM := (mSeq (mEx (eMethM "Feed" F_Feed_require_device "require_device" (eVarM 0) (eConsM (eD (eVar 1)) eNilM))) (mSeq (mRet (eGetM (eFldM "Feed" "tokens" (eVarM 0)) (eD (eVar 1)))) mNil))
noncomputable def F_Feed_token_of : FnM := fnM 2 2 b_Feed_token_of
/-! ### Feed.state_of -/
abbrev s_Feed_state_of : Stmt := (cbody (topS 26)).getD 15 (.Pass ⟨0, 0, 0, 0⟩)
abbrev n_Feed_state_of : List Str := ["self", "device"]
theorem sc_Feed_state_of : FnScope n_Feed_state_of ["self", "device"] (defScope s_Feed_state_of) := ⟨rfl, rfl, rfl, by decide +kernel, rfl, by decide +kernel, by decide +kernel⟩
noncomputable def b_Feed_state_of : MoM OutM := (mSeq (mRet (eCallOX F_decode_token (eConsM (eFldM "Feed" "stored" (eVarM 0)) (eConsM (eMethM "Feed" F_Feed_token_of "token_of" (eVarM 0) (eConsM (eD (eVar 1)) eNilM)) eNilM)))) mNil)
noncomputable def F_Feed_state_of : FnM := fnM 2 2 b_Feed_state_of
/-! ### Feed.devices -/
abbrev s_Feed_devices : Stmt := (cbody (topS 26)).getD 5 (.Pass ⟨0, 0, 0, 0⟩)
abbrev n_Feed_devices : List Str := ["self"]
theorem sc_Feed_devices : FnScope n_Feed_devices ["self"] (defScope s_Feed_devices) := ⟨rfl, rfl, rfl, by decide +kernel, rfl, by decide +kernel, by decide +kernel⟩
noncomputable def b_Feed_devices : MoM OutM := (mSeq (mRet (eNM tupleD (eConsM (eLockM (fNM sortID (eConsM (eFldM "Feed" "tokens" (eVarM 0)) eNilM))) eNilM))) mNil)
noncomputable def F_Feed_devices : FnM := fnM 1 1 b_Feed_devices
/-! ### _law_open_right -/
abbrev s__law_open_right : Stmt := topS 35
abbrev n__law_open_right : List Str := ["_law_feed", "_law_opened_here", "_law_number", "_law_told"]
theorem sc__law_open_right : FnScope n__law_open_right ["_law_feed", "_law_opened_here", "_law_number"] (defScope s__law_open_right) := ⟨rfl, rfl, rfl, by decide +kernel, rfl, by decide +kernel, by decide +kernel⟩
noncomputable def b__law_open_right : MoM OutM := (mSeq (mSet 3 (eCall0M F__law_opened (eConsM (eVarM 0) eNilM))) (mSeq (mIf (asBM (e2M eqF (eNM lenD (eConsM (eVarM 1) eNilM)) (eD (eC (.int 40))))) (mSeq (mRet (eAndM (eD (e2 eqF (eN reprD (eCons (eVar 3) eNil)) (eN reprD (eCons (eTup (eCons (eC (.str "many")) (eCons (eC (.int 40)) eNil))) eNil)))) (e2M eqF (eMethM "Feed" F_Feed_devices "devices" (eVarM 0) eNilM) (eNM tupleD (eConsM (eLockM (fNM sortID (eConsM (eVarM 1) eNilM))) eNilM))))) mNil) mNil) (mSeq (mRet (eAndM (eD (e2 eqF (eN reprD (eCons (eVar 3) eNil)) (eN reprD (eCons (eVar 2) eNil)))) (eAndM (e2M eqF (eMethM "Feed" F_Feed_state_of "state_of" (eVarM 0) (eConsM (eD (eVar 2)) eNilM)) (eD (eTup eNil))) (e2M eqF (eNM sumD (eConsM (eMethM "Feed" F_Feed_token_of "token_of" (eVarM 0) (eConsM (eD (eVar 2)) eNilM)) eNilM)) (eD (eC (.int 0))))))) mNil)))
noncomputable def F__law_open_right : FnM := fnM 3 4 b__law_open_right
/-! ### Feed.close_device -/
abbrev s_Feed_close_device : Stmt := (cbody (topS 26)).getD 13 (.Pass ⟨0, 0, 0, 0⟩)
abbrev n_Feed_close_device : List Str := ["self", "device"]
theorem sc_Feed_close_device : FnScope n_Feed_close_device ["self", "device"] (defScope s_Feed_close_device) := ⟨rfl, rfl, rfl, by decide +kernel, rfl, by decide +kernel, by decide +kernel⟩
noncomputable def b_Feed_close_device : MoM OutM := (mSeq (mEx (eMethM "Feed" F_Feed_require_device "require_device" (eVarM 0) (eConsM (eD (eVar 1)) eNilM))) (mSeq (mDelK (eFldM "Feed" "tokens" (eVarM 0)) (eD (eVar 1))) mNil))
noncomputable def F_Feed_close_device : FnM := fnM 2 2 b_Feed_close_device
/-! ### _law_right -/
abbrev s__law_right : Stmt := topS 36
abbrev n__law_right : List Str := ["_law_hand_here", "_law_names_here", "_law_feed", "_law_opened_here", "_law_number", "_law_turn", "_law_device", "_law_many"]
theorem sc__law_right : FnScope n__law_right ["_law_hand_here"] (defScope s__law_right) := ⟨rfl, rfl, rfl, by decide +kernel, rfl, by decide +kernel, by decide +kernel⟩
noncomputable def b__law_right : MoM OutM := (mSeq (mSet 1 (eLockM (fCallO F__law_names (eConsM (eVarM 0) (eConsM (eD (eC (.int 4))) eNilM))))) (mSeq (mMany [2, 3, 4] (eConsM (eMakeM "Feed" F_Feed___init__ (eConsM (eNM tupleD (eConsM (eLockM (fSlM (eD (eVar 1)) pNoM (pSoM (eCallO F__law_take (eConsM (eVarM 0) (eConsM (eD (eC (.int 5))) eNilM)))))) eNilM)) eNilM)) (eConsM (eNewM (fD (fLst eNil))) (eConsM (eD (eC (.int 0))) eNilM)))) (mSeq (mFor (iNM range1D (eConsM (e2M addD (eD (eC (.int 10))) (eCallO F__law_take (eConsM (eVarM 0) (eConsM (eD (eC (.int 51))) eNilM)))) eNilM)) (gNM 5) (mSeq (mIf (bAndM (asBM (e2M neF (eVarM 3) (eLockM (fD (fLst eNil))))) (asBM (e2M eqF (eCallO F__law_take (eConsM (eVarM 0) (eConsM (eD (eC (.int 8))) eNilM))) (eD (eC (.int 0)))))) (mSeq (mSet 6 (eMutM popF (eVarM 3) (eConsM (eCallO F__law_take (eConsM (eVarM 0) (eConsM (eNM lenD (eConsM (eVarM 3) eNilM)) eNilM))) eNilM))) (mSeq (mIf (asBM (e2M notND (eMethM "Feed" F_Feed_close_device "close_device" (eVarM 2) (eConsM (eD (eVar 6)) eNilM)) (eD (eC .none)))) (mSeq (mRet (eD (eC (.bool false)))) mNil) mNil) mNil)) (mSeq (mSet 7 (eNM lenD (eConsM (eVarM 3) eNilM))) (mSeq (mIf (bNotM (asBM (eCall0M F__law_open_right (eConsM (eVarM 2) (eConsM (eVarM 3) (eConsM (eD (eVar 4)) eNilM)))))) (mSeq (mRet (eD (eC (.bool false)))) mNil) mNil) (mSeq (mIf (bD (asB (e2 ltD (eVar 7) (eC (.int 40))))) (mSeq (mMany [3, 4] (eConsM (eNewM (f2M cat2 (eVarM 3) (eLockM (fD (fLst (eCons (eVar 4) eNil)))))) (eConsM (eD (e2 addD (eVar 4) (eC (.int 1)))) eNilM))) mNil) mNil) mNil)))) (mSeq (mIf (asBM (e2M neF (eMethM "Feed" F_Feed_devices "devices" (eVarM 2) eNilM) (eNM tupleD (eConsM (eLockM (fNM sortID (eConsM (eVarM 3) eNilM))) eNilM)))) (mSeq (mRet (eD (eC (.bool false)))) mNil) mNil) mNil))) (mSeq (whileM (asBM (e2M ltD (eNM lenD (eConsM (eVarM 3) eNilM)) (eD (eC (.int 40))))) (mSeq (mMany [3, 4] (eConsM (eNewM (f2M cat2 (eVarM 3) (eLockM (fLstM (eConsM (eMethM "Feed" F_Feed_open_device "open_device" (eVarM 2) eNilM) eNilM))))) (eConsM (eD (e2 addD (eVar 4) (eC (.int 1)))) eNilM))) mNil) 1000) (mSeq (mIf (bNotM (asBM (eCall0M F__law_open_right (eConsM (eVarM 2) (eConsM (eVarM 3) (eConsM (eD (eVar 4)) eNilM)))))) (mSeq (mRet (eD (eC (.bool false)))) mNil) mNil) (mSeq (mFor (iNewM (fCallO F__law_shuffled (eConsM (eVarM 0) (eConsM (eVarM 3) eNilM)))) (gNM 6) (mSeq (mEx (eMethM "Feed" F_Feed_close_device "close_device" (eVarM 2) (eConsM (eD (eVar 6)) eNilM))) mNil)) (mSeq (mRet (eAndM (e2M eqF (eMethM "Feed" F_Feed_devices "devices" (eVarM 2) eNilM) (eD (eTup eNil))) (e2M eqF (eMethM "Feed" F_Feed_open_device "open_device" (eVarM 2) eNilM) (eD (eVar 4))))) mNil)))))))
noncomputable def F__law_right : FnM := fnM 1 8 b__law_right
/-! ### _law_hand -/
abbrev s__law_hand : Stmt := topS 29
abbrev n__law_hand : List Str := ["_law_script", "_law_k", "_law_cell", "_law_great"]
theorem sc__law_hand : FnScope n__law_hand ["_law_script", "_law_k"] (defScope s__law_hand) := ⟨rfl, rfl, rfl, by decide +kernel, rfl, by decide +kernel, by decide +kernel⟩
noncomputable def b__law_hand : Mo Out := (bSeq (bSet 2 (eIf (asB (e2 ltD (eVar 1) (eN lenD (eCons (eVar 0) eNil)))) (e2 ixD (eVar 0) (eVar 1)) (e2 addD (e2 mulA (eC (.int 7)) (eVar 1)) (eC (.int 3))))) (bSeq (bSet 3 (e2 mulA (e2 modD (eN absD (eCons (eVar 2) eNil)) (e2 mulA (e2 mulA (e2 mulA (e2 powD (eC (.int 10)) (eC (.int 60))) (e2 powD (eC (.int 10)) (eC (.int 60)))) (e2 powD (eC (.int 10)) (eC (.int 60)))) (e2 powD (eC (.int 10)) (eC (.int 60))))) (eN intD (eCons (e2 geD (eN absD (eCons (eVar 2) eNil)) (e2 powD (eC (.int 10)) (eC (.int 18)))) eNil)))) (bSeq (bRetF (fLst (eCons (eVar 3) (eCons (e2 modD (e2 mulA (e2 addD (e2 addD (e2 modD (eVar 2) (eC (.int 2305843009213693951))) (e2 mulA (e2 mulA (eC (.int 104729)) (eVar 1)) (eVar 1))) (eC (.int 29))) (eC (.int 48271))) (eC (.int 2305843009213693921))) (eCons (eC (.int 0)) eNil))))) bNil)))
noncomputable def F__law_hand : Fn := fnOf 2 4 b__law_hand
/-! ### law -/
abbrev s_law : Stmt := topS 37
abbrev n_law : List Str := ["_law_script", "_law_k"]
theorem sc_law : FnScope n_law ["_law_script"] (defScope s_law) := ⟨rfl, rfl, rfl, by decide +kernel, rfl, by decide +kernel, by decide +kernel⟩
noncomputable def b_law : MoM OutM := (mSeq (mRet (eNM allD (eConsM (eLockM (fCompM (iD (iN range1D (eCons (eN max2D (eCons (eC (.int 1)) (eCons (eN min2D (eCons (eC (.int 3)) (eCons (eN lenD (eCons (eVar 0) eNil)) eNil))) eNil))) eNil))) (gNM 1) bYesM (eCall0M F__law_right (eConsM (eNewM (fD (fCall F__law_hand (eCons (eVar 0) (eCons (eVar 1) eNil))))) eNilM)) [1])) eNilM))) mNil)
noncomputable def F_law : FnM := fnM 1 2 b_law
structure Txt0 (K : PySem.W.Frag) (mg : Str → Option Value) (f__law_take f__law_pick f__law_names f__law_shuffled f_kept_orders f_is_row f_is_version f_Feed___init__ f_prefix_length f_encode_state f_Feed_open_device f__law_opened f_union_of f_is_integer_within f_is_token f_decode_token f_Feed_require_device f_Feed_token_of f_Feed_state_of f_Feed_devices f__law_open_right f_Feed_close_device f__law_right f__law_hand f_law c_PagesError c_TooMany c_BadToken c_BadVersion c_NoDevice c_Feed i_TooMany i_BadToken i_BadVersion i_NoDevice : Addr) (e__law_take e__law_pick e__law_names e__law_shuffled e_kept_orders e_is_row e_is_version e_Feed___init__ e_prefix_length e_encode_state e_Feed_open_device e__law_opened e_union_of e_is_integer_within e_is_token e_decode_token e_Feed_require_device e_Feed_token_of e_Feed_state_of e_Feed_devices e__law_open_right e_Feed_close_device e__law_right e__law_hand e_law j_TooMany j_BadToken j_BadVersion j_NoDevice : FuncData) : Prop where
  d__law_take : Fun K "_law_take" "_law_take" s__law_take f__law_take e__law_take
  b__law_take : Binds K e__law_take ["_law_hand_here", "_law_many"] []
  g__law_take : mg "_law_take" = some (.ref f__law_take)
  d__law_pick : Fun K "_law_pick" "_law_pick" s__law_pick f__law_pick e__law_pick
  b__law_pick : Binds K e__law_pick ["_law_hand_here", "_law_items"] []
  g__law_pick : mg "_law_pick" = some (.ref f__law_pick)
  d__law_names : Fun K "_law_names" "_law_names" s__law_names f__law_names e__law_names
  b__law_names : Binds K e__law_names ["_law_hand_here", "_law_count"] []
  g__law_names : mg "_law_names" = some (.ref f__law_names)
  d__law_shuffled : Fun K "_law_shuffled" "_law_shuffled" s__law_shuffled f__law_shuffled e__law_shuffled
  b__law_shuffled : Binds K e__law_shuffled ["_law_hand_here", "_law_items"] []
  g__law_shuffled : mg "_law_shuffled" = some (.ref f__law_shuffled)
  d_kept_orders : Fun K "kept_orders" "kept_orders" s_kept_orders f_kept_orders e_kept_orders
  b_kept_orders : Binds K e_kept_orders ["orders"] []
  g_kept_orders : mg "kept_orders" = some (.ref f_kept_orders)
  d_is_row : Fun K "is_row" "is_row" s_is_row f_is_row e_is_row
  b_is_row : Binds K e_is_row ["value"] []
  g_is_row : mg "is_row" = some (.ref f_is_row)
  d_is_version : Fun K "is_version" "is_version" s_is_version f_is_version e_is_version
  b_is_version : Binds K e_is_version ["value"] []
  g_is_version : mg "is_version" = some (.ref f_is_version)
  d_Feed___init__ : FunV K "__init__" "Feed.__init__" s_Feed___init__ f_Feed___init__ e_Feed___init__
  b_Feed___init__ : Binds K e_Feed___init__ ["self", "version"] []
  d_prefix_length : Fun K "prefix_length" "prefix_length" s_prefix_length f_prefix_length e_prefix_length
  b_prefix_length : Binds K e_prefix_length ["version", "live", "rows"] []
  g_prefix_length : mg "prefix_length" = some (.ref f_prefix_length)
  d_encode_state : Fun K "encode_state" "encode_state" s_encode_state f_encode_state e_encode_state
  b_encode_state : Binds K e_encode_state ["orders", "rows"] []
  g_encode_state : mg "encode_state" = some (.ref f_encode_state)
  d_Feed_open_device : Fun K "open_device" "Feed.open_device" s_Feed_open_device f_Feed_open_device e_Feed_open_device
  b_Feed_open_device : Binds K e_Feed_open_device ["self"] []
  me_Feed_open_device : L2.Meth K c_Feed "open_device" f_Feed_open_device
  d__law_opened : Fun K "_law_opened" "_law_opened" s__law_opened f__law_opened e__law_opened
  b__law_opened : Binds K e__law_opened ["_law_feed"] []
  g__law_opened : mg "_law_opened" = some (.ref f__law_opened)
  d_union_of : Fun K "union_of" "union_of" s_union_of f_union_of e_union_of
  b_union_of : Binds K e_union_of ["groups"] []
  g_union_of : mg "union_of" = some (.ref f_union_of)
  d_is_integer_within : Fun K "is_integer_within" "is_integer_within" s_is_integer_within f_is_integer_within e_is_integer_within
  b_is_integer_within : Binds K e_is_integer_within ["value", "low", "high"] []
  g_is_integer_within : mg "is_integer_within" = some (.ref f_is_integer_within)
  d_is_token : Fun K "is_token" "is_token" s_is_token f_is_token e_is_token
  b_is_token : Binds K e_is_token ["orders", "value"] []
  g_is_token : mg "is_token" = some (.ref f_is_token)
  d_decode_token : Fun K "decode_token" "decode_token" s_decode_token f_decode_token e_decode_token
  b_decode_token : Binds K e_decode_token ["orders", "token"] []
  g_decode_token : mg "decode_token" = some (.ref f_decode_token)
  d_Feed_require_device : Fun K "require_device" "Feed.require_device" s_Feed_require_device f_Feed_require_device e_Feed_require_device
  b_Feed_require_device : Binds K e_Feed_require_device ["self", "device"] []
  me_Feed_require_device : L2.Meth K c_Feed "require_device" f_Feed_require_device
  d_Feed_token_of : Fun K "token_of" "Feed.token_of" s_Feed_token_of f_Feed_token_of e_Feed_token_of
  b_Feed_token_of : Binds K e_Feed_token_of ["self", "device"] []
  me_Feed_token_of : L2.Meth K c_Feed "token_of" f_Feed_token_of
  d_Feed_state_of : Fun K "state_of" "Feed.state_of" s_Feed_state_of f_Feed_state_of e_Feed_state_of
  b_Feed_state_of : Binds K e_Feed_state_of ["self", "device"] []
  me_Feed_state_of : L2.Meth K c_Feed "state_of" f_Feed_state_of
  d_Feed_devices : Fun K "devices" "Feed.devices" s_Feed_devices f_Feed_devices e_Feed_devices
  b_Feed_devices : Binds K e_Feed_devices ["self"] []
  me_Feed_devices : L2.Meth K c_Feed "devices" f_Feed_devices
  d__law_open_right : Fun K "_law_open_right" "_law_open_right" s__law_open_right f__law_open_right e__law_open_right
  b__law_open_right : Binds K e__law_open_right ["_law_feed", "_law_opened_here", "_law_number"] []
  g__law_open_right : mg "_law_open_right" = some (.ref f__law_open_right)
  d_Feed_close_device : Fun K "close_device" "Feed.close_device" s_Feed_close_device f_Feed_close_device e_Feed_close_device
  b_Feed_close_device : Binds K e_Feed_close_device ["self", "device"] []
  me_Feed_close_device : L2.Meth K c_Feed "close_device" f_Feed_close_device
  d__law_right : Fun K "_law_right" "_law_right" s__law_right f__law_right e__law_right
  b__law_right : Binds K e__law_right ["_law_hand_here"] []
  g__law_right : mg "_law_right" = some (.ref f__law_right)
  d__law_hand : Fun K "_law_hand" "_law_hand" s__law_hand f__law_hand e__law_hand
  b__law_hand : Binds K e__law_hand ["_law_script", "_law_k"] []
  g__law_hand : mg "_law_hand" = some (.ref f__law_hand)
  d_law : Fun K "law" "law" s_law f_law e_law
  b_law : Binds K e_law ["_law_script"] []
  g_law : mg "law" = some (.ref f_law)
  cl_Feed : ClsT K "Feed" c_Feed ["current", "stored", "tokens", "next_number"]
  g_Feed : mg "Feed" = some (.ref c_Feed)
  mk_Feed : L2.Mk K c_Feed f_Feed___init__
  m_sum : mg "sum" = none
  m_len : mg "len" = none
  m_abs : mg "abs" = none
  m_int : mg "int" = none
  m_range : mg "range" = none
  m_list : mg "list" = none
  m_tuple : mg "tuple" = none
  m_repr : mg "repr" = none
  m_max : mg "max" = none
  m_min : mg "min" = none
  m_sorted : mg "sorted" = none
  m_isinstance : mg "isinstance" = none
  m_str : mg "str" = none
  m_bool : mg "bool" = none
  m_all : mg "all" = none
  m_enumerate : mg "enumerate" = none
  m_zip : mg "zip" = none
  m_set : mg "set" = none
  cMOST_LETTERS : ∃ tk, mg "MOST_LETTERS" = some (.int 8 tk)
  cMOST_ROWS : ∃ tk, mg "MOST_ROWS" = some (.int 24 tk)
  cMOST_DEVICES : ∃ tk, mg "MOST_DEVICES" = some (.int 40 tk)
  eb : ExcB K
  x_TooMany : ExcT K mg "TooMany" "most" c_TooMany i_TooMany
  di_TooMany : Fun K "__init__" "TooMany.__init__" s_i_TooMany i_TooMany j_TooMany
  bi_TooMany : Binds K j_TooMany ["self", "most"] []
  i_TooMany : ∀ (P : Program) (w : World) (base : Heap), FnOk P w K mg base (L2.CX P w) 1 i_TooMany j_TooMany ["self", "most"] (spIni c_TooMany "most")
  x_BadToken : ExcT K mg "BadToken" "token" c_BadToken i_BadToken
  di_BadToken : Fun K "__init__" "BadToken.__init__" s_i_BadToken i_BadToken j_BadToken
  bi_BadToken : Binds K j_BadToken ["self", "token"] []
  i_BadToken : ∀ (P : Program) (w : World) (base : Heap), FnOk P w K mg base (L2.CX P w) 1 i_BadToken j_BadToken ["self", "token"] (spIni c_BadToken "token")
  x_BadVersion : ExcT K mg "BadVersion" "version" c_BadVersion i_BadVersion
  di_BadVersion : Fun K "__init__" "BadVersion.__init__" s_i_BadVersion i_BadVersion j_BadVersion
  bi_BadVersion : Binds K j_BadVersion ["self", "version"] []
  i_BadVersion : ∀ (P : Program) (w : World) (base : Heap), FnOk P w K mg base (L2.CX P w) 1 i_BadVersion j_BadVersion ["self", "version"] (spIni c_BadVersion "version")
  x_NoDevice : ExcT K mg "NoDevice" "device" c_NoDevice i_NoDevice
  di_NoDevice : Fun K "__init__" "NoDevice.__init__" s_i_NoDevice i_NoDevice j_NoDevice
  bi_NoDevice : Binds K j_NoDevice ["self", "device"] []
  i_NoDevice : ∀ (P : Program) (w : World) (base : Heap), FnOk P w K mg base (L2.CX P w) 1 i_NoDevice j_NoDevice ["self", "device"] (spIni c_NoDevice "device")
  g_NoDevice : mg "NoDevice" = some (.ref c_NoDevice)
  g_PagesError : mg "PagesError" = some (.ref c_PagesError)
  g_TooMany : mg "TooMany" = some (.ref c_TooMany)
  e_BadToken_PagesError : PySem.W.exmOne K (.ref c_BadToken) (.ref c_PagesError) = some true
  e_BadVersion_PagesError : PySem.W.exmOne K (.ref c_BadVersion) (.ref c_PagesError) = some true
  e_NoDevice_PagesError : PySem.W.exmOne K (.ref c_NoDevice) (.ref c_PagesError) = some true
  e_TooMany_PagesError : PySem.W.exmOne K (.ref c_TooMany) (.ref c_PagesError) = some true
  k_BadToken_NoDevice : PySem.W.kitOne K (.ref c_BadToken) (.ref c_NoDevice) = some false
  k_BadToken_TooMany : PySem.W.kitOne K (.ref c_BadToken) (.ref c_TooMany) = some false
  k_BadVersion_NoDevice : PySem.W.kitOne K (.ref c_BadVersion) (.ref c_NoDevice) = some false
  k_BadVersion_TooMany : PySem.W.kitOne K (.ref c_BadVersion) (.ref c_TooMany) = some false
  k_NoDevice_NoDevice : PySem.W.kitOne K (.ref c_NoDevice) (.ref c_NoDevice) = some true
  k_NoDevice_TooMany : PySem.W.kitOne K (.ref c_NoDevice) (.ref c_TooMany) = some false
  k_TooMany_NoDevice : PySem.W.kitOne K (.ref c_TooMany) (.ref c_NoDevice) = some false
  k_TooMany_TooMany : PySem.W.kitOne K (.ref c_TooMany) (.ref c_TooMany) = some true
noncomputable def b__law_changed : Mo Out := (bSeq (bPar 3 4 (.dd (eCall F__law_take (eCons (eVar 0) (eCons (eC (.int 10)) eNil)))) (.ff (fN listD (eCons (eVar 1) eNil)))) (bSeq (bIf (bAnd (asB (e2 eqF (eVar 3) (eC (.int 0)))) (bAnd (asB (e2 neF (eVar 2) (eLock (fLst eNil)))) (asB (e2 ltD (eN lenD (eCons (eVar 4) eNil)) (eC (.int 24)))))) (bSeq (bEx (eMut insF 4 (eCons (eCall F__law_take (eCons (eVar 0) (eCons (e2 addD (eN lenD (eCons (eVar 4) eNil)) (eC (.int 1))) eNil))) (eCons (eMut popF 2 (eCons (eC (.int 0)) eNil)) eNil)))) bNil) (bSeq (bIf (bAnd (asB (e2 eqF (eVar 3) (eC (.int 1)))) (asB (e2 neF (eVar 4) (eLock (fLst eNil))))) (bSeq (bEx (eMut popF 4 (eCons (eCall F__law_take (eCons (eVar 0) (eCons (eN lenD (eCons (eVar 4) eNil)) eNil))) eNil))) bNil) (bSeq (bIf (asB (e2 eqF (eVar 3) (eC (.int 2)))) (bSeq (bSetF 4 (fRev (eVar 4))) bNil) (bSeq (bIf (asB (e2 neF (eVar 4) (eLock (fLst eNil)))) (bSeq (bSet 5 (eMut popF 4 (eCons (eCall F__law_take (eCons (eVar 0) (eCons (eN lenD (eCons (eVar 4) eNil)) eNil))) eNil))) (bSeq (bEx (eMut insF 4 (eCons (eCall F__law_pick (eCons (eVar 0) (eCons (eLock (fLst (eCons (eC (.int 0)) (eCons (eCall F__law_take (eCons (eVar 0) (eCons (e2 addD (eN lenD (eCons (eVar 4) eNil)) (eC (.int 1))) eNil))) (eCons (eN lenD (eCons (eVar 4) eNil)) eNil))))) eNil))) (eCons (eVar 5) eNil)))) bNil)) bNil) bNil)) bNil)) bNil)) (bSeq (bRet (eN tupleD (eCons (eVar 4) eNil))) bNil)))
noncomputable def F__law_changed : Fn := fnOf 3 6 b__law_changed
noncomputable def b__law_history : Mo Out := (bSeq (bSet 3 (eLock (fCall F__law_names (eCons (eVar 0) (eCons (eN min2D (eCons (eC (.int 24)) (eCons (e2 addD (eVar 1) (eC (.int 4))) eNil))) eNil))))) (bSeq (bSet 4 (eCall F__law_take (eCons (eVar 0) (eCons (e2 addD (eVar 1) (eC (.int 1))) eNil)))) (bSeq (bPar 5 6 (.ff (fLst (eCons (eN tupleD (eCons (eLock (fCall F__law_shuffled (eCons (eVar 0) (eCons (eLock (fSl (eVar 3) pNo (pSo (eVar 4)))) eNil)))) eNil)) eNil))) (.ff (fSl (eVar 3) (pSo (eVar 4)) pNo))) (bSeq (bFor (iN range1D (eCons (eCall F__law_take (eCons (eVar 0) (eCons (eVar 2) eNil))) eNil)) (gN 7) (bSeq (bEx (eMut appF 5 (eCons (eCall F__law_changed (eCons (eVar 0) (eCons (e2 ixD (eVar 5) (e1 negD (eC (.int 1)))) (eCons (eVar 6) eNil)))) eNil))) bNil)) (bSeq (bRet (eN tupleD (eCons (eVar 5) eNil))) bNil)))))
noncomputable def F__law_history : Fn := fnOf 3 8 b__law_history
noncomputable def b_live_rows : Mo Out := (bSeq (bRet (eN tupleD (eCons (eLock (fN sortedD (eCons (e2 ixD (eVar 0) (e1 negD (eC (.int 1)))) eNil))) eNil))) bNil)
noncomputable def F_live_rows : Fn := fnOf 1 1 b_live_rows
noncomputable def b_live_rows_among : Mo Out := (bSeq (bRet (eN tupleD (eCons (eLock (fComp (iSeq (eCall F_live_rows (eCons (eVar 0) eNil))) (gN 2) (asB (e2 inF (eVar 2) (eVar 1))) (eVar 2) [2])) eNil))) bNil)
noncomputable def F_live_rows_among : Fn := fnOf 2 3 b_live_rows_among
noncomputable def b_is_row_set : Mo Out := (bSeq (bRet (eAnd (e1 (isiD "tuple") (eVar 1)) (e2 eqF (eVar 1) (eCall F_live_rows_among (eCons (eVar 0) (eCons (eVar 1) eNil)))))) bNil)
noncomputable def F_is_row_set : Fn := fnOf 2 2 b_is_row_set
noncomputable def b_prefix_lengths : Mo Out := (bSeq (bRet (eN tupleD (eCons (eLock (fComp (iSeq (eVar 0)) (gN 2) bYes (eCall F_prefix_length (eCons (eVar 2) (eCons (e2 ixD (eVar 0) (e1 negD (eC (.int 1)))) (eCons (eVar 1) eNil)))) [2])) eNil))) bNil)
noncomputable def F_prefix_lengths : Fn := fnOf 2 3 b_prefix_lengths
noncomputable def b_prefixes_within : Mo Out := (bSeq (bRetF (fComp (iMap zipF (eCons (eVar 0) (eCons (eCall F_prefix_lengths (eCons (eVar 0) (eCons (eVar 1) eNil))) eNil))) (gT 2 (gsCons (gN 2) (gsCons (gN 3) gsNil))) bYes (eSl (eVar 2) pNo (pSo (eVar 3))) [2, 3])) bNil)
noncomputable def F_prefixes_within : Fn := fnOf 2 4 b_prefixes_within
noncomputable def b_first_support : Mo Out := (bSeq (bFor (iMap enF (eCons (eVar 0) eNil)) (gT 2 (gsCons (gN 2) (gsCons (gN 3) gsNil))) (bSeq (bIf (asB (e2 inF (eVar 1) (eVar 3))) (bSeq (bRet (eVar 2)) bNil) bNil) bNil)) (bSeq (bRet (eC .none)) bNil))
noncomputable def F_first_support : Fn := fnOf 2 4 b_first_support
noncomputable def b_find_supports : Mo Out := (bSeq (bSet 2 (eLock (fCall F_prefixes_within (eCons (eVar 0) (eCons (eVar 1) eNil))))) (bSeq (bSet 3 (eLock (fComp (iSeq (eVar 1)) (gN 4) bYes (eCall F_first_support (eCons (eVar 2) (eCons (eVar 4) eNil))) [4]))) (bSeq (bIf (asB (e2 inF (eC .none) (eVar 3))) (bSeq (bRet (eC .none)) bNil) bNil) (bSeq (bRet (eN tupleD (eCons (eVar 3) eNil))) bNil))))
noncomputable def F_find_supports : Fn := fnOf 2 5 b_find_supports
noncomputable def b_is_reachable : Mo Out := (bSeq (bRet (eAnd (eCall F_is_row_set (eCons (eVar 0) (eCons (eVar 1) eNil))) (e2 notND (eCall F_find_supports (eCons (eVar 0) (eCons (eVar 1) eNil))) (eC .none)))) bNil)
noncomputable def F_is_reachable : Fn := fnOf 2 2 b_is_reachable
noncomputable def b__law_flat : Mo Out := (bSeq (bSetF 1 (fLst eNil)) (bSeq (bFor (iSeq (eVar 0)) (gN 2) (bSeq (bEx (eExt 1 (eVar 2))) bNil)) (bSeq (bRet (eVar 1)) bNil)))
noncomputable def F__law_flat : Fn := fnOf 1 3 b__law_flat
noncomputable def b__law_prefixes : Mo Out := (bSeq (bSetF 1 (fLst (eCons (eTup eNil) eNil))) (bSeq (bFor (iSeq (eVar 0)) (gN 2) (bSeq (bSet 3 (eLock (fComp (iSeq (eVar 2)) (gN 4) (asB (e2 inF (eVar 4) (e2 ixD (eVar 0) (e1 negD (eC (.int 1)))))) (eVar 4) [4]))) (bSeq (bEx (eExt 1 (eLock (fComp (iN range2D (eCons (eC (.int 1)) (eCons (e2 addD (eN lenD (eCons (eVar 3) eNil)) (eC (.int 1))) eNil))) (gN 5) bYes (eN tupleD (eCons (eLock (fSl (eVar 3) pNo (pSo (eVar 5)))) eNil)) [5])))) bNil))) (bSeq (bRet (eVar 1)) bNil)))
noncomputable def F__law_prefixes : Fn := fnOf 1 6 b__law_prefixes
noncomputable def b__law_greatest : Mo Out := (bSeq (bSet 2 (eLock (fComp (iSeq (eVar 0)) (gN 3) (asB (eN allD (eCons (eLock (fComp (iSeq (eVar 3)) (gN 4) bYes (e2 inF (eVar 4) (eVar 1)) [4])) eNil))) (eVar 3) [3]))) (bSeq (bRet (eN tupleD (eCons (eLock (fN sortedD (eCons (eLock (fDict (eCons (eLock (fComp (iSeq (eLock (fCall F__law_flat (eCons (eVar 2) eNil)))) (gN 4) bYes (eTup (eCons (eVar 4) (eCons (eC (.bool true)) eNil))) [4])) eNil))) eNil))) eNil))) bNil))
noncomputable def F__law_greatest : Fn := fnOf 2 5 b__law_greatest
noncomputable def b__law_some_set : Mo Out := (bSeq (bSet 3 (eLock (fN sortedD (eCons (e2 ixD (eVar 1) (e1 negD (eC (.int 1)))) eNil)))) (bSeq (bAsg (eTup (eCons (eCall F__law_take (eCons (eVar 0) (eCons (eC (.int 4)) eNil))) (eCons (eLock (fComp (iN range1D (eCons (e2 addD (eC (.int 1)) (eCall F__law_take (eCons (eVar 0) (eCons (eC (.int 3)) eNil)))) eNil)) (gN 8) bYes (eCall F__law_pick (eCons (eVar 0) (eCons (eVar 2) eNil))) [8])) eNil))) (gT 2 (gsCons (gN 4) (gsCons (gN 5) gsNil)))) (bSeq (bSet 7 (eLock (fComp (iSeq (eVar 3)) (gN 6) (asB (e2 inF (eVar 6) (eLock (fCall F__law_flat (eCons (eVar 5) eNil))))) (eVar 6) [6]))) (bSeq (bIf (asB (e2 eqF (eVar 4) (eC (.int 0)))) (bSeq (bSet 7 (eLock (fComp (iSeq (eVar 3)) (gN 6) (asB (e2 eqF (eCall F__law_take (eCons (eVar 0) (eCons (eC (.int 2)) eNil))) (eC (.int 0)))) (eVar 6) [6]))) bNil) bNil) (bSeq (bIf (bAnd (asB (e2 gtD (eVar 4) (eC (.int 1)))) (asB (e2 neF (eVar 3) (eLock (fLst eNil))))) (bSeq (bSet 6 (eCall F__law_pick (eCons (eVar 0) (eCons (eVar 3) eNil)))) (bSeq (bSet 7 (eLock (fComp (iSeq (eVar 3)) (gN 9) (asB (e2 neF (e2 inF (eVar 9) (eVar 7)) (e2 eqF (eVar 9) (eVar 6)))) (eVar 9) [9]))) bNil)) bNil) (bSeq (bRet (eN tupleD (eCons (eVar 7) eNil))) bNil))))))
noncomputable def F__law_some_set : Fn := fnOf 3 10 b__law_some_set
end Z
namespace Z
open PySem PySem.Spec PyProof.Rows L2 Gd Q
/-! ### the hand -/
def HandOk (h : List D) (n : Nat) : Prop := ∃ g s t : Int, h = [.int g, .int s, .int t] ∧ 0 ≤ g ∧ 0 ≤ s ∧ s < 2305843009213693952 ∧ 0 ≤ t ∧ t ≤ n
theorem HandOk.up {h : List D} {n m : Nat} (x : HandOk h n) (l : n ≤ m) : HandOk h m := by
  obtain ⟨g, s, t, e, h1, h2, h3, h4, h5⟩ := x
  exact ⟨g, s, t, e, h1, h2, h3, h4, by omega⟩
theorem sq_bound {t : Int} (h0 : 0 ≤ t) (h1 : t ≤ 1000000) : 0 ≤ 65537 * t * t ∧ 65537 * t * t ≤ 65537000000000000 := by
  have a1 : 0 ≤ 65537 * t := by omega
  have a2 : 65537 * t ≤ 65537000000 := by omega
  have b1 : 0 ≤ 65537 * t * t := Int.mul_nonneg a1 h0
  have b2 : 65537 * t * t ≤ 65537000000 * 1000000 := Int.mul_le_mul a2 h1 h0 (by decide)
  exact ⟨b1, by omega⟩
theorem prime_at {i : Int} (h0 : 0 ≤ i) (h1 : i < 6) : ∃ p : Int, atI [PyData.int 2147483647, PyData.int 2147483629, PyData.int 2147483587, PyData.int 2147483579, PyData.int 2147483563, PyData.int 2147483549] i = some (PyData.int p) ∧ 0 < p ∧ p < 2147483648 := by
  obtain ⟨j, rfl⟩ := Int.eq_ofNat_of_zero_le h0
  have hj : j < 6 := by omega
  match j, hj with
  | 0, _ => exact ⟨_, atI_nat (j := 0) rfl, by decide, by decide⟩
  | 1, _ => exact ⟨_, atI_nat (j := 1) rfl, by decide, by decide⟩
  | 2, _ => exact ⟨_, atI_nat (j := 2) rfl, by decide, by decide⟩
  | 3, _ => exact ⟨_, atI_nat (j := 3) rfl, by decide, by decide⟩
  | 4, _ => exact ⟨_, atI_nat (j := 4) rfl, by decide, by decide⟩
  | 5, _ => exact ⟨_, atI_nat (j := 5) rfl, by decide, by decide⟩
theorem mid_of {i : Int} (h : -(2 ^ 64) < i ∧ i < 2 ^ 64) : mid i = true := cb_true h
theorem mulD_l {i j : Int} (h : -(2 ^ 64) < i ∧ i < 2 ^ 64) : mulA (.int i) (.int j) = some (.int (i * j)) := by
  show (if mulOk i j = true then some (PyData.int (i * j)) else none) = _
  unfold mulOk
  rw [mid_of h]
  rfl
theorem mulD_r {i j : Int} (h : -(2 ^ 64) < j ∧ j < 2 ^ 64) : mulA (.int i) (.int j) = some (.int (i * j)) := by
  show (if mulOk i j = true then some (PyData.int (i * j)) else none) = _
  unfold mulOk
  rw [mid_of h, Bool.or_true, Bool.true_or]
  rfl
theorem at0 {a b c : D} : atI [a, b, c] 0 = some a := atI_nat (j := 0) rfl
theorem at1 {a b c : D} : atI [a, b, c] 1 = some b := atI_nat (j := 1) rfl
theorem at2 {a b c : D} : atI [a, b, c] 2 = some c := atI_nat (j := 2) rfl
theorem ix0 : ixN 3 0 = some 0 := rfl
theorem ix2 : ixN 3 2 = some 2 := rfl
theorem take_spec {h : List D} {n : Nat} {m : Int} (hh : HandOk h n) (hn : n < 1000000) (m0 : 0 < m) (m1 : m < 1073741824) :
    ∃ (v : Int) (h' : List D), F__law_take [.own (.lst h), .dat (.int m)] = .ok (.dat (.int v)) [.own (.lst h'), .dat (.int m)] ∧ 0 ≤ v ∧ v < m ∧ HandOk h' (n + 1) := by
  obtain ⟨g, s, t, rfl, g0, s0, s1, t0, t1⟩ := hh
  by_cases hg : 0 < g
  · refine ⟨g % m, [.int (g.fdiv m), .int s, .int t], ?_, Int.emod_nonneg _ (by omega), Int.emod_lt_of_pos _ m0, g.fdiv m, s, t, rfl, ?_, s0, s1, t0, by omega⟩
    · have c := cb_true (p := m ≠ 0 ∧ m.natAbs < 1073741824) ⟨by omega, by omega⟩
      simp [F__law_take, fnOf, b__law_take, bSeq, bIf, asB, e2, eVar, eC, F2, look, Sl.ob, Ob.d, lift, ixD, at0, gtD, ordD, hg, Rt.bind, Rt.bnd, bSet, put, nxt, modD, m0, bSetIx, fdivD, c, setIx, ix0, bRet, fin]
    · rw [Int.fdiv_eq_ediv_of_nonneg g (by omega)]
      exact Int.ediv_nonneg g0 (by omega)
  · obtain ⟨p, hp, p0, p1⟩ := prime_at (i := (t + 1) % 6) (Int.emod_nonneg _ (by decide)) (Int.emod_lt_of_pos _ (by decide))
    have B := sq_bound (t := t + 1) (by omega) (by omega)
    have q1 := mulD_l (i := 65537) (j := t + 1) ⟨by decide, by decide⟩
    have q2 := mulD_r (i := 65537 * (t + 1)) (j := t + 1) ⟨by omega, by omega⟩
    have q3 := mulD_l (i := 31) (j := t + 1) ⟨by decide, by decide⟩
    have q4 : powD (.int (s + 65537 * (t + 1) * (t + 1) + 31 * (t + 1))) (.int 3) = some (.int ((s + 65537 * (t + 1) * (t + 1) + 31 * (t + 1)) ^ 3)) := by
      show (if cb ((0 : Int) ≤ 3 ∧ (3 : Int) ≤ 1000000 ∧ (s + 65537 * (t + 1) * (t + 1) + 31 * (t + 1)).natAbs < 2 ^ 64) = true then _ else _) = _
      rw [if_pos (cb_true ⟨by decide, by decide, by omega⟩)]
      rfl
    generalize hy : (s + 65537 * (t + 1) * (t + 1) + 31 * (t + 1)) ^ 3 = y at q4
    have x0 : 0 ≤ y % p := Int.emod_nonneg _ (by omega)
    have x1 : y % p < p := Int.emod_lt_of_pos _ p0
    have q5 := mulD_l (i := 13) (j := t + 1) ⟨by decide, by decide⟩
    have q6 := mulD_l (i := y % p) (j := y % p % 10007 + 13 * (t + 1)) ⟨by omega, by omega⟩
    refine ⟨(y % p * (y % p % 10007 + 13 * (t + 1)) % 2305843009213693907).fdiv 97 % m, [.int g, .int s, .int (t + 1)], ?_, Int.emod_nonneg _ (by omega), Int.emod_lt_of_pos _ m0, g, s, t + 1, rfl, g0, s0, s1, by omega, by omega⟩
    have c97 := cb_true (p := (97 : Int) ≠ 0 ∧ (97 : Int).natAbs < 1073741824) ⟨by decide, by decide⟩
    have sh : short [PyData.int 2147483647, PyData.int 2147483629, PyData.int 2147483587, PyData.int 2147483579, PyData.int 2147483563, PyData.int 2147483549] = some [PyData.int 2147483647, PyData.int 2147483629, PyData.int 2147483587, PyData.int 2147483579, PyData.int 2147483563, PyData.int 2147483549] := rfl
    simp [F__law_take, fnOf, b__law_take, bSeq, bIf, asB, e2, eVar, eC, F2, look, Sl.ob, Ob.d, lift, ixD, at0, at1, at2, gtD, ordD, hg, Rt.bind, Rt.bnd, bSet, put, nxt, modD, m0, p0, bSetIx, fdivD, setIx, ix2, bRet, fin, bNil, addD, eLock, fLst, eCons, eNil, datas, sh, hp, q1, q2, q3, q4, q5, q6, c97]
end Z
namespace Z
open PySem PySem.Spec PyProof.Rows L2 Gd Q
/-- a row -/
def RowS (z : Str) : Prop := 1 ≤ z.length ∧ z.length ≤ 8 ∧ ∀ c ∈ z.cps.toList, 97 ≤ c ∧ c ≤ 122
abbrev abc : Str := abcS
theorem abc_len : abc.length = 26 := by decide +kernel
theorem abc_at : ∀ j : Nat, j < 26 → abc.cps.toList[j]? = some (97 + j) := by decide +kernel
theorem abc_mem : ∀ c ∈ abc.cps.toList, 97 ≤ c ∧ c ≤ 122 := by decide +kernel
def nmS (z : Str) (k : Nat) (c : Nat) : Str := cutS z none (some (k : Int)) ++ ⟨#[c]⟩ ++ cutS z (some (k : Int)) none
theorem len_cps (z : Str) : z.cps.toList.length = z.length := Array.length_toList
theorem nmS_list {z : Str} {k c : Nat} (hk : k ≤ z.length) : (nmS z k c).cps.toList = z.cps.toList.take k ++ c :: z.cps.toList.drop k := by
  unfold nmS cutS
  rw [PySem.W.KT.app_list, PySem.W.KT.app_list, HT.sIx_none, HT.sIx_none, HT.sIx_nat, HT.sIx_nat, Nat.min_eq_left hk]
  show (List.take (k - 0) (List.drop 0 z.cps.toList)) ++ [c] ++ List.take (z.length - k) (List.drop k z.cps.toList) = _
  rw [List.drop_zero, Nat.sub_zero, List.append_assoc]
  have e : List.take (z.length - k) (List.drop k z.cps.toList) = List.drop k z.cps.toList := List.take_of_length_le (by rw [List.length_drop, len_cps]; omega)
  rw [e]
  rfl
theorem nmS_len {z : Str} {k c : Nat} (hk : k ≤ z.length) : (nmS z k c).length = z.length + 1 := by
  rw [← len_cps, nmS_list hk, List.length_append, List.length_cons, List.length_take, List.length_drop, len_cps]
  omega
theorem nmS_inj {z : Str} {k c d : Nat} (hk : k ≤ z.length) (h : nmS z k c = nmS z k d) : c = d := by
  have e := congrArg (fun s : Str => s.cps.toList) h
  simp only [nmS_list hk] at e
  have e2 := List.append_cancel_left e
  exact (List.cons.inj e2).1
theorem nmS_row {z : Str} {k c : Nat} (hk : k ≤ z.length) (hz : z.length ≤ 7) (ha : ∀ x ∈ z.cps.toList, 97 ≤ x ∧ x ≤ 122) (hc : 97 ≤ c ∧ c ≤ 122) : RowS (nmS z k c) := by
  refine ⟨by rw [nmS_len hk]; omega, by rw [nmS_len hk]; omega, fun x hx => ?_⟩
  rw [nmS_list hk] at hx
  rcases List.mem_append.mp hx with hx | hx
  · exact ha x (List.mem_of_mem_take hx)
  · rcases List.mem_cons.mp hx with hx | hx
    · rw [hx]; exact hc
    · exact ha x (List.mem_of_mem_drop hx)
/-- the j-th letter's place -/
def plc (first leap : Int) (j : Nat) : Nat := ((first + leap * (j : Int)) % 26).toNat
theorem plc_lt (first leap : Int) (j : Nat) : plc first leap j < 26 := by
  unfold plc
  have := Int.emod_nonneg (first + leap * (j : Int)) (show (26 : Int) ≠ 0 by decide)
  have := Int.emod_lt_of_pos (first + leap * (j : Int)) (show (0 : Int) < 26 by decide)
  omega
theorem plc_inj {first leap : Int} (hl : leap ∈ [(1 : Int), 3, 5, 7, 9, 11, 25]) {i j : Nat} (hi : i < 26) (hj : j < 26) (h : plc first leap i = plc first leap j) : i = j := by
  unfold plc at h
  simp only [List.mem_cons, List.not_mem_nil, or_false] at hl
  rcases hl with rfl | rfl | rfl | rfl | rfl | rfl | rfl <;> omega
def nmL (z : Str) (k : Nat) (first leap : Int) (n : Nat) : List Str := (List.range n).map fun j => nmS z k (97 + plc first leap j)
theorem nmL_nodup {z : Str} {k n : Nat} {first leap : Int} (hk : k ≤ z.length) (hl : leap ∈ [(1 : Int), 3, 5, 7, 9, 11, 25]) (hn : n ≤ 26) : (nmL z k first leap n).Nodup := by
  unfold nmL
  rw [List.nodup_iff_pairwise_ne, List.pairwise_map]
  refine List.Pairwise.imp_of_mem ?_ (List.nodup_iff_pairwise_ne.mp List.nodup_range)
  intro i j hi hj ne e
  have hi := List.mem_range.mp hi
  have hj := List.mem_range.mp hj
  have e2 := nmS_inj hk e
  exact ne (plc_inj (first := first) hl (by omega) (by omega) (by omega))
theorem nmL_len {z : Str} {k n : Nat} {first leap : Int} : (nmL z k first leap n).length = n := by
  unfold nmL
  rw [List.length_map, List.length_range]
theorem nmL_row {z : Str} {k n : Nat} {first leap : Int} (hk : k ≤ z.length) (hz : z.length ≤ 7) (ha : ∀ x ∈ z.cps.toList, 97 ≤ x ∧ x ≤ 122) : ∀ y ∈ nmL z k first leap n, RowS y := by
  intro y hy
  unfold nmL at hy
  obtain ⟨j, _, rfl⟩ := List.mem_map.mp hy
  have := plc_lt first leap j
  exact nmS_row hk hz ha (by omega)
theorem stem_ok {c : Nat} (hc : 97 ≤ c ∧ c ≤ 122) {n : Int} (hn2 : n = 0 ∨ n = 1 ∨ n = 3 ∨ n = 7) : (Txt.mul ⟨#[c]⟩ n).length ≤ 7 ∧ ∀ x ∈ (Txt.mul ⟨#[c]⟩ n).cps.toList, 97 ≤ x ∧ x ≤ 122 := by
  have one : ∀ l : List Nat, (∀ x ∈ l, x = c) → ∀ x ∈ l, 97 ≤ x ∧ x ≤ 122 := fun l h x hx => by rw [h x hx]; exact hc
  rcases hn2 with rfl | rfl | rfl | rfl
  · exact ⟨by show 0 ≤ 7; decide, one _ (fun x hx => by cases hx)⟩
  · exact ⟨by show 1 ≤ 7; decide, one _ (fun x hx => by
      have hx : x ∈ [c] := hx
      simpa using hx)⟩
  · exact ⟨by show 3 ≤ 7; decide, one _ (fun x hx => by
      have hx : x ∈ [c, c, c] := hx
      simpa using hx)⟩
  · exact ⟨by show 7 ≤ 7; decide, one _ (fun x hx => by
      have hx : x ∈ [c, c, c, c, c, c, c] := hx
      simpa using hx)⟩
theorem stem_six {c : Nat} {n : Int} (hn2 : n = 0 ∨ n = 1 ∨ n = 3 ∨ n = 7) : (Txt.mul ⟨#[c]⟩ n).length ≠ 6 := by
  rcases hn2 with rfl | rfl | rfl | rfl
  · show 0 ≠ 6; decide
  · show 1 ≠ 6; decide
  · show 3 ≠ 6; decide
  · show 7 ≠ 6; decide
theorem nmL_seven {z : Str} {k n : Nat} {first leap : Int} (hk : k ≤ z.length) (hz : z.length ≠ 6) : ∀ y ∈ nmL z k first leap n, y.length ≠ 7 := by
  intro y hy
  unfold nmL at hy
  obtain ⟨j, _, rfl⟩ := List.mem_map.mp hy
  rw [nmS_len hk]
  omega
theorem at_in {α : Type} {xs : List α} {i : Int} (h0 : 0 ≤ i) (h1 : i < (xs.length : Int)) : ∃ v, v ∈ xs ∧ atI xs i = some v := by
  obtain ⟨j, rfl⟩ := Int.eq_ofNat_of_zero_le h0
  have hj : j < xs.length := by omega
  exact ⟨xs[j], List.getElem_mem hj, atI_nat (List.getElem?_eq_getElem hj)⟩
end Z
namespace Z
open PySem PySem.Spec PyProof.Rows L2 Gd Q
/-! ### pick -/
/-- items that are picked from: data, or a thing of the caller's own -/
inductive Its : Sl → List D → Prop
  | list {xs : List D} : Its (.dat (.list xs)) xs
  | tuple {xs : List D} : Its (.dat (.tuple xs)) xs
  | own {xs : List D} : Its (.own (.lst xs)) xs
theorem pick_spec {h : List D} {n : Nat} {it : Sl} {xs : List D} (hi : Its it xs) (hh : HandOk h n) (hn : n < 1000000) (l0 : xs ≠ []) (l1 : xs.length < 1073741824) :
    ∃ (y : D) (h' : List D), F__law_pick [.own (.lst h), it] = .ok (.dat y) [.own (.lst h'), it] ∧ y ∈ xs ∧ HandOk h' (n + 1) := by
  have lp : 0 < xs.length := List.length_pos_iff.mpr l0
  obtain ⟨v, h', e, v0, v1, hk⟩ := take_spec hh hn (m := (xs.length : Int)) (by omega) (by omega)
  obtain ⟨y, hy, ey⟩ := at_in (xs := xs) v0 v1
  refine ⟨y, h', ?_, hy, hk⟩
  cases hi <;> simp [F__law_pick, b__law_pick, e, ixD, ey]
theorem pickS_spec {h : List D} {n : Nat} {z : Str} (hh : HandOk h n) (hn : n < 1000000) (l0 : 0 < z.length) (l1 : z.length ≤ 1000) :
    ∃ (c : Nat) (h' : List D), F__law_pick [.own (.lst h), .dat (.str z)] = .ok (.dat (sign c)) [.own (.lst h'), .dat (.str z)] ∧ c ∈ z.cps.toList ∧ HandOk h' (n + 1) := by
  have ls : z.length ≤ sizeLine := sz1000 l1
  obtain ⟨v, h', e, v0, v1, hk⟩ := take_spec hh hn (m := (z.length : Int)) (by omega) (by omega)
  obtain ⟨y, hy, ey⟩ := at_in (xs := z.cps.toList) v0 (by rw [len_cps]; exact v1)
  refine ⟨y, h', ?_, hy, hk⟩
  simp [F__law_pick, b__law_pick, e, ixD, ey, ls]
theorem short_ok {ds : List D} (h : ds.length ≤ 1000) : short ds = some ds := if_pos (sz1000 h)
/-! ### step by step -/
theorem seq_nx {f g : Mo Out} {ρ ρ1 : Ev} {r : Rt Out} (h : f ρ = .ok .nx ρ1) (h' : g ρ1 = r) : bSeq f g ρ = r := by
  unfold bSeq
  rw [h]
  exact h'
theorem seq_one {f g : Mo Out} {ρ ρ1 : Ev} {o : Out} (h : f ρ = .ok o ρ1) (ne : o ≠ .nx) : bSeq f g ρ = .ok o ρ1 := by
  unfold bSeq
  rw [h]
  cases o with
  | nx => exact absurd rfl ne
  | _ => rfl
theorem if_t {c : Mo Bool} {f g : Mo Out} {ρ : Ev} {r : Rt Out} (h : c ρ = .ok true ρ) (h' : f ρ = r) : bIf c f g ρ = r := by
  unfold bIf
  rw [h]
  exact h'
theorem if_f {c : Mo Bool} {f g : Mo Out} {ρ : Ev} {r : Rt Out} (h : c ρ = .ok false ρ) (h' : g ρ = r) : bIf c f g ρ = r := by
  unfold bIf
  rw [h]
  exact h'
theorem fn_run {n N : Nat} {b : Mo Out} {as : List Sl} {o : Out} {ρ : Ev} {r : Rt Sl} (h : as.length = n) (hb : b (as ++ List.replicate (N - n) .no) = .ok o ρ) (hf : fin n ρ o = r) : fnOf n N b as = r := by
  unfold fnOf
  rw [if_pos h, hb]
  exact hf
theorem fin_rf {n : Nat} {ρ : Ev} {o : Ob} {as : List Sl} (h : ρ.take n = as) : fin n ρ (.rf o) = .ok (.own o) as := by rw [← h]; rfl
theorem fin_rt {n : Nat} {ρ : Ev} {d : D} {as : List Sl} (h : ρ.take n = as) : fin n ρ (.rt (.d d)) = .ok (.dat d) as := by rw [← h]; rfl
theorem comp_eq {it : Mo (List D)} {g : Tg} {t : Mo Bool} {e : Mo R} {vs : List Nat} {ρ ρ1 ρ2 ρ3 : Ev} {ds xs : List D} (hi : it ρ = .ok ds ρ1) (hl : ds.length ≤ sizeLine) (hn : noOwn ρ1 vs = true) (hc : compD g t e vs ds (wipeE ρ1 vs) = .ok xs ρ2) (hm : mixE ρ1 ρ2 vs = ρ3) : fComp it g t e vs ρ = .ok (.lst xs) ρ3 := by
  unfold fComp
  rw [hi]
  show (if ds.length ≤ sizeLine ∧ noOwn ρ1 vs = true then _ else _) = _
  rw [if_pos ⟨hl, hn⟩, hc, ← hm]
  rfl
theorem retF_eq {f : Mo Ob} {ρ ρ1 : Ev} {o : Ob} (h : f ρ = .ok o ρ1) : bRetF f ρ = .ok (.rf o) ρ1 := by
  unfold bRetF
  rw [h]
  rfl
theorem small_ok {i : Int} (h : -1000000000 ≤ i ∧ i ≤ 1000000000) : small i = true := cb_true (by
  have e : (2 : Int) ^ 62 = 4611686018427387904 := by decide
  rw [e]
  omega)
theorem range1_eq {c : Nat} (h : c ≤ 1000) : range1D [.int c] = some ((List.range c).map fun i => .int (i : Nat)) := by
  show (if small (c : Int) = true then some (rngD 0 (c : Int).toNat) else none) = _
  rw [if_pos (small_ok (by omega)), Int.toNat_natCast]
  unfold rngD
  simp only [Int.zero_add]
/-! ### names -/
theorem comp_names {z : Str} {k : Nat} {first leap : Int} {a0 a1 : Sl} (hk : k ≤ z.length) (hz : z.length ≤ 7) (h0 : 0 ≤ first ∧ first < 26) (hl : leap ∈ [(1 : Int), 3, 5, 7, 9, 11, 25]) : ∀ (m lo : Nat), lo + m ≤ 26 →
    compD (gN 7) bYes (e2 addD (e2 addD (eSl (eVar 5) pNo (pSo (eVar 6))) (e2 ixD (eVar 2) (e2 modD (e2 addD (eVar 3) (e2 mulA (eVar 4) (eVar 7))) (eC (.int 26))))) (eSl (eVar 5) (pSo (eVar 6)) pNo)) [7]
      ((List.range' lo m).map fun i => .int (i : Nat)) [a0, a1, .dat (.str abc), .dat (.int first), .dat (.int leap), .dat (.str z), .dat (.int k), .no]
      = .ok ((List.range' lo m).map fun j => .str (nmS z k (97 + plc first leap j))) [a0, a1, .dat (.str abc), .dat (.int first), .dat (.int leap), .dat (.str z), .dat (.int k), .no]
  | 0, lo, _ => rfl
  | m + 1, lo, h => by
    have ih := comp_names (a0 := a0) (a1 := a1) hk hz h0 hl m (lo + 1) (by omega)
    have lb : (1 : Int) ≤ leap ∧ leap ≤ 25 := by
      simp only [List.mem_cons, List.not_mem_nil, or_false] at hl
      omega
    have q1 := mulD_l (i := leap) (j := (lo : Nat)) ⟨by omega, by omega⟩
    have ls : z.length ≤ sizeLine := by
      have e2 : sizeLine = 16777216 := by decide
      omega
    have la : abc.length ≤ sizeLine := by decide +kernel
    have p0 : 0 ≤ (first + leap * (lo : Nat)) % 26 := Int.emod_nonneg _ (by decide)
    have p1 : (first + leap * (lo : Nat)) % 26 < 26 := Int.emod_lt_of_pos _ (by decide)
    have ea : atI abc.cps.toList ((first + leap * (lo : Nat)) % 26) = some (97 + plc first leap lo) := by
      have e : (first + leap * (lo : Nat)) % 26 = ((plc first leap lo : Nat) : Int) := by
        unfold plc
        rw [Int.toNat_of_nonneg p0]
      rw [e]
      exact atI_nat (abc_at _ (plc_lt first leap lo))
    have lc : ∀ a b : Option Int, (cutS z a b).length ≤ z.length := fun a b => by
      show ((cutS z a b).cps).size ≤ _
      unfold cutS
      rw [List.size_toArray, List.length_take, List.length_drop, len_cps]
      omega
    have s1 : (cutS z none (some (k : Int))).length + Str.length ⟨#[97 + plc first leap lo]⟩ ≤ sizeLine := by
      have e2 : sizeLine = 16777216 := by decide
      have := lc none (some (k : Int))
      have : Str.length ⟨#[97 + plc first leap lo]⟩ = 1 := rfl
      omega
    have s2 : (cutS z none (some (k : Int)) ++ ⟨#[97 + plc first leap lo]⟩).length + (cutS z (some (k : Int)) none).length ≤ sizeLine := by
      have e2 : sizeLine = 16777216 := by decide
      have a := lc none (some (k : Int))
      have b := lc (some (k : Int)) none
      have e3 : (cutS z none (some (k : Int)) ++ ⟨#[97 + plc first leap lo]⟩).length = (cutS z none (some (k : Int))).length + 1 := by
        rw [← len_cps, PySem.W.KT.app_list, List.length_append, len_cps]
        rfl
      omega
    rw [List.range'_succ, List.map_cons, List.map_cons]
    simp [compD, q1, modD, ixD, ea, la, ls, sign, s1, s2, ih]
    rfl
theorem names_spec {h : List D} {n : Nat} {c : Nat} (hh : HandOk h n) (hn : n + 10 < 1000000) (hc : c ≤ 26) :
    ∃ (ns : List Str) (h' : List D), F__law_names [.own (.lst h), .dat (.int c)] = .ok (.own (.lst (ns.map .str))) [.own (.lst h'), .dat (.int c)] ∧ ns.length = c ∧ ns.Nodup ∧ (∀ z ∈ ns, RowS z) ∧ HandOk h' (n + 10) ∧ ∀ z ∈ ns, z.length ≠ 7 := by
  obtain ⟨first, h1, e1, f0, f1, hk1⟩ := take_spec hh (by omega) (m := 26) (by decide) (by decide)
  obtain ⟨y2, h2, e2, hy2, hk2⟩ := pick_spec (Its.list (xs := [.int 1, .int 3, .int 5, .int 7, .int 9, .int 11, .int 25])) hk1 (by omega) (by simp) (by decide)
  obtain ⟨leap, rfl, hl⟩ : ∃ leap, y2 = .int leap ∧ leap ∈ [(1 : Int), 3, 5, 7, 9, 11, 25] := by
    simp only [List.mem_cons, List.not_mem_nil, or_false] at hy2
    rcases hy2 with h | h | h | h | h | h | h <;> exact ⟨_, h, by simp⟩
  obtain ⟨ch, h3, e3, hch, hk3⟩ := pickS_spec (z := abc) hk2 (by omega) (by rw [abc_len]; decide) (by rw [abc_len]; decide)
  obtain ⟨y4, h4, e4, hy4, hk4⟩ := pick_spec (Its.list (xs := [.int 0, .int 0, .int 1, .int 3, .int 7])) hk3 (by omega) (by simp) (by decide)
  obtain ⟨r, rfl, hr⟩ : ∃ r, y4 = .int r ∧ (r = 0 ∨ r = 1 ∨ r = 3 ∨ r = 7) := by
    simp only [List.mem_cons, List.not_mem_nil, or_false] at hy4
    rcases hy4 with h | h | h | h | h <;> exact ⟨_, h, by simp⟩
  obtain ⟨hz7, hzc⟩ := stem_ok (abc_mem ch hch) hr
  have hz6 := stem_six (c := ch) hr
  have em : mulA (sign ch) (.int r) = some (.str (Txt.mul ⟨#[ch]⟩ r)) := by
    show (if 0 ≤ r ∧ r ≤ 1000 ∧ Str.length ⟨#[ch]⟩ ≤ 1000 then some (PyData.str (Txt.mul ⟨#[ch]⟩ r)) else none) = _
    rw [if_pos ⟨by omega, by omega, by show 1 ≤ 1000; decide⟩]
  generalize Txt.mul ⟨#[ch]⟩ r = z at hz7 hzc em hz6
  obtain ⟨kk, h5, e5, k0, k1, hk5⟩ := take_spec hk4 (by omega) (m := (z.length : Int) + 1) (by omega) (by omega)
  obtain ⟨k, rfl⟩ := Int.eq_ofNat_of_zero_le k0
  have hkz : k ≤ z.length := by omega
  have ls : z.length ≤ sizeLine := sz1000 (by omega)
  have cn := comp_names (a0 := .own (.lst h5)) (a1 := .dat (.int c)) hkz hz7 ⟨f0, f1⟩ hl c 0 (by omega)
  have lr : c ≤ sizeLine := sz1000 (by omega)
  refine ⟨nmL z k first leap c, h5, ?_, nmL_len, nmL_nodup hkz hl hc, nmL_row hkz hz7 hzc, hk5.up (by omega), nmL_seven hkz hz6⟩
  rw [← List.range_eq_range'] at cn
  have sh1 := short_ok (ds := [.int 1, .int 3, .int 5, .int 7, .int 9, .int 11, .int 25]) (by decide)
  have sh2 := short_ok (ds := [.int 0, .int 0, .int 1, .int 3, .int 7]) (by decide)
  have sh3 := short_ok (ds := [.int first, .int leap]) (by simp)
  refine fn_run (ρ := [.own (.lst h5), .dat (.int c), .dat (.str abc), .dat (.int first), .dat (.int leap), .dat (.str z), .dat (.int k), .no]) rfl ?_ (fin_rf rfl)
  refine seq_nx (ρ1 := [.own (.lst h), .dat (.int c), .dat (.str abc), .no, .no, .no, .no, .no]) (by simp) ?_
  refine seq_nx (ρ1 := [.own (.lst h2), .dat (.int c), .dat (.str abc), .dat (.int first), .dat (.int leap), .no, .no, .no]) (by simp [sh1, sh3, e1, e2]) ?_
  refine seq_nx (ρ1 := [.own (.lst h4), .dat (.int c), .dat (.str abc), .dat (.int first), .dat (.int leap), .dat (.str z), .no, .no]) (by simp [sh2, e3, e4, em]) ?_
  refine seq_nx (ρ1 := [.own (.lst h5), .dat (.int c), .dat (.str abc), .dat (.int first), .dat (.int leap), .dat (.str z), .dat (.int k), .no]) (by simp [e5, ls]) ?_
  have en : (nmL z k first leap c).map PyData.str = (List.range c).map fun j => .str (nmS z k (97 + plc first leap j)) := by
    unfold nmL
    rw [List.map_map]
    rfl
  rw [en]
  refine seq_one (retF_eq (comp_eq (ρ1 := [.own (.lst h5), .dat (.int c), .dat (.str abc), .dat (.int first), .dat (.int leap), .dat (.str z), .dat (.int k), .no]) (ds := (List.range c).map fun i => .int (i : Nat)) (by simp [range1_eq (c := c) (by omega)]) (by rw [List.length_map, List.length_range]; exact lr) rfl cn rfl)) (fun z => nomatch z)
end Z
namespace Z
open PySem PySem.Spec PyProof.Rows L2 Gd Q
theorem RowS.ok {z : Str} (h : RowS z) : PyData.strOk z = true := by
  unfold PyData.strOk
  rw [Array.all_eq_true_iff_forall_mem]
  intro c hc
  have := h.2.2 c (Array.mem_toList_iff.mpr hc)
  exact decide_eq_true (by omega)
theorem lay_strs : ∀ ns : List Str, (∀ z ∈ ns, PyData.strOk z = true) → PyData.canLayAll0 (ns.map PyData.str) = true
  | [], _ => rfl
  | x :: ns, h => by
    show (PyData.strOk x && PyData.canLayAll0 (ns.map PyData.str)) = true
    rw [lay_strs ns fun z hz => h z (List.mem_cons_of_mem _ hz), h x List.mem_cons_self]
    rfl
theorem shaped_str {z : Str} (h : RowS z) : SeqAt.shaped (.str z) = true := by
  unfold SeqAt.shaped
  rw [Bool.and_eq_true]
  exact ⟨h.ok, decide_eq_true (by show 0 ≤ 64; decide)⟩
theorem seq_at {n : Nat} {v : Int} (h0 : 0 ≤ v) (h1 : v < (n : Int)) : seqIndex? v n = some v.toNat := by
  have e : ixN n v = some v.toNat := by
    unfold ixN
    rw [if_pos h0, if_pos (by omega)]
  exact (ixN_seq e).1
/-! ### lists of rows, beside [] -/
theorem app_eq {ds : List D} {x : D} (h : ds.length ≤ 1000) : appF ds [x] = some (.none, ds ++ [x]) := by
  show (if ds.length < sizeLine then some (PyData.none, ds ++ [x]) else none) = _
  rw [if_pos (Nat.lt_of_le_of_lt h (by decide))]
theorem erase_map {α β : Type} (f : α → β) : ∀ (l : List α) (i : Nat), (l.map f).eraseIdx i = (l.eraseIdx i).map f
  | [], _ => rfl
  | _ :: _, 0 => rfl
  | x :: l, i + 1 => by
    show f x :: (l.map f).eraseIdx i = f x :: (l.eraseIdx i).map f
    rw [erase_map f l i]
theorem erase_perm {α : Type} : ∀ {l : List α} {i : Nat} {x : α}, l[i]? = some x → (x :: l.eraseIdx i).Perm l
  | [], _, _, h => by simp at h
  | y :: l, 0, x, h => by
    cases (Option.some.inj h)
    exact List.Perm.refl _
  | y :: l, i + 1, x, h => by
    have ih := erase_perm (l := l) (i := i) (x := x) h
    exact (List.Perm.swap y x (l.eraseIdx i)).trans (ih.cons y)
/-! ### shuffled -/
end Z
namespace Z
open PySem PySem.Spec PyProof.Rows L2 Gd Q
def verD (v : List Str) : D := .tuple (v.map PyData.str)
theorem eq_int (a b : Int) : eqF (.int a) (.int b) = some (.bool (a == b)) := by
  unfold eqF eqD
  rw [if_pos ⟨rfl, rfl⟩]
  rfl
/-- what becomes of a version, and of the names that are not used yet -/
inductive Chg (v fresh : List Str) : List Str → List Str → Prop
  | moved {v' : List Str} : v'.Perm v → Chg v fresh v' fresh
  | gone {v' : List Str} {x : Str} : (x :: v').Perm v → Chg v fresh v' fresh
  | came {v' fresh' : List Str} {x : Str} : fresh = x :: fresh' → v'.Perm (x :: v) → v.length < 24 → Chg v fresh v' fresh'
end Z
namespace Z
open PySem PySem.Spec PyProof.Rows L2 Gd Q
/-! ### histories -/
structure HOk (hs : List (List Str)) : Prop where
  ne : hs ≠ []
  nodup : ∀ v ∈ hs, v.Nodup
  row : ∀ v ∈ hs, ∀ z ∈ v, RowS z
  len : ∀ v ∈ hs, v.length ≤ 24
  stay : ∀ (i j k : Nat) (a b c : List Str) (z : Str), hs[i]? = some a → hs[j]? = some b → hs[k]? = some c → i < j → j < k → z ∈ a → z ∉ b → z ∉ c
structure HFr (hs : List (List Str)) (fresh names : List Str) : Prop where
  ok : HOk hs
  fnd : fresh.Nodup
  frow : ∀ z ∈ fresh, RowS z
  apart : ∀ v ∈ hs, ∀ z ∈ v, z ∉ fresh
  sub : ∀ v ∈ hs, ∀ z ∈ v, z ∈ names
  fsub : ∀ z ∈ fresh, z ∈ names
theorem HFr.step {hs : List (List Str)} {fresh names v v' fresh' : List Str} (h : HFr hs fresh names) (hl : hs.getLast? = some v) (c : Chg v fresh v' fresh') : HFr (hs ++ [v']) fresh' names := by
  have hv : v ∈ hs := List.mem_of_getLast? hl
  -- what the new version has
  have mem : ∀ z ∈ v', z ∈ v ∨ (z ∈ fresh ∧ z ∉ fresh') := by
    cases c with
    | moved p => exact fun z hz => .inl (p.subset hz)
    | gone p => exact fun z hz => .inl (p.subset (List.mem_cons_of_mem _ hz))
    | came e p _ =>
      subst e
      intro z hz
      rcases List.mem_cons.mp (p.subset hz) with q | q
      · exact .inr ⟨by rw [q]; exact List.mem_cons_self, by rw [q]; exact (List.nodup_cons.mp h.fnd).1⟩
      · exact .inl q
  have nd : v'.Nodup := by
    cases c with
    | moved p => exact p.nodup_iff.mpr (h.ok.nodup v hv)
    | gone p => exact (List.nodup_cons.mp (p.nodup_iff.mpr (h.ok.nodup v hv))).2
    | came e p _ =>
      subst e
      exact p.nodup_iff.mpr (List.nodup_cons.mpr ⟨fun z => h.apart v hv _ z List.mem_cons_self, h.ok.nodup v hv⟩)
  have len : v'.length ≤ 24 := by
    have lv := h.ok.len v hv
    cases c with
    | moved p => rw [p.length_eq]; exact lv
    | gone p =>
      have := p.length_eq
      rw [List.length_cons] at this
      omega
    | came e p l => rw [p.length_eq, List.length_cons]; omega
  have fs : ∀ z ∈ fresh', z ∈ fresh := by
    cases c with
    | moved _ => exact fun z hz => hz
    | gone _ => exact fun z hz => hz
    | came e _ _ =>
      subst e
      exact fun z hz => List.mem_cons_of_mem _ hz
  have fn : fresh'.Nodup := by
    cases c with
    | moved _ => exact h.fnd
    | gone _ => exact h.fnd
    | came e _ _ =>
      subst e
      exact (List.nodup_cons.mp h.fnd).2
  have two : ∀ {P : List Str → Prop}, (∀ u ∈ hs, P u) → P v' → ∀ u ∈ hs ++ [v'], P u := fun {P} a b u hu => by
    rcases List.mem_append.mp hu with q | q
    · exact a u q
    · rw [List.mem_singleton.mp q]
      exact b
  refine ⟨⟨by simp, two h.ok.nodup nd, two h.ok.row fun z hz => ?_, two h.ok.len len, fun i j k a b c z ha hb hc ij jk za zb zc => ?_⟩, fn, fun z hz => h.frow z (fs z hz), two (fun u hu z hz q => h.apart u hu z hz (fs z q)) fun z hz q => ?_, two h.sub fun z hz => ?_, fun z hz => h.fsub z (fs z hz)⟩
  · rcases mem z hz with q | q
    · exact h.ok.row v hv z q
    · exact h.frow z q.1
  · have lk : k < (hs ++ [v']).length := (List.getElem?_eq_some_iff.mp hc).1
    rw [List.length_append, List.length_singleton] at lk
    rw [List.getElem?_append_left (by omega)] at ha hb
    by_cases kl : k < hs.length
    · rw [List.getElem?_append_left kl] at hc
      exact h.ok.stay i j k a b c z ha hb hc ij jk za zb zc
    · have ke : k = hs.length := by omega
      subst ke
      rw [List.getElem?_append_right (Nat.le_refl _), Nat.sub_self] at hc
      cases hc
      rcases mem z zc with q | q
      · have gl : hs[hs.length - 1]? = some v := by rw [← List.getLast?_eq_getElem?]; exact hl
        by_cases jl : j = hs.length - 1
        · subst jl
          rw [gl] at hb
          cases hb
          exact zb q
        · exact h.ok.stay i j (hs.length - 1) a b v z ha hb gl ij (by omega) za zb q
      · exact h.apart a (List.mem_of_getElem? ha) z za q.1
  · rcases mem z hz with w | w
    · exact h.apart v hv z w (fs z q)
    · exact w.2 q
  · rcases mem z hz with q | q
    · exact h.sub v hv z q
    · exact h.fsub z q.1
def histD (hs : List (List Str)) : D := .tuple (hs.map verD)
theorem cutL_to {α : Type} (xs : List α) (c : Nat) : cutL xs none (some (c : Int)) = xs.take c := by
  unfold cutL
  rw [HT.sIx_none, HT.sIx_nat, List.drop_zero, Nat.sub_zero]
  by_cases h : c ≤ xs.length
  · rw [Nat.min_eq_left h]
  · rw [Nat.min_eq_right (by omega), List.take_length, List.take_of_length_le (by omega)]
theorem for_eq {it : Mo (List D)} {g : Tg} {b : Mo Out} {ρ ρ1 : Ev} {ds : List D} {r : Rt Out} (hi : it ρ = .ok ds ρ1) (h : loopD g b ds ρ1 = r) : bFor it g b ρ = r := by
  unfold bFor
  rw [hi]
  exact h
end Z
namespace Z
open PySem PySem.Spec PyProof.Rows L2 Gd Q
/-! ### a new hand -/
theorem pow_ok {i : Int} {j : Nat} (h : i.natAbs < 2 ^ 64) (hj : j ≤ 1000) : powD (.int i) (.int j) = some (.int (i ^ j)) := by
  show (if cb (0 ≤ (j : Int) ∧ (j : Int) ≤ 1000000 ∧ i.natAbs < 2 ^ 64) = true then some (PyData.int (i ^ (j : Int).toNat)) else none) = _
  rw [if_pos (cb_true ⟨by omega, by omega, h⟩), Int.toNat_natCast]
theorem mul_wide {i j : Int} {a b : Nat} (ha : i.natAbs < 2 ^ a) (hb : j.natAbs < 2 ^ b) (h0 : 0 < a) (h1 : 0 < b) (h : a + b ≤ 1000000) : mulA (.int i) (.int j) = some (.int (i * j)) := by
  show (if mulOk i j = true then some (PyData.int (i * j)) else none) = _
  unfold mulOk
  have : CMulW i j := wide_mul ha hb h0 h1 h
  rw [cb_true (p := i.natAbs.log2 + j.natAbs.log2 < 1000000) this, Bool.or_true]
  rfl
theorem hand_spec {ns : List Int} {k : Nat} (hk : k ≤ 1000) : ∃ h : List D, F__law_hand [.dat (scrD ns), .dat (.int k)] = .ok (.own (.lst h)) [.dat (scrD ns), .dat (.int k)] ∧ HandOk h 0 := by
  -- the cell
  obtain ⟨cell, ec⟩ : ∃ cell : Int, eIf (asB (e2 ltD (eVar 1) (eN lenD (eCons (eVar 0) eNil)))) (e2 ixD (eVar 0) (eVar 1)) (e2 addD (e2 mulA (eC (.int 7)) (eVar 1)) (eC (.int 3))) [.dat (scrD ns), .dat (.int k), .no, .no] = .ok (.d (.int cell)) [.dat (scrD ns), .dat (.int k), .no, .no] := by
    by_cases lt : k < ns.length
    · have l2 : (k : Int) < (ns.length : Int) := by omega
      have ea : atI (ns.map PyData.int) (k : Int) = some (.int ns[k]) := atI_nat (by rw [List.getElem?_map, List.getElem?_eq_getElem lt]; rfl)
      exact ⟨ns[k], by simp [scrD, ltD, ordD, l2, lt, ixD, ea]⟩
    · have l2 : ¬ (k : Int) < (ns.length : Int) := by omega
      have em := mulD_l (i := 7) (j := (k : Nat)) ⟨by decide, by decide⟩
      exact ⟨7 * (k : Int) + 3, by simp [scrD, ltD, ordD, l2, lt, em]⟩
  have p60 : powD (.int 10) (.int 60) = some (.int ((10 : Int) ^ 60)) := pow_ok (i := 10) (j := 60) (by decide) (by decide)
  have p18 : powD (.int 10) (.int 18) = some (.int ((10 : Int) ^ 18)) := pow_ok (i := 10) (j := 18) (by decide) (by decide)
  have b60 : ((10 : Int) ^ 60).natAbs < 2 ^ 200 := by decide +kernel
  have pos : (0 : Int) < 10 ^ 60 := by decide +kernel
  generalize (10 : Int) ^ 60 = t at p60 b60 pos
  generalize (10 : Int) ^ 18 = u at p18
  have t2 : (t * t).natAbs < 2 ^ 400 := by
    rw [Int.natAbs_mul, show (400 : Nat) = 200 + 200 from rfl, Nat.pow_add]
    exact Nat.mul_lt_mul'' b60 b60
  have t3 : (t * t * t).natAbs < 2 ^ 600 := by
    rw [Int.natAbs_mul, show (600 : Nat) = 400 + 200 from rfl, Nat.pow_add]
    exact Nat.mul_lt_mul'' t2 b60
  have q1 := mul_wide b60 b60 (by decide) (by decide) (by decide)
  have q2 := mul_wide t2 b60 (by decide) (by decide) (by decide)
  have q3 := mul_wide t3 b60 (by decide) (by decide) (by decide)
  have pt : 0 < t * t * t * t := Int.mul_pos (Int.mul_pos (Int.mul_pos pos pos) pos) pos
  generalize t * t * t * t = w at q3 pt
  have bit : ∀ b : Bool, mulA (.int ((if cell < 0 then -cell else cell) % w)) (.int (if b = true then 1 else 0)) = some (.int ((if cell < 0 then -cell else cell) % w * if b = true then 1 else 0)) := fun b => mulD_r (by cases b <;> decide)
  have k1 := mulD_l (i := 104729) (j := (k : Nat)) ⟨by decide, by decide⟩
  have k2 := mulD_r (i := 104729 * (k : Int)) (j := (k : Nat)) ⟨by omega, by omega⟩
  have k3 := mulD_r (i := cell % 2305843009213693951 + 104729 * (k : Int) * (k : Int) + 29) (j := 48271) ⟨by decide, by decide⟩
  generalize hb : decide (u ≤ if cell < 0 then -cell else cell) = b
  have bb := bit b
  generalize ha : (if cell < 0 then -cell else cell) = a at bb hb
  generalize hg : (a % w * if b = true then (1 : Int) else 0) = g at bb
  have g0 : 0 ≤ g := by
    rw [← hg]
    refine Int.mul_nonneg (Int.emod_nonneg _ (by omega)) ?_
    split <;> decide
  have sh := short_ok (ds := [.int g, .int ((cell % 2305843009213693951 + 104729 * (k : Int) * (k : Int) + 29) * 48271 % 2305843009213693921), .int 0]) (by simp)
  refine ⟨[.int g, .int ((cell % 2305843009213693951 + 104729 * (k : Int) * (k : Int) + 29) * 48271 % 2305843009213693921), .int 0], ?_, g, _, 0, rfl, g0, Int.emod_nonneg _ (by decide), Int.lt_of_lt_of_le (Int.emod_lt_of_pos _ (by decide)) (by decide), by decide, by decide⟩
  refine fn_run (ρ := [.dat (scrD ns), .dat (.int k), .dat (.int cell), .dat (.int g)]) rfl ?_ (fin_rf rfl)
  refine seq_nx (ρ1 := [.dat (scrD ns), .dat (.int k), .dat (.int cell), .no]) (by show bSet 2 _ _ = _; unfold bSet; rw [show ([Sl.dat (scrD ns), .dat (.int k)] ++ List.replicate (4 - 2) Sl.no) = [.dat (scrD ns), .dat (.int k), .no, .no] from rfl, ec]; simp) ?_
  refine seq_nx (ρ1 := [.dat (scrD ns), .dat (.int k), .dat (.int cell), .dat (.int g)]) ?_ ?_
  · simp [p60, p18, q1, q2, q3, modD, pt, geD, ordD, ha, hb, bb]
  · exact seq_one (by simp [modD, k1, k2, k3, sh]) (fun z => nomatch z)
end Z
namespace Z
open PySem PySem.Spec PyProof.Rows L2 Gd Q
theorem set_set {α : Type} (l : List α) (i : Nat) (a b : α) : (l.set i a).set i b = l.set i b := by
  apply List.ext_getElem?
  intro j
  simp only [List.getElem?_set]
  split
  · simp
  · rfl
theorem set_self {l : List Sl} {i : Nat} (h : i < l.length) : l.set i (l.getD i .no) = l := by
  apply List.ext_getElem?
  intro j
  simp only [List.getElem?_set, List.getD_eq_getElem?_getD]
  split
  · next e =>
    subst e
    simp [h]
  · rfl
theorem gN_eq {i : Nat} {ρ : Ev} {d : D} (h : i < ρ.length) : gN i d ρ = some (ρ.set i (.dat d)) := if_pos h
/-- a comprehension over one name that changes nothing -/
theorem comp_pure {i : Nat} {t : Mo Bool} {e : Mo R} {ρ : Ev} {p : D → Bool} {f : D → D} (li : i < ρ.length) : ∀ (ds : List D), (∀ d ∈ ds, t (ρ.set i (.dat d)) = .ok (p d) (ρ.set i (.dat d))) → (∀ d ∈ ds, p d = true → e (ρ.set i (.dat d)) = .ok (.d (f d)) (ρ.set i (.dat d))) →
    compD (gN i) t e [i] ds (ρ.set i .no) = .ok ((ds.filter p).map f) (ρ.set i .no)
  | [], _, _ => rfl
  | d :: ds, ht, he => by
    have ih := comp_pure (t := t) (e := e) (ρ := ρ) (p := p) (f := f) li ds (fun d hd => ht d (List.mem_cons_of_mem _ hd)) fun d hd => he d (List.mem_cons_of_mem _ hd)
    have h1 := ht d List.mem_cons_self
    have w : wipeE (ρ.set i (.dat d)) [i] = ρ.set i .no := set_set ρ i _ _
    unfold compD
    rw [gN_eq (by rw [List.length_set]; exact li), set_set]
    dsimp only
    rw [h1]
    cases hp : p d with
    | false =>
      show compD (gN i) t e [i] ds (wipeE (ρ.set i (.dat d)) [i]) = _
      rw [w, ih, List.filter_cons, hp]
      rfl
    | true =>
      have h2 := he d List.mem_cons_self hp
      show (e (ρ.set i (.dat d))).bnd _ = _
      rw [h2]
      show (compD (gN i) t e [i] ds (wipeE (ρ.set i (.dat d)) [i])).bnd _ = _
      rw [w, ih, List.filter_cons, hp]
      rfl
theorem fcomp_pure {i : Nat} {it : Mo (List D)} {t : Mo Bool} {e : Mo R} {ρ : Ev} {ds : List D} (p : D → Bool) (f : D → D) (li : i < ρ.length) (no : noOwn ρ [i] = true) (hi : it ρ = .ok ds ρ) (hl : ds.length ≤ 1000) (ht : ∀ d ∈ ds, t (ρ.set i (.dat d)) = .ok (p d) (ρ.set i (.dat d))) (he : ∀ d ∈ ds, p d = true → e (ρ.set i (.dat d)) = .ok (.d (f d)) (ρ.set i (.dat d))) :
    fComp it (gN i) t e [i] ρ = .ok (.lst ((ds.filter p).map f)) ρ := by
  refine comp_eq hi (sz1000 hl) no (comp_pure li ds ht he) ?_
  show ((ρ.set i .no).set i (ρ.getD i .no)) = ρ
  rw [set_set, set_self li]
theorem fcomp_map {i : Nat} {it : Mo (List D)} {e : Mo R} {ρ : Ev} {ds : List D} (f : D → D) (li : i < ρ.length) (no : noOwn ρ [i] = true) (hi : it ρ = .ok ds ρ) (hl : ds.length ≤ 1000) (he : ∀ d ∈ ds, e (ρ.set i (.dat d)) = .ok (.d (f d)) (ρ.set i (.dat d))) :
    fComp it (gN i) bYes e [i] ρ = .ok (.lst (ds.map f)) ρ := by
  have := fcomp_pure (t := bYes) (e := e) (fun _ => true) f li no hi hl (fun _ _ => rfl) fun d hd _ => he d hd
  rw [List.filter_eq_self.mpr fun _ _ => rfl] at this
  exact this
/-! ### the first place where something holds -/
def enumFrom (k : Nat) (ds : List D) : List D := (ds.zipIdx k).map fun p => Q.pairD (.int (p.2 : Nat)) p.1
theorem enumD_from (ds : List D) : enumD ds = enumFrom 0 ds := rfl
theorem set_comm2 {l : List Sl} {a b : Nat} {x y z : Sl} (h : a ≠ b) : ((l.set a x).set b y).set a z = (l.set a z).set b y := by
  rw [List.set_comm _ _ h.symm, set_set]
abbrev g2 (a b : Nat) : Tg := gT 2 (gsCons (gN a) (gsCons (gN b) gsNil))
theorem g2_eq {a b : Nat} {ρ : Ev} {d e : D} (ha : a < ρ.length) (hb : b < ρ.length) : g2 a b (Q.pairD d e) ρ = some ((ρ.set a (.dat d)).set b (.dat e)) := by
  have hb2 : b < (ρ.set a (.dat d)).length := by rw [List.length_set]; exact hb
  simp [Q.pairD, ha, hb]
theorem loop_first {a b : Nat} {ρ : Ev} {body : Mo Out} {p : D → Bool} (hab : a ≠ b) (ha : a < ρ.length) (hb : b < ρ.length) : ∀ (ds : List D) (k : Nat) (x y : Sl), (∀ d ∈ ds, ∀ k : Nat, (p d = true → body ((ρ.set a (.dat (.int k))).set b (.dat d)) = .ok (.rt (.d (.int k))) ((ρ.set a (.dat (.int k))).set b (.dat d))) ∧ (p d = false → body ((ρ.set a (.dat (.int k))).set b (.dat d)) = .ok .nx ((ρ.set a (.dat (.int k))).set b (.dat d)))) →
    ∃ x' y', loopD (g2 a b) body (enumFrom k ds) ((ρ.set a x).set b y) = match ds.findIdx? p with
      | some j => .ok (.rt (.d (.int ((k + j : Nat))))) ((ρ.set a x').set b y')
      | none => .ok .nx ((ρ.set a x').set b y')
  | [], k, x, y, _ => ⟨x, y, rfl⟩
  | d :: ds, k, x, y, h => by
    have h1 := h d List.mem_cons_self k
    have l1 : a < ((ρ.set a x).set b y).length := by rw [List.length_set, List.length_set]; exact ha
    have l2 : b < ((ρ.set a x).set b y).length := by rw [List.length_set, List.length_set]; exact hb
    have e1 : enumFrom k (d :: ds) = Q.pairD (.int (k : Nat)) d :: enumFrom (k + 1) ds := rfl
    have e2 : (((ρ.set a x).set b y).set a (.dat (.int k))).set b (.dat d) = (ρ.set a (.dat (.int k))).set b (.dat d) := by rw [set_comm2 hab, set_set]
    rw [e1]
    unfold loopD
    rw [g2_eq l1 l2, e2]
    dsimp only
    rw [List.findIdx?_cons]
    cases hp : p d with
    | true =>
      rw [h1.1 hp]
      exact ⟨.dat (.int k), .dat d, rfl⟩
    | false =>
      rw [h1.2 hp]
      obtain ⟨x', y', e⟩ := loop_first (p := p) hab ha hb ds (k + 1) (.dat (.int k)) (.dat d) fun d hd => h d (List.mem_cons_of_mem _ hd)
      refine ⟨x', y', ?_⟩
      show loopD (g2 a b) body (enumFrom (k + 1) ds) ((ρ.set a (.dat (.int k))).set b (.dat d)) = _
      rw [e]
      cases ds.findIdx? p with
      | none => rfl
      | some j =>
        show Rt.ok (Out.rt (.d (.int ((k + 1 + j : Nat))))) _ = Rt.ok (Out.rt (.d (.int ((k + (j + 1) : Nat))))) _
        rw [show k + 1 + j = k + (j + 1) by omega]
/-! ### rows in rows -/
theorem eqv_str (a b : Str) : PyData.eqv (.str a) (.str b) = (a == b) := rfl
theorem any_strs (x : Str) : ∀ ys : List Str, ((ys.map PyData.str).any fun z => PyData.eqv z (.str x)) = ys.contains x
  | [] => rfl
  | y :: ys => by
    rw [List.map_cons, List.any_cons, any_strs x ys, List.contains_cons]
    show ((y == x) || _) = _
    rw [show (y == x) = (x == y) from Bool.eq_iff_iff.mpr (by rw [beq_iff_eq, beq_iff_eq]; exact eq_comm)]
theorem inT {x : Str} {ys : List Str} (hx : RowS x) (hy : ∀ z ∈ ys, RowS z) : inF (.str x) (.tuple (ys.map PyData.str)) = some (.bool (ys.contains x)) := by
  show Option.map PyData.bool (if SeqAt.shaped (PyData.str x) = true ∧ PyData.canLayAll0 (ys.map PyData.str) = true then some ((ys.map PyData.str).any fun z => PyData.eqv z (.str x)) else none) = _
  rw [if_pos ⟨shaped_str hx, lay_strs ys fun z hz => (hy z hz).ok⟩, any_strs]
  rfl
theorem ninT {x : Str} {ys : List Str} (hx : RowS x) (hy : ∀ z ∈ ys, RowS z) : ninF (.str x) (.tuple (ys.map PyData.str)) = some (.bool (!ys.contains x)) := by
  show Option.map (fun r => PyData.bool (!r)) (if SeqAt.shaped (PyData.str x) = true ∧ PyData.canLayAll0 (ys.map PyData.str) = true then some ((ys.map PyData.str).any fun z => PyData.eqv z (.str x)) else none) = _
  rw [if_pos ⟨shaped_str hx, lay_strs ys fun z hz => (hy z hz).ok⟩, any_strs]
  rfl
theorem findIdx_map {α β : Type} (f : α → β) (p : β → Bool) : ∀ l : List α, (l.map f).findIdx? p = l.findIdx? (p ∘ f)
  | [] => rfl
  | x :: l => by
    rw [List.map_cons, List.findIdx?_cons, List.findIdx?_cons, findIdx_map f p l]
    rfl
def strOf : D → Str
  | .str z => z
  | _ => ""
/-- how many first rows have no live row outside of some -/
def lim (v live w : List Str) : Nat := (v.findIdx? fun z => !w.contains z && live.contains z).getD v.length
end Z
namespace Z
open PySem PySem.Spec PyProof.Rows L2 Gd Q
theorem bool2 (b : Bool) : b = true ∨ b = false := by cases b <;> simp
abbrev Rows (v : List Str) : Prop := ∀ z ∈ v, RowS z
theorem prefix_length_spec {v live w : List Str} (hv : Rows v) (hl : Rows live) (hs : Rows w) : F_prefix_length [.dat (verD v), .dat (verD live), .dat (verD w)] = .ok (.dat (.int (lim v live w))) [.dat (verD v), .dat (verD live), .dat (verD w)] := by
  obtain ⟨x, y, e⟩ := loop_first (a := 3) (b := 4) (ρ := [.dat (verD v), .dat (verD live), .dat (verD w), .no, .no]) (p := fun d => !w.contains (strOf d) && live.contains (strOf d))
    (body := bSeq (bIf (bAnd (asB (e2 ninF (eVar 4) (eVar 2))) (asB (e2 inF (eVar 4) (eVar 1)))) (bSeq (bRet (eVar 3)) bNil) bNil) bNil) (by decide) (by simp) (by simp) (v.map PyData.str) 0 .no .no (fun d hd k => by
      obtain ⟨z, hz, rfl⟩ := List.mem_map.mp hd
      have i1 := inT (hv z hz) hl
      have i2 := ninT (hv z hz) hs
      refine ⟨fun hp => ?_, fun hp => ?_⟩ <;> (have hp : (!w.contains z && live.contains z) = _ := hp) <;> rcases bool2 (w.contains z) with h1 | h1 <;> rcases bool2 (live.contains z) with h2 | h2 <;> rw [h1, h2] at hp <;> first | (exact absurd hp (by decide)) | (rw [h1] at i2; rw [h2] at i1; simp [verD, i1, i2]))
  rw [findIdx_map] at e
  have it : iMap enF (eCons (eVar 0) eNil) [.dat (verD v), .dat (verD live), .dat (verD w), .no, .no] = .ok (enumFrom 0 (v.map PyData.str)) [.dat (verD v), .dat (verD live), .dat (verD w), .no, .no] := by
    simp [verD, enumD_from]
  have ef : (fun d => !w.contains (strOf d) && live.contains (strOf d)) ∘ PyData.str = fun z => !w.contains z && live.contains z := rfl
  rw [ef] at e
  unfold lim
  cases hf : v.findIdx? fun z => !w.contains z && live.contains z with
  | none =>
    rw [hf] at e
    refine fn_run (ρ := [.dat (verD v), .dat (verD live), .dat (verD w), x, y]) rfl ?_ (fin_rt rfl)
    exact seq_nx (for_eq it e) (seq_one (by simp [verD]) (fun z => nomatch z))
  | some j =>
    rw [hf] at e
    refine fn_run (ρ := [.dat (verD v), .dat (verD live), .dat (verD w), x, y]) rfl ?_ (fin_rt rfl)
    refine seq_one ((for_eq it e).trans ?_) (fun z => nomatch z)
    show Rt.ok (Out.rt (.d (.int ((0 + j : Nat))))) _ = _
    rw [Nat.zero_add]
    rfl
def intD' (n : Nat) : D := .int (n : Nat)
def limsD (hs : List (List Str)) (last w : List Str) : List D := hs.map fun v => .int (lim v last w : Nat)
end Z
namespace Z
open PySem PySem.Spec PyProof.Rows L2 Gd Q
/-! ### a comprehension over two names -/
/-! ### prefixes -/
def pfx (v last w : List Str) : List Str := v.take (lim v last w)
/-! ### supports -/
def natD : Option Nat → D
  | some j => .int (j : Nat)
  | none => .none
def supp (hs : List (List Str)) (last w : List Str) (z : Str) : Option Nat := hs.findIdx? fun v => (pfx v last w).contains z
def suppsD (hs : List (List Str)) (last w : List Str) : D := if (w.all fun z => (supp hs last w z).isSome) = true then .tuple (w.map fun z => natD (supp hs last w z)) else .none
end Z
namespace Z
open PySem PySem.Spec PyProof.Rows L2 Gd Q
/-! ### the live rows -/
/-- what `row in value` says of a text and any value that can be laid -/
def isIn (d : D) (z : Str) : Bool := match d with
  | .tuple ds => ds.any fun x => PyData.eqv x (.str z)
  | .list ds => ds.any fun x => PyData.eqv x (.str z)
  | _ => false
def isSet (last w : List Str) : Bool := w == (srt last).filter fun z => w.contains z
/-! ### is_reachable -/
def reach (hs : List (List Str)) (last w : List Str) : Bool := isSet last w && w.all fun z => (supp hs last w z).isSome
end Z
namespace Z
open PySem PySem.Spec PyProof.Rows L2 Gd Q
theorem lock_eq {m : Mo Ob} {ρ ρ1 : Ev} {o : Ob} (h : m ρ = .ok o ρ1) (nd : o.nd = true := by rfl) : eLock m ρ = .ok (.d o.d) ρ1 := by
  unfold eLock
  rw [h]
  cases o with
  | dt _ => cases nd
  | _ => rfl
/-! ### the law's prefixes -/
def live (last v : List Str) : List Str := v.filter fun z => last.contains z
def takes (u : List Str) : List (List Str) := (List.range u.length).map fun i => u.take (1 + i)
def prefs (hs : List (List Str)) (last : List Str) : List (List Str) := [] :: hs.flatMap fun v => takes (live last v)
def cutOf (u : List Str) : D → D
  | .int i => verD (u.take i.toNat)
  | x => x
end Z
namespace Z
open PySem PySem.Spec PyProof.Rows L2 Gd Q
/-! ### the keys of a dict of pairs -/
theorem bools_of : ∀ bs : List Bool, boolsD (bs.map PyData.bool) = some bs
  | [] => rfl
  | b :: bs => by
    show (boolsD (bs.map PyData.bool)).map (b :: ·) = _
    rw [bools_of bs]
    rfl
def allIn (w : List Str) : D → Bool
  | .tuple ds => ds.all fun x => w.contains (strOf x)
  | _ => false
def inside (ps : List (List Str)) (w : List Str) : List (List Str) := ps.filter fun p => p.all fun z => w.contains z
end Z
namespace Z
open PySem PySem.Spec PyProof.Rows L2 Gd Q
/-! ### unions of prefixes and supports -/
end Z
namespace Z
open PySem PySem.Spec PyProof.Rows L2 Gd Q
/-! ### repr of small data -/
structure Sh (B k : Nat) (d : D) : Prop where
  s : d.showable = true
  n : d.hasDict = false
  k : d.depth ≤ k
  l : d.shown.length ≤ B
theorem Sh.repr {B k : Nat} {d : D} (h : Sh B k d) (hB : B ≤ 1000000) (hk : k ≤ 60) : reprD [d] = some (.str d.shown) := if_pos ⟨h.s, h.n, Nat.le_trans h.k hk, Nat.le_trans h.l (Nat.le_trans hB (by decide))⟩
theorem Sh.all {B k : Nat} : ∀ ds : List D, (∀ d ∈ ds, Sh B k d) → PyData.showableAll ds = true ∧ PyData.hasDictAll ds = false ∧ PyData.depthAll ds ≤ k ∧ ((PyData.shownAll ds).map (·.length)).sum ≤ B * ds.length ∧ (PyData.shownAll ds).length = ds.length
  | [], _ => ⟨rfl, rfl, Nat.zero_le _, Nat.zero_le _, rfl⟩
  | d :: ds, h => by
    obtain ⟨h1, h2, h3, h4, h5⟩ := Sh.all ds fun d hd => h d (List.mem_cons_of_mem _ hd)
    have hd := h d List.mem_cons_self
    refine ⟨?_, ?_, ?_, ?_, ?_⟩
    · show (d.showable && PyData.showableAll ds) = true
      rw [hd.s, h1]
      rfl
    · show (d.hasDict || PyData.hasDictAll ds) = false
      rw [hd.n, h2]
      rfl
    · show max d.depth (PyData.depthAll ds) ≤ k
      exact Nat.max_le.mpr ⟨hd.k, h3⟩
    · show d.shown.length + ((PyData.shownAll ds).map (·.length)).sum ≤ B * (ds.length + 1)
      have := hd.l
      rw [Nat.mul_succ]
      omega
    · show (PyData.shownAll ds).length + 1 = ds.length + 1
      rw [h5]
theorem Sh.tup {B k m : Nat} {ds : List D} (h : ∀ d ∈ ds, Sh B k d) (l : ds.length ≤ m) : Sh ((B + 2) * m + 3) (k + 1) (.tuple ds) := by
  obtain ⟨h1, h2, h3, h4, h5⟩ := Sh.all ds h
  refine ⟨h1, h2, Nat.succ_le_succ h3, ?_⟩
  show (tupleText (PyData.shownAll ds)).length ≤ _
  have t := tupleText_len_le (PyData.shownAll ds)
  rw [h5] at t
  have e1 : B * ds.length ≤ B * m := Nat.mul_le_mul_left B l
  rw [Nat.add_mul]
  omega
theorem Sh.str {z : Str} (h : RowS z) : Sh 82 0 (.str z) := by
  refine ⟨rfl, rfl, Nat.le_refl _, ?_⟩
  have h2 := StrLaws.reprText_len z (fun c hc => by
    have := h.2.2 c hc
    omega)
  have h3 := h.2.1
  show (reprText z).length ≤ 82
  omega
theorem Sh.ver {v : List Str} (h : Rows v) (l : v.length ≤ 24) : Sh 2019 1 (verD v) := Sh.tup (B := 82) (m := 24) (fun d hd => by
  obtain ⟨z, hz, rfl⟩ := List.mem_map.mp hd
  exact Sh.str (h z hz)) (by rw [List.length_map]; exact l)
theorem Sh.nat {n : Nat} (h : n ≤ 60) : Sh 2 0 (.int n) := by
  have go : ∀ n : Fin 61, (PyData.int ((n : Nat) : Int)).showable = true ∧ (PyData.int ((n : Nat) : Int)).shown.length ≤ 2 := by decide +kernel
  obtain ⟨h1, h2⟩ := go ⟨n, by omega⟩
  exact ⟨h1, rfl, Nat.le_refl _, h2⟩
theorem Sh.none : Sh 4 0 .none := ⟨rfl, rfl, Nat.le_refl _, by decide +kernel⟩
theorem Sh.bool (b : Bool) : Sh 5 0 (.bool b) := ⟨rfl, rfl, Nat.le_refl _, by cases b <;> decide +kernel⟩
end Z
namespace Z
open PySem PySem.Spec PyProof.Rows L2 Gd Q
/-! ### comprehensions that use the hand -/
inductive Picked (P : D → D → Prop) : List D → List D → Prop
  | nil : Picked P [] []
  | skip {d : D} {ds xs : List D} : Picked P ds xs → Picked P (d :: ds) xs
  | keep {d x : D} {ds xs : List D} : P d x → Picked P ds xs → Picked P (d :: ds) (x :: xs)
theorem Picked.mem {P : D → D → Prop} {ds xs : List D} (h : Picked P ds xs) : ∀ x ∈ xs, ∃ d ∈ ds, P d x := by
  induction h with
  | nil => exact fun x hx => nomatch hx
  | skip _ ih => exact fun x hx => (ih x hx).imp fun d h => ⟨List.mem_cons_of_mem _ h.1, h.2⟩
  | keep p _ ih =>
    intro x hx
    rcases List.mem_cons.mp hx with rfl | hx
    · exact ⟨_, List.mem_cons_self, p⟩
    · exact (ih x hx).imp fun d h => ⟨List.mem_cons_of_mem _ h.1, h.2⟩
theorem Picked.len {P : D → D → Prop} {ds xs : List D} (h : Picked P ds xs) : xs.length ≤ ds.length := by
  induction h with
  | nil => exact Nat.le_refl _
  | skip _ ih => exact Nat.le_succ_of_le ih
  | keep _ _ ih => exact Nat.succ_le_succ ih
theorem Picked.sub {ds xs : List D} (h : Picked (fun d x => x = d) ds xs) : xs.Sublist ds := by
  induction h with
  | nil => exact .slnil
  | skip _ ih => exact ih.cons _
  | keep p _ ih => rw [p]; exact ih.cons₂ _
end Z
namespace Z
open PySem PySem.Spec PyProof.Rows L2 Gd Q
theorem eq_strs (a b : Str) : eqF (.str a) (.str b) = some (.bool (a == b)) := by
  unfold eqF eqD
  split
  · rfl
  · rfl
theorem gt_int (a b : Int) : gtD (.int a) (.int b) = some (.bool (decide (b < a))) := rfl
end Z
namespace Z
open PySem PySem.Spec PyProof.Rows L2 Gd Q
def nowS : Str := "nowhere"
theorem lim_le (v last w : List Str) : lim v last w ≤ v.length := by
  unfold lim
  cases h : v.findIdx? fun z => !w.contains z && last.contains z with
  | none => exact Nat.le_refl _
  | some j =>
    have := List.findIdx?_eq_some_iff_getElem.mp h
    obtain ⟨q, _⟩ := this
    exact Nat.le_of_lt q
theorem supp_le {hs : List (List Str)} {last w : List Str} {z : Str} {j : Nat} (h : supp hs last w z = some j) : j < hs.length := by
  unfold supp at h
  obtain ⟨q, _⟩ := List.findIdx?_eq_some_iff_getElem.mp h
  exact q
theorem Sh.natD {hs : List (List Str)} {last w : List Str} {z : Str} (l : hs.length ≤ 50) : Sh 4 0 (natD (supp hs last w z)) := by
  cases h : supp hs last w z with
  | none => exact Sh.none
  | some j =>
    have := supp_le h
    have s := Sh.nat (n := j) (by omega)
    exact ⟨s.s, s.n, s.k, Nat.le_trans s.l (by decide)⟩
end Z
namespace Z
open PySem PySem.Spec PyProof.Rows L2 Gd Q
/-! ### words about the store -/
theorem dats_d : ∀ ds : List D, datsM (ds.map .d) = some ds
  | [] => rfl
  | d :: ds => by
    show (datsM (ds.map .d)).map (d :: ·) = _
    rw [dats_d ds]
    rfl
abbrev lstO (ds : List D) : Oc := .lst (ds.map .d)
theorem look_lst {μ : List Oc} {i : Nat} {ds : List D} (h : μ[i]? = some (lstO ds)) : lookM μ (.o i) = some (.list ds) := by
  show (μ[i]?).bind Oc.d = _
  rw [h]
  show (datsM (ds.map .d)).map PyData.list = _
  rw [dats_d]
  rfl
/-- _law_take with a hand of the store -/
theorem takeM {s : Ms} {i hid : Nat} {m : MoM Vl} {k : Int} {h : List D} {n : Nat} (e0 : s.ρ[i]? = some (.v (.o hid))) (hm : s.μ[hid]? = some (lstO h)) (em : m s = .ok (.d (.int k)) s) (hh : HandOk h n) (hn : n < 1000000) (k0 : 0 < k) (k1 : k < 1073741824) :
    ∃ (v : Int) (h' : List D), eCallO F__law_take (eConsM (eVarM i) (eConsM m eNilM)) s = .ok (.d (.int v)) ⟨s.ρ, s.μ.set hid (lstO h')⟩ ∧ 0 ≤ v ∧ v < k ∧ HandOk h' (n + 1) := by
  obtain ⟨v, h', e, v0, v1, hk⟩ := take_spec hh hn k0 k1
  refine ⟨v, h', ?_, v0, v1, hk⟩
  have ea : argO s.μ [.o hid, .d (.int k)] = some [.own (.lst h), .dat (.int k)] := by
    unfold argO
    rw [hm]
    simp [argO, dats_d]
  have eb : backO [.o hid, .d (.int k)] [.own (.lst h'), .dat (.int k)] s.μ = some (s.μ.set hid (lstO h')) := rfl
  have ec : (eConsM (eVarM i) (eConsM m eNilM)) s = .ok [.o hid, .d (.int k)] s := by
    simp [e0, em]
  unfold eCallO
  rw [ec]
  show (applyO F__law_take [.o hid, .d (.int k)] s).bind toVl = _
  unfold applyO
  rw [ea]
  dsimp only
  rw [if_pos (show nodupB (idsO [.o hid, .d (.int k)]) = true by simp [idsO, nodupB]), e]
  dsimp only
  rw [eb]
  rfl
end Z
namespace Z
open PySem PySem.Spec PyProof.Rows L2 Gd Q
/-! ### an instance of Feed in the store -/
abbrev feedO (cur sto : D) (t : Nat) (n : Int) : Oc := .ins "Feed" [("current", .d cur), ("stored", .d sto), ("tokens", .o t), ("next_number", .d (.int n))]
theorem neCT : ¬ ("current" : Str) = "tokens" := by decide +kernel
theorem neCS : ¬ ("current" : Str) = "stored" := by decide +kernel
theorem neCN : ¬ ("current" : Str) = "next_number" := by decide +kernel
theorem neST : ¬ ("stored" : Str) = "tokens" := by decide +kernel
theorem neSN : ¬ ("stored" : Str) = "next_number" := by decide +kernel
theorem neTN : ¬ ("tokens" : Str) = "next_number" := by decide +kernel
section
variable {a b c d : Vl}
theorem lkF2 : List.lookup ("stored" : Str) [("current", a), ("stored", b), ("tokens", c), ("next_number", d)] = some b := by rfl
theorem lkF3 : List.lookup ("tokens" : Str) [("current", a), ("stored", b), ("tokens", c), ("next_number", d)] = some c := by rfl
theorem lkF4 : List.lookup ("next_number" : Str) [("current", a), ("stored", b), ("tokens", c), ("next_number", d)] = some d := by rfl
theorem ptF4 {x : Vl} : (putFM "next_number" x [(("current" : Str), a), ("stored", b), ("tokens", c), ("next_number", d)] : List (Str × Vl)) = [(("current" : Str), a), ("stored", b), ("tokens", c), ("next_number", x)] := by simp [putFM, neCT, neCS, neCN, neST, neSN, neTN]
end
section
variable {s : Ms} {i f t : Nat} {cur sto : D} {n : Int}
theorem fldT (e0 : s.ρ[i]? = some (.v (.o f))) (hf : s.μ[f]? = some (feedO cur sto t n)) : eFldM "Feed" "tokens" (eVarM i) s = .ok (.o t) s := by
  simp [e0, hf, lkF3]
theorem fldS (e0 : s.ρ[i]? = some (.v (.o f))) (hf : s.μ[f]? = some (feedO cur sto t n)) : eFldM "Feed" "stored" (eVarM i) s = .ok (.d sto) s := by
  simp [e0, hf, lkF2]
theorem fldN (e0 : s.ρ[i]? = some (.v (.o f))) (hf : s.μ[f]? = some (feedO cur sto t n)) : eFldM "Feed" "next_number" (eVarM i) s = .ok (.d (.int n)) s := by
  simp [e0, hf, lkF4]
end
/-! ### a dict from numbers to data -/
def kvT (g : Int → D) (ls : List Int) : List (Key × Vl) := ls.map fun i => ((.inl i : Key), Vl.d (g i))
def kvD (g : Int → D) (ls : List Int) : List (D × D) := ls.map fun i => (.int i, g i)
section
variable {g : Int → D} {ls : List Int} {μ : List Oc} {t : Nat} {n : Int}
theorem kvs_kv : ∀ ls : List Int, kvsM (kvT g ls) = some (kvD g ls)
  | [] => rfl
  | i :: ls => by
    show (kvsM (kvT g ls)).map ((keyD (.inl i), g i) :: ·) = _
    rw [kvs_kv ls]
    rfl
theorem look_kv (h : μ[t]? = some (.dk (kvT g ls))) : lookM μ (.o t) = some (.dict (kvD g ls)) := by
  show (μ[t]?).bind Oc.d = _
  rw [h]
  show (kvsM (kvT g ls)).map PyData.dict = _
  rw [kvs_kv]
  rfl
theorem keys_kv : keysOk (kvD g ls) = true := List.all_eq_true.mpr fun q hq => by
  obtain ⟨i, _, rfl⟩ := List.mem_map.mp hq
  rfl
theorem len_kv : lenK [.dict (kvD g ls)] = some (.int (ls.length : Nat)) := by
  show (if keysOk (kvD g ls) = true then some (PyData.int ((kvD g ls).length : Nat)) else none) = _
  rw [if_pos keys_kv]
  unfold kvD
  rw [List.length_map]
theorem find_kv : ∀ (ls : List Int), lookKV (kvD g ls) (.inl n) = if n ∈ ls then some (g n) else none
  | [] => rfl
  | i :: ls => by
    have ih := find_kv ls
    unfold lookKV kvD at ih ⊢
    rw [List.map_cons, List.find?_cons]
    have e : keyOf (PyData.int i) = some (.inl i) := rfl
    by_cases h : i = n
    · subst h
      simp [e]
    · have h2 : ¬ n = i := fun z => h z.symm
      have h3 : ¬ ((Sum.inl i : Key) = Sum.inl n) := fun z => h (Sum.inl.inj z)
      simp only [e, Option.some.injEq, h3, decide_false, List.mem_cons, h2, false_or]
      exact ih
theorem nin_kv : ninK (.int n) (.dict (kvD g ls)) = some (.bool (!decide (n ∈ ls))) := by
  show (if keysOk (kvD g ls) = true then (keyOf (PyData.int n)).map (fun k => PyData.bool (!(lookKV (kvD g ls) k).isSome)) else none) = _
  rw [if_pos keys_kv]
  show some (PyData.bool (!(lookKV (kvD g ls) (.inl n)).isSome)) = _
  rw [find_kv]
  by_cases h : n ∈ ls
  · rw [if_pos h, decide_eq_true h]
    rfl
  · rw [if_neg h, decide_eq_false h]
    rfl
theorem put_kv (h : n ∉ ls) : putKM (kvT g ls) (.inl n) (.d (g n)) = kvT g (ls ++ [n]) := by
  unfold putKM
  rw [if_neg (fun z => by
    obtain ⟨q, hq, e⟩ := List.any_eq_true.mp z
    obtain ⟨i, hi, rfl⟩ := List.mem_map.mp hq
    have e : (Sum.inl i : Key) = Sum.inl n := by simpa using e
    exact h (Sum.inl.inj e ▸ hi))]
  unfold kvT
  rw [List.map_append]
  rfl
theorem drop_kv : dropKM (kvT g ls) (.inl n) = kvT g (ls.filter fun i => decide (i ≠ n)) := by
  unfold dropKM kvT
  rw [List.filter_map]
  congr 1
  refine List.filter_congr fun i _ => ?_
  simp
theorem val_kv (h : n ∈ ls) : valM (kvT g ls) (.inl n) = some (.d (g n)) := by
  unfold valM kvT
  induction ls with
  | nil => cases h
  | cons i ls ih =>
    rw [List.map_cons, List.find?_cons]
    by_cases e : i = n
    · subst e
      simp
    · have h2 : n ∈ ls := (List.mem_cons.mp h).resolve_left fun z => e z.symm
      have h3 : ¬ ((Sum.inl i : Key) = Sum.inl n) := fun z => e (Sum.inl.inj z)
      simp only [h3, decide_false]
      exact ih h2
theorem sort_kv (h : ls.length < 64) : sortID [.dict (kvD g ls)] = some ((isrt ls).map PyData.int) := by
  show sortI ((kvD g ls).map Prod.fst) = _
  have e : (kvD g ls).map Prod.fst = ls.map PyData.int := by
    unfold kvD
    rw [List.map_map]
    rfl
  rw [e]
  unfold sortI
  rw [intsD_map]
  dsimp only
  rw [if_pos h]
theorem sort_ints (h : ls.length < 64) : sortID [.list (ls.map PyData.int)] = some ((isrt ls).map PyData.int) := by
  show sortI (ls.map PyData.int) = _
  unfold sortI
  rw [intsD_map]
  dsimp only
  rw [if_pos h]
end
end Z
namespace Z
open PySem PySem.Spec PyProof.Rows L2 Gd Q
/-! ### step by step in the layer of objects -/
section
variable {f g : MoM OutM} {c : MoM Bool} {s s1 : Ms} {r : RtM OutM} {o : OutM}
theorem mseq_nx (h : f s = .ok .nx s1) (h' : g s1 = r) : mSeq f g s = r := by
  unfold mSeq
  rw [h]
  exact h'
theorem mseq_one (h : f s = .ok o s1) (ne : o ≠ .nx) : mSeq f g s = .ok o s1 := by
  unfold mSeq
  rw [h]
  cases o with
  | nx => exact absurd rfl ne
  | _ => rfl
theorem mseq_rt {x : Vl} (h : f s = .ok (.rt x) s1) : mSeq f g s = .ok (.rt x) s1 := mseq_one h (fun z => nomatch z)
theorem mseq_ex {k : Str} {d : D} (h : f s = .ex k d s1) : mSeq f g s = .ex k d s1 := by
  unfold mSeq
  rw [h]
  rfl
theorem mif_t (hc : c s = .ok true s1) (h : f s1 = r) : mIf c f g s = r := by
  unfold mIf
  rw [hc]
  exact h
theorem mif_f (hc : c s = .ok false s1) (h : g s1 = r) : mIf c f g s = r := by
  unfold mIf
  rw [hc]
  exact h
theorem mret {e : MoM Vl} {x : Vl} (h : e s = .ok x s1) : mRet e s = .ok (.rt x) s1 := by
  unfold mRet
  rw [h]
  rfl
theorem mex {e : MoM Vl} {x : Vl} (h : e s = .ok x s1) : mEx e s = .ok .nx s1 := by
  unfold mEx
  rw [h]
  rfl
theorem mset {e : MoM Vl} {x : Vl} {i : Nat} (h : e s = .ok x s1) (l : i < s1.ρ.length) : mSet i e s = .ok .nx ⟨s1.ρ.set i (.v x), s1.μ⟩ := by
  unfold mSet
  rw [h]
  show putM i x s1 = _
  unfold putM
  rw [if_pos l]
theorem mset_ex {e : MoM Vl} {i : Nat} {k : Str} {d : D} (h : e s = .ex k d s1) : mSet i e s = .ex k d s1 := by
  unfold mSet
  rw [h]
  rfl
end
section
variable {n N : Nat} {b : MoM OutM} {xs : List Vl} {μ : List Oc} {s' : Ms} {x : Vl}
theorem fnM_rt (hl : xs.length = n) (h : b ⟨xs.map .v ++ List.replicate (N - n) .no, μ⟩ = .ok (.rt x) s') : fnM n N b xs μ = .ok x s' := by
  unfold fnM
  rw [if_pos hl, h]
  rfl
theorem fnM_nx (hl : xs.length = n) (h : b ⟨xs.map .v ++ List.replicate (N - n) .no, μ⟩ = .ok .nx s') : fnM n N b xs μ = .ok (.d .none) s' := by
  unfold fnM
  rw [if_pos hl, h]
  rfl
theorem run_rt {μ' : List Oc} (hl : xs.length = n) (h : ∃ ρ', b ⟨xs.map .v ++ List.replicate (N - n) .no, μ⟩ = .ok (.rt x) ⟨ρ', μ'⟩) : ∃ ρ', fnM n N b xs μ = .ok x ⟨ρ', μ'⟩ := h.elim fun ρ' h => ⟨ρ', fnM_rt hl h⟩
theorem run_nx {μ' : List Oc} (hl : xs.length = n) (h : ∃ ρ', b ⟨xs.map .v ++ List.replicate (N - n) .no, μ⟩ = .ok .nx ⟨ρ', μ'⟩) : ∃ ρ', fnM n N b xs μ = .ok (.d .none) ⟨ρ', μ'⟩ := h.elim fun ρ' h => ⟨ρ', fnM_nx hl h⟩
theorem fnM_ex {k : Str} {d : D} (hl : xs.length = n) (h : b ⟨xs.map .v ++ List.replicate (N - n) .no, μ⟩ = .ex k d s') : fnM n N b xs μ = .ex k d s' := by
  unfold fnM
  rw [if_pos hl, h]
  rfl
theorem run_ex {μ' : List Oc} {k : Str} {d : D} (hl : xs.length = n) (h : ∃ ρ', b ⟨xs.map .v ++ List.replicate (N - n) .no, μ⟩ = .ex k d ⟨ρ', μ'⟩) : ∃ ρ', fnM n N b xs μ = .ex k d ⟨ρ', μ'⟩ := h.elim fun ρ' h => ⟨ρ', fnM_ex hl h⟩
end
/-! ### calls -/
section
variable {s s1 : Ms} {m : MoM (List Vl)} {xs : List D} {r : D} {as' : List Sl} {F : Fn}
theorem argO_d (μ : List Oc) : ∀ xs : List D, argO μ (xs.map .d) = some (xs.map .dat)
  | [] => rfl
  | x :: xs => by
    show (argO μ (xs.map .d)).map (.dat x :: ·) = _
    rw [argO_d μ xs]
    rfl
theorem idsO_d : ∀ xs : List D, idsO (xs.map .d) = []
  | [] => rfl
  | x :: xs => idsO_d xs
theorem backO_d (μ : List Oc) : ∀ (xs : List D) (as : List Sl), as.length = xs.length → backO (xs.map .d) as μ = some μ
  | [], _, _ => rfl
  | x :: xs, [], h => by cases h
  | x :: xs, a :: as, h => backO_d μ xs as (by simpa using h)
theorem nodup0 : nodupB [] = true := by simp [nodupB]
theorem callO_d (em : m s = .ok (xs.map .d) s1) (e : F (xs.map .dat) = .ok (.dat r) as') (hl : as'.length = xs.length) : eCallO F m s = .ok (.d r) s1 := by
  unfold eCallO
  rw [em]
  show (applyO F (xs.map .d) s1).bind toVl = _
  unfold applyO
  rw [argO_d]
  dsimp only
  rw [if_pos (by rw [idsO_d]; exact nodup0), e]
  dsimp only
  rw [backO_d _ _ _ hl]
  rfl
theorem callOX_d (em : m s = .ok (xs.map .d) s1) (e : F (xs.map .dat) = .ok (.dat r) as') (hl : as'.length = xs.length) : eCallOX F m s = .ok (.d r) s1 := by
  unfold eCallOX
  rw [em]
  show (applyOX F (xs.map .d) s1).bind toVl = _
  unfold applyOX
  rw [argO_d]
  dsimp only
  rw [if_pos (by rw [idsO_d]; exact nodup0), e]
  dsimp only
  rw [backO_d _ _ _ hl]
  rfl
end
section
variable {s s1 : Ms} {mo : MoM Vl} {ma : MoM (List Vl)} {f t : Nat} {cur sto : D} {n : Int} {xs : List Vl} {mt : Str} {F : FnM} {x : Vl} {ρ' : List Sm} {μ' : List Oc}
theorem meth_ok (e0 : mo s = .ok (.o f) s) (hf : s.μ[f]? = some (feedO cur sto t n)) (hn : List.lookup mt [(("current" : Str), (.d cur : Vl)), ("stored", .d sto), ("tokens", .o t), ("next_number", .d (.int n))] = none) (ea : ma s = .ok xs s1) (hF : F (.o f :: xs) s1.μ = .ok x ⟨ρ', μ'⟩) :
    eMethM "Feed" F mt mo ma s = .ok x ⟨s1.ρ, μ'⟩ := by
  unfold eMethM
  rw [e0]
  show (match s.μ[f]? with
    | some (.ins c' fs) => if c' = "Feed" ∧ fs.lookup mt = none then (ma s).bind fun xs s2 => runF F (.o f :: xs) s2 else .no
    | _ => .no) = _
  rw [hf]
  dsimp only
  rw [if_pos ⟨rfl, hn⟩, ea]
  show runF F (.o f :: xs) s1 = _
  unfold runF
  rw [hF]
theorem meth_ex {k : Str} {d : D} (e0 : mo s = .ok (.o f) s) (hf : s.μ[f]? = some (feedO cur sto t n)) (hn : List.lookup mt [(("current" : Str), (.d cur : Vl)), ("stored", .d sto), ("tokens", .o t), ("next_number", .d (.int n))] = none) (ea : ma s = .ok xs s1) (hF : F (.o f :: xs) s1.μ = .ex k d ⟨ρ', μ'⟩) :
    eMethM "Feed" F mt mo ma s = .ex k d ⟨s1.ρ, μ'⟩ := by
  unfold eMethM
  rw [e0]
  show (match s.μ[f]? with
    | some (.ins c' fs) => if c' = "Feed" ∧ fs.lookup mt = none then (ma s).bind fun xs s2 => runF F (.o f :: xs) s2 else .no
    | _ => .no) = _
  rw [hf]
  dsimp only
  rw [if_pos ⟨rfl, hn⟩, ea]
  show runF F (.o f :: xs) s1 = _
  unfold runF
  rw [hF]
theorem call0_ok (ea : ma s = .ok xs s1) (hF : F xs s1.μ = .ok x ⟨ρ', μ'⟩) : eCall0M F ma s = .ok x ⟨s1.ρ, μ'⟩ := by
  unfold eCall0M
  rw [ea]
  show (match F xs s1.μ with
    | .ok x s2 => .ok x ⟨s1.ρ, s2.μ⟩
    | _ => .no : RtM Vl) = _
  rw [hF]
end
end Z
namespace Z
open PySem PySem.Spec PyProof.Rows L2 Gd Q
section
variable {s s1 s2 : Ms} {a b x y : Vl} {d e r : D} {f g m : MoM Vl} {F : D → D → Option D}
theorem e2m (ea : f s = .ok a s1) (eb : g s1 = .ok b s2) (la : lookM s2.μ a = some d) (lb : lookM s2.μ b = some e) (h : F d e = some r) : e2M F f g s = .ok (.d r) s2 := by
  unfold e2M
  rw [ea]
  show (g s1).bind (fun b s2 => liftM (F2M F s2.μ a b) s2) = _
  rw [eb]
  show liftM (F2M F s2.μ a b) s2 = _
  unfold F2M
  rw [la, lb]
  dsimp only
  rw [h]
  rfl
theorem enm1 {F : List D → Option D} (em : m s = .ok a s1) (la : lookM s1.μ a = some d) (h : F [d] = some r) : eNM F (eConsM m eNilM) s = .ok (.d r) s1 := by
  have ec : (eConsM m eNilM) s = .ok [a] s1 := by
    unfold eConsM
    rw [em]
    rfl
  unfold eNM
  rw [ec]
  show liftM ((looksM s1.μ [a]).bind F) s1 = _
  have el : looksM s1.μ [a] = some [d] := by
    unfold looksM
    rw [la]
    rfl
  rw [el]
  show liftM (F [d]) s1 = _
  rw [h]
  rfl
theorem fnm1 {F : List D → Option (List D)} {ds : List D} (em : m s = .ok a s1) (la : lookM s1.μ a = some d) (h : F [d] = some ds) : fNM F (eConsM m eNilM) s = .ok (lstO ds) s1 := by
  have ec : (eConsM m eNilM) s = .ok [a] s1 := by
    unfold eConsM
    rw [em]
    rfl
  unfold fNM
  rw [ec]
  show asLM ((looksM s1.μ [a]).bind F) s1 = _
  have el : looksM s1.μ [a] = some [d] := by
    unfold looksM
    rw [la]
    rfl
  rw [el]
  show asLM (F [d]) s1 = _
  rw [h]
  rfl
theorem lockm {m : MoM Oc} {ds : List D} (e : m s = .ok (lstO ds) s1) : eLockM m s = .ok (.d (.list ds)) s1 := by
  unfold eLockM
  rw [e]
  show (match ((datsM (ds.map .d)).map PyData.list) with
    | some d => .ok (.d d) s1
    | none => .no : RtM Vl) = _
  rw [dats_d]
  rfl
theorem newm {m : MoM Oc} {c : Oc} (e : m s = .ok c s1) : eNewM m s = .ok (.o s1.μ.length) ⟨s1.ρ, s1.μ ++ [c]⟩ := by
  unfold eNewM
  rw [e]
  rfl
theorem asbm {t : Bool} (e : m s = .ok (.d (.bool t)) s1) : asBM m s = .ok t s1 := by
  unfold asBM
  rw [e]
  rfl
theorem varm {i : Nat} (h : s.ρ[i]? = some (.v x)) : eVarM i s = .ok x s := by
  unfold eVarM
  rw [h]
theorem cons1 (e1' : m s = .ok a s1) : (eConsM m eNilM) s = .ok [a] s1 := by
  unfold eConsM
  rw [e1']
  rfl
theorem consm {l : MoM (List Vl)} {xs : List Vl} (e1' : m s = .ok a s1) (e2' : l s1 = .ok xs s2) : (eConsM m l) s = .ok (a :: xs) s2 := by
  unfold eConsM
  rw [e1']
  show (l s1).bind (fun xs s2 => .ok (a :: xs) s2) = _
  rw [e2']
  rfl
theorem cons2 {m2 : MoM Vl} (e1' : m s = .ok a s1) (e2' : m2 s1 = .ok b s2) : (eConsM m (eConsM m2 eNilM)) s = .ok [a, b] s2 := consm e1' (cons1 e2')
theorem cons3 {m2 m3 : MoM Vl} {c : Vl} {s3 : Ms} (e1' : m s = .ok a s1) (e2' : m2 s1 = .ok b s2) (e3' : m3 s2 = .ok c s3) : (eConsM m (eConsM m2 (eConsM m3 eNilM))) s = .ok [a, b, c] s3 := consm e1' (cons2 e2' e3')
theorem bnotm {c : MoM Bool} {t : Bool} (e : c s = .ok t s1) : bNotM c s = .ok (!t) s1 := by
  unfold bNotM
  rw [e]
  rfl
theorem borm_f {c c2 : MoM Bool} {r : RtM Bool} (e : c s = .ok false s1) (e' : c2 s1 = r) : bOrM c c2 s = r := by
  unfold bOrM
  rw [e]
  exact e'
theorem bandm_t {c c2 : MoM Bool} {r : RtM Bool} (e : c s = .ok true s1) (e' : c2 s1 = r) : bAndM c c2 s = r := by
  unfold bAndM
  rw [e]
  exact e'
theorem bandm_f {c c2 : MoM Bool} (e : c s = .ok false s1) : bAndM c c2 s = .ok false s1 := by
  unfold bAndM
  rw [e]
  rfl
theorem eandm_t {r : RtM Vl} (e : f s = .ok (.d (.bool true)) s1) (e' : g s1 = r) : eAndM f g s = r := by
  unfold eAndM
  rw [e]
  exact e'
end
/-! ### fields and items -/
section
variable {s s1 : Ms} {f t t' : Nat} {cur sto cur' sto' : D} {n n' : Int} {mv mo mk : MoM Vl} {y z : Vl} {kvs : List (Key × Vl)}
theorem mfldN (ev : mv s = .ok (.d (.int n')) s1) (eo : mo s1 = .ok (.o f) s1) (hf : s1.μ[f]? = some (feedO cur sto t n)) : mFld "Feed" "next_number" mv mo s = .ok .nx ⟨s1.ρ, s1.μ.set f (feedO cur sto t n')⟩ := by
  unfold mFld
  rw [ev]
  show (mo s1).bind _ = _
  rw [eo]
  show (match s1.μ[f]? with
    | some (.ins c' fs) => if c' = "Feed" ∧ fs.length < 1000 then .ok .nx ⟨s1.ρ, s1.μ.set f (.ins c' (putFM "next_number" (.d (.int n')) fs))⟩ else .no
    | _ => .no : RtM OutM) = _
  rw [hf]
  dsimp only
  rw [if_pos ⟨rfl, by show 4 < 1000; decide⟩, ptF4]
theorem mputk (ev : mv s = .ok z s1) (eo : mo s1 = .ok (.o t) s1) (ek : mk s1 = .ok (.d (.int n)) s1) (ht : s1.μ[t]? = some (.dk kvs)) (l : kvs.length < 1000000) : mPutK mv mo mk s = .ok .nx ⟨s1.ρ, s1.μ.set t (.dk (putKM kvs (.inl n) z))⟩ := by
  unfold mPutK
  rw [ev]
  show (mo s1).bind _ = _
  rw [eo]
  show (mk s1).bind _ = _
  rw [ek]
  show (match s1.μ[t]?, (lookM s1.μ (.d (.int n))).bind keyOf with
    | some (.dk kvs), some k => if kvs.length < 1000000 then .ok .nx ⟨s1.ρ, s1.μ.set t (.dk (putKM kvs k z))⟩ else .no
    | _, _ => .no : RtM OutM) = _
  rw [ht]
  show (if kvs.length < 1000000 then RtM.ok OutM.nx ⟨s1.ρ, s1.μ.set t (.dk (putKM kvs (.inl n) z))⟩ else .no) = _
  rw [if_pos l]
theorem mdelk (eo : mo s = .ok (.o t) s) (ek : mk s = .ok (.d (.int n)) s) (ht : s.μ[t]? = some (.dk kvs)) (l : (valM kvs (.inl n)).isSome = true) : mDelK mo mk s = .ok .nx ⟨s.ρ, s.μ.set t (.dk (dropKM kvs (.inl n)))⟩ := by
  unfold mDelK
  rw [eo]
  show (mk s).bind _ = _
  rw [ek]
  show (match s.μ[t]?, (lookM s.μ (.d (.int n))).bind keyOf with
    | some (.dk kvs), some k => if (valM kvs k).isSome = true then .ok .nx ⟨s.ρ, s.μ.set t (.dk (dropKM kvs k))⟩ else .no
    | _, _ => .no : RtM OutM) = _
  rw [ht]
  show (if (valM kvs (.inl n)).isSome = true then RtM.ok OutM.nx ⟨s.ρ, s.μ.set t (.dk (dropKM kvs (.inl n)))⟩ else .no) = _
  rw [if_pos l]
theorem getm {x : Vl} (eo : mo s = .ok (.o t) s) (ek : mk s = .ok (.d (.int n)) s) (ht : s.μ[t]? = some (.dk kvs)) (l : valM kvs (.inl n) = some x) : eGetM mo mk s = .ok x s := by
  unfold eGetM
  rw [eo]
  show (mk s).bind _ = _
  rw [ek]
  show (match s.μ[t]?, (lookM s.μ (.d (.int n))).bind keyOf with
    | some (.dk kvs), some k => match valM kvs k with
      | some z => .ok z s
      | none => .no
    | _, _ => .no : RtM Vl) = _
  rw [ht]
  show (match valM kvs (.inl n) with
      | some z => .ok z s
      | none => .no : RtM Vl) = _
  rw [l]
end
end Z
namespace Z
open PySem PySem.Spec PyProof.Rows L2 Gd Q
/-! ### unions -/
theorem strs_map : ∀ ns : List Str, strsD (ns.map PyData.str) = some ns
  | [] => rfl
  | n :: ns => by
    show (strsD (ns.map PyData.str)).map (n :: ·) = _
    rw [strs_map ns]
    rfl
theorem mem_add (l : List Str) (x z : Str) : z ∈ SetS.add l x ↔ z ∈ l ∨ z = x := by
  unfold SetS.add
  split
  · next c => exact ⟨.inl, fun h => h.elim id fun e => e ▸ List.contains_iff_mem.mp c⟩
  · rw [List.mem_cons]
    exact Or.comm
theorem mem_addAll : ∀ (xs l : List Str) (z : Str), z ∈ addAll l xs ↔ z ∈ l ∨ z ∈ xs
  | [], l, z => by simp [addAll]
  | x :: xs, l, z => by
    show z ∈ addAll (SetS.add l x) xs ↔ _
    rw [mem_addAll xs, mem_add, List.mem_cons, or_assoc]
theorem nodup_add {l : List Str} (h : l.Nodup) (x : Str) : (SetS.add l x).Nodup := by
  unfold SetS.add
  split
  · exact h
  · next c => exact List.nodup_cons.mpr ⟨fun z => c (List.contains_iff_mem.mpr z), h⟩
theorem nodup_addAll : ∀ (xs l : List Str), l.Nodup → (addAll l xs).Nodup
  | [], _, h => h
  | x :: xs, l, h => nodup_addAll xs _ (nodup_add h x)
/-- a union of texts that are, as a set, the list S -/
theorem addAll_perm {xs S : List Str} (nd : S.Nodup) (h : ∀ z, z ∈ xs ↔ z ∈ S) : (addAll [] xs).Perm S :=
  (List.perm_ext_iff_of_nodup (nodup_addAll xs [] List.nodup_nil) nd).mpr fun z => by
    rw [mem_addAll, h]
    simp
theorem srt_same {a b : List Str} (h : a.Perm b) : srt a = srt b := srt_eq ((srt_perm a).trans h) (srt_pw a)
theorem union_comp {L : D} : ∀ (xs : List (List Str)), comp2D (gN 1) (iSeq (eVar 1)) (gN 2) (eVar 2) [1, 2] [2] (xs.map verD) [.dat L, .no, .no] = .ok (xs.flatten.map PyData.str) [.dat L, .no, .no]
  | [] => rfl
  | v :: xs => by
    have c : compD (gN 2) bYes (eVar 2) [2] (v.map PyData.str) [.dat L, .dat (verD v), .no] = .ok (v.map PyData.str) [.dat L, .dat (verD v), .no] := by
      have := comp_pure (i := 2) (t := bYes) (e := eVar 2) (ρ := [.dat L, .dat (verD v), .no]) (p := fun _ => true) (f := id) (by show 2 < 3; decide) (v.map PyData.str) (fun _ _ => rfl) fun _ _ _ => rfl
      rw [List.filter_eq_self.mpr fun _ _ => rfl, List.map_id] at this
      exact this
    have ih := union_comp (L := L) xs
    rw [List.map_cons]
    unfold comp2D
    show ((Rt.ok (v.map PyData.str) [.dat L, .dat (verD v), .no] : Rt (List D)).bnd fun ds2 ρ2 => (compD (gN 2) bYes (eVar 2) [2] ds2 (wipeE ρ2 [2])).bnd fun ys ρ3 => (comp2D (gN 1) (iSeq (eVar 1)) (gN 2) (eVar 2) [1, 2] [2] (xs.map verD) (wipeE ρ3 [1, 2])).bnd fun zs ρ4 => .ok (ys ++ zs) ρ4) = _
    show ((compD (gN 2) bYes (eVar 2) [2] (v.map PyData.str) [.dat L, .dat (verD v), .no]).bnd fun ys ρ3 => (comp2D (gN 1) (iSeq (eVar 1)) (gN 2) (eVar 2) [1, 2] [2] (xs.map verD) (wipeE ρ3 [1, 2])).bnd fun zs ρ4 => .ok (ys ++ zs) ρ4) = _
    rw [c]
    show ((comp2D (gN 1) (iSeq (eVar 1)) (gN 2) (eVar 2) [1, 2] [2] (xs.map verD) [.dat L, .no, .no]).bnd fun zs ρ4 => .ok (v.map PyData.str ++ zs) ρ4) = _
    rw [ih]
    show Rt.ok (v.map PyData.str ++ xs.flatten.map PyData.str) _ = _
    rw [List.flatten_cons, List.map_append]
theorem union_spec {xs : List (List Str)} {S : List Str} (nd : S.Nodup) (h : ∀ z, z ∈ xs.flatten ↔ z ∈ S) (lx : xs.flatten.length ≤ 4000) (ls : S.length < 64) :
    F_union_of [.dat (.list (xs.map verD))] = .ok (.dat (verD (srt S))) [.dat (.list (xs.map verD))] := by
  have pm := addAll_perm nd h
  have fc : fSc2 (iSeq (eVar 0)) (gN 1) (iSeq (eVar 1)) (gN 2) (eVar 2) [1, 2] [2] [.dat (.list (xs.map verD)), .no, .no] = .ok (.lst ((srt S).map PyData.str)) [.dat (.list (xs.map verD)), .no, .no] := by
    unfold fSc2
    show (comp2D (gN 1) (iSeq (eVar 1)) (gN 2) (eVar 2) [1, 2] [2] (xs.map verD) [.dat (.list (xs.map verD)), .no, .no]).bnd (fun ys ρ2 => setOut [.dat (.list (xs.map verD)), .no, .no] [1, 2] ys ρ2) = _
    rw [union_comp]
    show setOut [.dat (.list (xs.map verD)), .no, .no] [1, 2] (xs.flatten.map PyData.str) [.dat (.list (xs.map verD)), .no, .no] = _
    unfold setOut
    rw [strs_map]
    dsimp only
    rw [if_pos ⟨lx, by rw [pm.length_eq]; exact ls⟩, srt_same pm]
    rfl
  have sh := lock_eq fc
  generalize xs.map verD = L at *
  refine fn_run (n := 1) (N := 3) (b := b_union_of) (ρ := [.dat (.list L), .no, .no]) rfl ?_ (fin_rt rfl)
  show b_union_of [.dat (.list L), .no, .no] = Rt.ok (Out.rt (.d (.tuple ((srt S).map PyData.str)))) _
  unfold b_union_of
  generalize fSc2 (iSeq (eVar 0)) (gN 1) (iSeq (eVar 1)) (gN 2) (eVar 2) [1, 2] [2] = FC at sh ⊢
  generalize (srt S).map PyData.str = T at sh ⊢
  refine seq_one ?_ (fun z => nomatch z)
  simp only [bRet, eN, eCons, eNil]
  rw [sh]
  rfl
end Z
namespace Z
open PySem PySem.Spec PyProof.Rows L2 Gd Q
/-! ### tokens -/
theorem len_verD (v : List Str) : lenD [verD v] = some (.int (v.length : Nat)) := by
  show some (PyData.int ((v.map PyData.str).length : Nat)) = _
  rw [List.length_map]
def tokD (os : List (List Str)) (S : List Str) : D := .tuple (os.map fun o => .int (lim o o S : Nat))
theorem enc_spec {os : List (List Str)} {S : List Str} (ho : ∀ o ∈ os, Rows o) (hS : Rows S) (ll : os.length ≤ 1000) :
    F_encode_state [.dat (histD os), .dat (verD S)] = .ok (.dat (tokD os S)) [.dat (histD os), .dat (verD S)] := by
  have c := fcomp_map (i := 2) (it := iSeq (eVar 0)) (e := eCall F_prefix_length (eCons (eVar 2) (eCons (eVar 2) (eCons (eVar 1) eNil)))) (ρ := [.dat (histD os), .dat (verD S), .no]) (ds := os.map verD)
    (fun d => match d with
      | .tuple ds => .int (lim (ds.map strOf) (ds.map strOf) S : Nat)
      | d => d) (by simp) rfl (by simp [histD]) (by rw [List.length_map]; exact ll) (fun d hd => by
      obtain ⟨v, hv, rfl⟩ := List.mem_map.mp hd
      have e := prefix_length_spec (v := v) (live := v) (w := S) (ho v hv) (ho v hv) hS
      have es : (v.map PyData.str).map strOf = v := by
        rw [List.map_map]
        exact List.map_id v
      simp [histD, e]
      simp [verD, es])
  have em : (os.map verD).map (fun d => match d with
      | .tuple ds => PyData.int (lim (ds.map strOf) (ds.map strOf) S : Nat)
      | d => d) = os.map fun o => PyData.int (lim o o S : Nat) := by
    rw [List.map_map]
    refine List.map_congr_left fun v hv => ?_
    have es : (v.map PyData.str).map strOf = v := by
      rw [List.map_map]
      exact List.map_id v
    show PyData.int (lim ((v.map PyData.str).map strOf) ((v.map PyData.str).map strOf) S : Nat) = _
    rw [es]
  rw [em] at c
  refine fn_run (n := 2) (N := 3) (b := b_encode_state) (ρ := [.dat (histD os), .dat (verD S), .no]) rfl ?_ (fin_rt rfl)
  refine seq_one ?_ (fun z => nomatch z)
  simp only [bRet, eN, eCons, eNil, eLock]
  rw [show ([Sl.dat (histD os), .dat (verD S)] ++ List.replicate (3 - 2) Sl.no) = [.dat (histD os), .dat (verD S), .no] from rfl, c]
  rfl
/-- a comprehension over pairs, in slots 2 and 3 -/
theorem comp_pair {A B : Sl} {e : Mo R} (f : D → D → D) : ∀ ps : List (D × D), (∀ p ∈ ps, e [A, B, .dat p.1, .dat p.2] = .ok (.d (f p.1 p.2)) [A, B, .dat p.1, .dat p.2]) →
    compD (g2 2 3) bYes e [2, 3] (ps.map fun p => Q.pairD p.1 p.2) [A, B, .no, .no] = .ok (ps.map fun p => f p.1 p.2) [A, B, .no, .no]
  | [], _ => rfl
  | p :: ps, h => by
    have ih := comp_pair (A := A) (B := B) (e := e) f ps fun q hq => h q (List.mem_cons_of_mem _ hq)
    have h1 := h p List.mem_cons_self
    rw [List.map_cons]
    unfold compD
    show (e [A, B, .dat p.1, .dat p.2]).bnd (fun r ρ3 => match r with
      | .d x => (compD (g2 2 3) bYes e [2, 3] (ps.map fun p => Q.pairD p.1 p.2) (wipeE ρ3 [2, 3])).bnd fun xs ρ4 => Rt.ok (x :: xs) ρ4
      | .v _ => .no) = _
    rw [h1]
    show (compD (g2 2 3) bYes e [2, 3] (ps.map fun p => Q.pairD p.1 p.2) [A, B, .no, .no]).bnd (fun xs ρ4 => Rt.ok (f p.1 p.2 :: xs) ρ4) = _
    rw [ih]
    rfl
def ordP (os : List (List Str)) (S : List Str) : List (D × D) := os.map fun o => (verD o, .int (lim o o S : Nat))
theorem zip_ord (S : List Str) : ∀ os : List (List Str), zipD (os.map verD) (os.map fun o => .int (lim o o S : Nat)) = (ordP os S).map fun p => Q.pairD p.1 p.2
  | [] => rfl
  | o :: os => by
    have ih := zip_ord S os
    show Q.pairD (verD o) (.int (lim o o S : Nat)) :: zipD (os.map verD) (os.map fun o => .int (lim o o S : Nat)) = _
    rw [ih]
    rfl
theorem pair_comp {os : List (List Str)} {S : List Str} {e : Mo R} (f : D → D → D) (ll : os.length ≤ 1000) (h : ∀ o ∈ os, e [.dat (histD os), .dat (tokD os S), .dat (verD o), .dat (.int (lim o o S : Nat))] = .ok (.d (f (verD o) (.int (lim o o S : Nat)))) [.dat (histD os), .dat (tokD os S), .dat (verD o), .dat (.int (lim o o S : Nat))]) :
    fComp (iMap zipF (eCons (eVar 0) (eCons (eVar 1) eNil))) (g2 2 3) bYes e [2, 3] [.dat (histD os), .dat (tokD os S), .no, .no] = .ok (.lst (os.map fun o => f (verD o) (.int (lim o o S : Nat)))) [.dat (histD os), .dat (tokD os S), .no, .no] := by
  have c := comp_pair (A := .dat (histD os)) (B := .dat (tokD os S)) (e := e) f (ordP os S) fun p hp => by
    obtain ⟨o, ho, rfl⟩ := List.mem_map.mp hp
    exact h o ho
  have em : (ordP os S).map (fun p => f p.1 p.2) = os.map fun o => f (verD o) (.int (lim o o S : Nat)) := by
    unfold ordP
    rw [List.map_map]
    rfl
  rw [em] at c
  refine comp_eq (ρ1 := [.dat (histD os), .dat (tokD os S), .no, .no]) (ρ2 := [.dat (histD os), .dat (tokD os S), .no, .no]) (ds := (ordP os S).map fun p => Q.pairD p.1 p.2) ?_ (by rw [List.length_map]; unfold ordP; rw [List.length_map]; exact sz1000 ll) rfl c ?_
  · rw [← zip_ord]
    rfl
  · rfl
theorem within_nat {n m : Nat} (h : n ≤ m) : F_is_integer_within [.dat (.int n), .dat (.int 0), .dat (.int m)] = .ok (.dat (.bool true)) [.dat (.int n), .dat (.int 0), .dat (.int m)] := by
  have e1 : isiD "bool" (.int (n : Nat)) = some (.bool false) := rfl
  have e2 : isiD "int" (.int (n : Nat)) = some (.bool true) := rfl
  have e3 : leD (.int 0) (.int (n : Nat)) = some (.bool true) := congrArg (fun b => some (PyData.bool b)) (decide_eq_true (by omega))
  have e4 : leD (.int (n : Nat)) (.int (m : Nat)) = some (.bool true) := congrArg (fun b => some (PyData.bool b)) (decide_eq_true (by omega))
  simp [F_is_integer_within, b_is_integer_within, bSeq, bNil, e1, e2, e3, e4, eChain, chainK]
theorem all_true : ∀ n : Nat, allD [.list (List.replicate n (.bool true))] = some (.bool true) := fun n => by
  have h : boolsD (List.replicate n (.bool true)) = some (List.replicate n true) := by
    have := bools_of (List.replicate n true)
    rw [List.map_replicate] at this
    exact this
  show Option.map (fun bs : List Bool => PyData.bool (bs.all id)) (boolsD (List.replicate n (.bool true))) = _
  rw [h]
  show some (PyData.bool ((List.replicate n true).all id)) = _
  rw [show (List.replicate n true).all id = true from List.all_eq_true.mpr fun x hx => (List.mem_replicate.mp hx).2]
theorem istok_spec {os : List (List Str)} {S : List Str} (ho : ∀ o ∈ os, o.length ≤ 24) (ll : os.length ≤ 1000) : F_is_token [.dat (histD os), .dat (tokD os S)] = .ok (.dat (.bool true)) [.dat (histD os), .dat (tokD os S)] := by
  have c := pair_comp (os := os) (S := S) (e := eCall F_is_integer_within (eCons (eVar 3) (eCons (eC (.int 0)) (eCons (eN lenD (eCons (eVar 2) eNil)) eNil)))) (fun _ _ => .bool true) ll fun o h => by
    have e1 := len_verD o
    have e2 := within_nat (lim_le o o S)
    generalize histD os = A
    generalize tokD os S = B
    generalize verD o = C at e1 ⊢
    generalize lim o o S = m at e2 ⊢
    simp [-Q.lenD, e1, e2]
  have l1 : lenD [tokD os S] = some (.int (os.length : Nat)) := by
    show some (PyData.int ((os.map fun o => PyData.int (lim o o S : Nat)).length : Nat)) = _
    rw [List.length_map]
  have l2 : lenD [histD os] = some (.int (os.length : Nat)) := by
    show some (PyData.int ((os.map verD).length : Nat)) = _
    rw [List.length_map]
  have ne : neF (.int (os.length : Nat)) (.int (os.length : Nat)) = some (.bool false) := by
    have z : ∀ a : Int, neF (.int a) (.int a) = some (.bool (!(a == a))) := fun a => rfl
    rw [z, beq_self_eq_true]
    rfl
  have it : isiD "tuple" (tokD os S) = some (.bool true) := rfl
  have ae := all_true os.length
  rw [List.map_const'] at c
  have sh := lock_eq c
  generalize List.replicate os.length (PyData.bool true) = T at sh ae
  have b1 : (bIf (bOr (bNot (asB (e1 (isiD "tuple") (eVar 1)))) (asB (e2 neF (eN lenD (eCons (eVar 1) eNil)) (eN lenD (eCons (eVar 0) eNil))))) (bSeq (bRet (eC (.bool false))) bNil) bNil) [.dat (histD os), .dat (tokD os S), .no, .no] = .ok .nx [.dat (histD os), .dat (tokD os S), .no, .no] := by
    generalize histD os = A at *
    generalize tokD os S = B at *
    exact if_f (by simp [-Q.lenD, it, l1, l2, ne]) rfl
  refine fn_run (n := 2) (N := 4) (b := b_is_token) (ρ := [.dat (histD os), .dat (tokD os S), .no, .no]) rfl ?_ (fin_rt rfl)
  generalize histD os = A at *
  generalize tokD os S = B at *
  refine seq_nx b1 (seq_one ?_ (fun z => nomatch z))
  simp only [bRet, eN, eCons, eNil]
  rw [sh]
  show (lift (allD [.list T]) [.dat A, .dat B, .no, .no]).bind (fun r ρ => Rt.ok (Out.rt r) ρ) = _
  rw [ae]
  rfl
end Z
namespace Z
open PySem PySem.Spec PyProof.Rows L2 Gd Q
/-! ### defs that may raise, step by step -/
theorem fnX_run {n N : Nat} {b : Mo Out} {as : List Sl} {o : Out} {ρ : Ev} {r : Rt Sl} (h : as.length = n) (hb : b (as ++ List.replicate (N - n) .no) = .ok o ρ) (hf : fin n ρ o = r) : fnX n N b as = r := by
  unfold fnX
  rw [if_pos h, hb]
  exact hf
/-! ### what a device is sent -/
def pg (sent p : List Str) : List Str := p.filter fun z => !sent.contains z
end Z
namespace Z
open PySem PySem.Spec PyProof.Rows L2 Gd Q
def cuts (os : List (List Str)) (S : List Str) : List (List Str) := os.map fun o => o.take (lim o o S)
theorem flat_len24 : ∀ xs : List (List Str), (∀ p ∈ xs, p.length ≤ 24) → xs.flatten.length ≤ 24 * xs.length
  | [], _ => Nat.le_refl _
  | x :: xs, h => by
    have a := h x List.mem_cons_self
    have b := flat_len24 xs fun p hp => h p (List.mem_cons_of_mem _ hp)
    rw [List.flatten_cons, List.length_append, List.length_cons]
    omega
def cutP : D → D → D
  | .tuple ds, .int i => .tuple (ds.take i.toNat)
  | _, _ => .none
structure Sent (os : List (List Str)) (S : List Str) : Prop where
  rows : Rows S
  nd : S.Nodup
  cov : ∀ z, z ∈ (cuts os S).flatten ↔ z ∈ S
  few : S.length < 64
structure Ords (os : List (List Str)) : Prop where
  rows : ∀ o ∈ os, Rows o
  len : ∀ o ∈ os, o.length ≤ 24
  few : os.length ≤ 100
theorem decode_spec {os : List (List Str)} {S : List Str} (hO : Ords os) (hS : Sent os S) : F_decode_token [.dat (histD os), .dat (tokD os S)] = .ok (.dat (verD (srt S))) [.dat (histD os), .dat (tokD os S)] := by
  have g1 := istok_spec (S := S) hO.len (Nat.le_trans hO.few (by decide))
  have c := pair_comp (os := os) (S := S) (e := eSl (eVar 2) pNo (pSo (eVar 3))) cutP (Nat.le_trans hO.few (by decide)) fun o h => by
    have e1 : cutD (verD o) none (some (lim o o S : Nat)) = some (.tuple ((o.map PyData.str).take (lim o o S))) := by
      show some (PyData.tuple (cutL (o.map PyData.str) none (some ((lim o o S : Nat) : Int)))) = _
      rw [cutL_to]
    show _ = Rt.ok (R.d (.tuple ((o.map PyData.str).take (lim o o S)))) _
    generalize histD os = A
    generalize tokD os S = B
    generalize verD o = C at e1 ⊢
    generalize lim o o S = m at e1 ⊢
    generalize (o.map PyData.str).take m = T at e1 ⊢
    simp [-Q.cutD, e1]
  have ec : (os.map fun o => cutP (verD o) (.int (lim o o S : Nat))) = (cuts os S).map verD := by
    unfold cuts
    rw [List.map_map]
    refine List.map_congr_left fun o _ => ?_
    show PyData.tuple ((o.map PyData.str).take (lim o o S)) = PyData.tuple ((o.take (lim o o S)).map PyData.str)
    rw [List.map_take]
  rw [ec] at c
  have lx : (cuts os S).flatten.length ≤ 4000 := by
    have := flat_len24 (cuts os S) fun p hp => by
      obtain ⟨o, ho, rfl⟩ := List.mem_map.mp hp
      rw [List.length_take]
      have := hO.len o ho
      omega
    have l2 : (cuts os S).length = os.length := List.length_map _
    have := hO.few
    omega
  have u := union_spec hS.nd hS.cov lx hS.few
  have sh := lock_eq c
  refine fnX_run (n := 2) (N := 4) (b := b_decode_token) (o := .rt (.d (verD (srt S)))) (ρ := [.dat (histD os), .dat (tokD os S), .no, .no]) rfl ?_ (fin_rt rfl)
  generalize verD (srt S) = T at *
  have b1 : (bIf (bNot (asB (eCall F_is_token (eCons (eVar 0) (eCons (eVar 1) eNil))))) (bSeq (bRaise "BadToken" "token" (eCons (eVar 1) eNil)) bNil) bNil) [.dat (histD os), .dat (tokD os S), .no, .no] = .ok .nx [.dat (histD os), .dat (tokD os S), .no, .no] := by
    generalize histD os = A at *
    generalize tokD os S = B at *
    exact if_f (by simp [g1]) rfl
  refine seq_nx b1 (seq_one ?_ (fun z => nomatch z))
  generalize histD os = A at *
  generalize tokD os S = B at *
  simp only [Ob.d] at sh
  generalize (cuts os S).map verD = L at *
  generalize eLock (fComp (iMap zipF (eCons (eVar 0) (eCons (eVar 1) eNil))) (g2 2 3) bYes (eSl (eVar 2) pNo (pSo (eVar 3))) [2, 3]) = M at sh ⊢
  simp [sh, u]
end Z
namespace Z
open PySem PySem.Spec PyProof.Rows L2 Gd Q
def knownD (fs : List (List Str)) : List (D × D) := fs.map fun w => (verD w, .bool true)
def kys (w : List Str) : List Key := w.map Sum.inr
theorem kys_D (w : List Str) : (kys w).map keyD = w.map PyData.str := by
  unfold kys
  rw [List.map_map]
  rfl
theorem keys_ver (w : List Str) : keysT (verD w) = some (kys w) := by
  have := keysT_D (kys w)
  rw [kys_D] at this
  exact this
theorem strs_one : ∀ {a b : List Str}, a.map PyData.str = b.map PyData.str → a = b
  | [], [], _ => rfl
  | [], _ :: _, e => nomatch e
  | _ :: _, [], e => nomatch e
  | x :: a, y :: b, e => by
    rw [List.map_cons, List.map_cons] at e
    injection e with e1 e2
    injection e1 with e1
    rw [e1, strs_one e2]
theorem kys_inj {a b : List Str} (h : kys a = kys b) : a = b := by
  have := congrArg (List.map keyD) h
  rw [kys_D, kys_D] at this
  exact strs_one this
theorem find_known (w : List Str) : ∀ fs : List (List Str), (findT (knownD fs) (kys w)).isSome = decide (w ∈ fs)
  | [] => rfl
  | v :: fs => by
    have ih := find_known w fs
    unfold findT at ih ⊢
    unfold knownD at ih ⊢
    rw [List.map_cons, List.find?_cons]
    dsimp only
    rw [keys_ver]
    by_cases e : v = w
    · subst e
      simp
    · have e' : ¬ some (kys v) = some (kys w) := fun q => e (kys_inj (Option.some.inj q))
      rw [decide_eq_false e']
      dsimp only
      rw [ih]
      have e2 : (w ∈ v :: fs) ↔ w ∈ fs := by
        rw [List.mem_cons]
        exact ⟨fun h => h.elim (fun q => absurd q.symm e) id, .inr⟩
      simp only [e2]
theorem put_known {w : List Str} {fs : List (List Str)} (n : w ∉ fs) : putT (knownD fs) (kys w) (.bool true) = knownD (fs ++ [w]) := by
  unfold putT
  rw [find_known, decide_eq_false n, if_neg Bool.false_ne_true, kys_D]
  unfold knownD
  rw [List.map_append]
  rfl
theorem known_len (fs : List (List Str)) : (knownD fs).length = fs.length := List.length_map _
theorem put_same {w : List Str} {fs : List (List Str)} (h : w ∈ fs) : putT (knownD fs) (kys w) (.bool true) = knownD fs := by
  unfold putT
  rw [find_known, decide_eq_true h, if_pos rfl]
  unfold knownD
  rw [List.map_map]
  refine List.map_congr_left fun v _ => ?_
  show (if keysT (verD v) = some (kys w) then (verD v, PyData.bool true) else (verD v, .bool true)) = _
  split <;> rfl
end Z
namespace Z
open PySem PySem.Spec PyProof.Rows L2 Gd Q
/-! ### Feed's methods -/
section
variable {μ : List Oc} {f t : Nat} {cur sto : D} {os : List (List Str)} {g : Int → D} {ls : List Int} {n d : Int}
theorem ne_ft {kvs : List (Key × Vl)} (hf : μ[f]? = some (feedO cur sto t n)) (ht : μ[t]? = some (.dk kvs)) : f ≠ t := fun z => by
  rw [z, ht] at hf
  cases hf
theorem set_get {i : Nat} {c o : Oc} (h : μ[i]? = some o) : (μ.set i c)[i]? = some c := by
  rw [List.getElem?_set_self (List.getElem?_eq_some_iff.mp h).1]
theorem set_ne {i j : Nat} {c : Oc} (h : i ≠ j) : (μ.set i c)[j]? = μ[j]? := List.getElem?_set_ne h
theorem ge40 (k : Nat) : geD (.int (k : Nat)) (.int 40) = some (.bool (decide (40 ≤ k))) := by
  have : ∀ a b : Int, geD (.int a) (.int b) = some (.bool (decide (b ≤ a))) := fun a b => rfl
  rw [this]
  congr 2
  exact decide_eq_decide.mpr (by omega)
theorem e_nil (ρ : Ev) : (eTup eNil) ρ = .ok (.d (.tuple [])) ρ := by
  have := short_ok (ds := []) (by decide)
  simp [this]
theorem open_cond {s : Ms} (e0 : s.ρ[0]? = some (.v (.o f))) (hf : s.μ[f]? = some (feedO cur sto t n)) (ht : s.μ[t]? = some (.dk (kvT g ls))) :
    asBM (e2M geD (eNM lenK (eConsM (eFldM "Feed" "tokens" (eVarM 0)) eNilM)) (eD (eC (.int 40)))) s = .ok (decide (40 ≤ ls.length)) s :=
  asbm (e2m (enm1 (fldT e0 hf) (look_kv ht) len_kv) rfl rfl rfl (ge40 _))
theorem open_ok (hf : μ[f]? = some (feedO cur (histD os) t n)) (ht : μ[t]? = some (.dk (kvT g ls))) (lt : ls.length < 40) (nn : n ∉ ls) (ho : ∀ o ∈ os, Rows o) (ll : os.length ≤ 1000) (hg : g n = tokD os []) :
    ∃ ρ', F_Feed_open_device [.o f] μ = .ok (.d (.int n)) ⟨ρ', (μ.set t (.dk (kvT g (ls ++ [n])))).set f (feedO cur (histD os) t (n + 1))⟩ := by
  have ne := ne_ft hf ht
  have en := enc_spec (os := os) (S := []) ho (fun z hz => nomatch hz) ll
  refine run_rt (n := 1) (N := 2) (b := b_Feed_open_device) rfl ?_
  apply Exists.intro
  refine mseq_nx (mif_f (by rw [open_cond rfl hf ht, decide_eq_false (by omega)]) rfl) ?_
  refine mseq_nx (mset (fldN rfl hf) (by show 1 < 2; decide)) ?_
  have ht1 : μ[t]? = some (.dk (kvT g ls)) := ht
  refine mseq_nx (mputk (t := t) (n := n) (kvs := kvT g ls) (z := .d (tokD os [])) (callO_d (s1 := ⟨[.v (.o f), .v (.d (.int n))], μ⟩) (xs := [histD os, .tuple []]) (cons2 (fldS rfl hf) (by
    show eD (eTup eNil) _ = _
    unfold eD
    rw [e_nil]
    rfl)) en rfl) (fldT rfl hf) rfl ht (by unfold kvT; rw [List.length_map]; omega)) ?_
  rw [← hg, put_kv nn]
  have hf2 : (μ.set t (.dk (kvT g (ls ++ [n]))))[f]? = some (feedO cur (histD os) t n) := by rw [set_ne (Ne.symm ne)]; exact hf
  exact mseq_nx (mfldN (n' := n + 1) rfl rfl hf2) (mseq_rt (mret rfl))
theorem open_many (hf : μ[f]? = some (feedO cur sto t n)) (ht : μ[t]? = some (.dk (kvT g ls))) (lt : 40 ≤ ls.length) : ∃ ρ', F_Feed_open_device [.o f] μ = .ex "TooMany" (errD "most" (.int 40)) ⟨ρ', μ⟩ := by
  refine run_ex (n := 1) (N := 2) (b := b_Feed_open_device) rfl ?_
  apply Exists.intro
  exact mseq_ex (mif_t (by rw [open_cond rfl hf ht, decide_eq_true lt]) (mseq_ex rfl))
theorem devices_ok (hf : μ[f]? = some (feedO cur sto t n)) (ht : μ[t]? = some (.dk (kvT g ls))) (lt : ls.length < 64) : ∃ ρ', F_Feed_devices [.o f] μ = .ok (.d (.tuple ((isrt ls).map PyData.int))) ⟨ρ', μ⟩ := by
  refine run_rt (n := 1) (N := 1) (b := b_Feed_devices) rfl ?_
  apply Exists.intro
  refine mseq_rt (mret (enm1 (lockm (fnm1 (fldT rfl hf) (look_kv ht) (sort_kv lt))) rfl ?_))
  rfl
end
end Z
namespace Z
open PySem PySem.Spec PyProof.Rows L2 Gd Q
/-! ### kept_orders -/
def keepO (acc : List (List Str)) (o : List Str) : List (List Str) := if o = [] then acc else if o ∈ acc then acc else acc ++ [o]
def kept (os : List (List Str)) : List (List Str) := os.foldl keepO []
theorem keepO_len (acc : List (List Str)) (o : List Str) : (keepO acc o).length ≤ acc.length + 1 := by
  unfold keepO
  split
  · omega
  · split
    · omega
    · rw [List.length_append, List.length_singleton]
      omega
theorem keepO_put {acc : List (List Str)} {o : List Str} (h : o ≠ []) : putT (knownD acc) (kys o) (.bool true) = knownD (keepO acc o) := by
  unfold keepO
  rw [if_neg h]
  split
  · next m => exact put_same m
  · next m => exact put_known m
theorem gt0 (o : List Str) : gtD (.int ((o.map PyData.str).length : Nat)) (.int 0) = some (.bool (!decide (o = []))) := by
  have : ∀ a b : Int, gtD (.int a) (.int b) = some (.bool (decide (b < a))) := fun a b => rfl
  rw [this, List.length_map]
  congr 2
  cases o with
  | nil => rfl
  | cons x xs =>
    rw [List.length_cons, decide_eq_true (by omega), decide_eq_false (fun z => nomatch z)]
    rfl
theorem kept_loop {L : D} : ∀ (os acc : List (List Str)), acc.length + os.length ≤ 1000 →
    dcD (gN 2) (asB (e2 gtD (eN lenD (eCons (eVar 2) eNil)) (eC (.int 0)))) (eVar 2) (eC (.bool true)) [2] (os.map verD) (knownD acc) [.dat L, .no, .no] = .ok (knownD (os.foldl keepO acc)) [.dat L, .no, .no]
  | [], acc, _ => rfl
  | o :: os, acc, l => by
    rw [List.length_cons] at l
    have ih := kept_loop (L := L) os (keepO acc o) (by have := keepO_len acc o; omega)
    have et : (asB (e2 gtD (eN lenD (eCons (eVar 2) eNil)) (eC (.int 0)))) [.dat L, .no, .dat (verD o)] = .ok (!decide (o = [])) [.dat L, .no, .dat (verD o)] := by
      have hz := gt0 o
      have hl : lenD [verD o] = some (.int ((o.map PyData.str).length : Nat)) := rfl
      rw [List.length_map] at hz hl
      generalize verD o = V at hl ⊢
      simp [-Q.lenD, hl, hz]
    rw [List.map_cons, List.foldl_cons]
    unfold dcD
    show ((asB (e2 gtD (eN lenD (eCons (eVar 2) eNil)) (eC (.int 0)))) [.dat L, .no, .dat (verD o)]).bnd _ = _
    rw [et]
    dsimp only [Rt.bnd]
    by_cases h : o = []
    · rw [decide_eq_true h, if_neg (by decide)]
      have e : keepO acc o = acc := by
        unfold keepO
        rw [if_pos h]
      rw [e] at ih
      rw [e]
      exact ih
    · rw [decide_eq_false h, if_pos (by decide)]
      show (match (some (verD o)).bind keysT, R.d (PyData.bool true) with
        | some ks, .d x => if (knownD acc).length < sizeLine then dcD (gN 2) (asB (e2 gtD (eN lenD (eCons (eVar 2) eNil)) (eC (.int 0)))) (eVar 2) (eC (.bool true)) [2] (os.map verD) (putT (knownD acc) ks x) (wipeE [.dat L, .no, .dat (verD o)] [2]) else .no
        | _, _ => .no : Rt (List (D × D))) = _
      rw [Option.bind_some, keys_ver]
      dsimp only
      rw [if_pos (Nat.lt_of_le_of_lt (show (knownD acc).length ≤ 1000 by rw [known_len]; omega) (by decide)), keepO_put h]
      exact ih
theorem kept_spec {os : List (List Str)} (l : os.length ≤ 1000) : F_kept_orders [.dat (.list (os.map verD))] = .ok (.dat (histD (kept os))) [.dat (.list (os.map verD))] := by
  have e := kept_loop (L := .list (os.map verD)) os [] (by simpa using l)
  have fc : fDcT (iSeq (eVar 0)) (gN 2) (asB (e2 gtD (eN lenD (eCons (eVar 2) eNil)) (eC (.int 0)))) (eVar 2) (eC (.bool true)) [2] [.dat (.list (os.map verD)), .no, .no] = .ok (.dt (knownD (kept os))) [.dat (.list (os.map verD)), .no, .no] := by
    unfold fDcT
    show (dcD (gN 2) (asB (e2 gtD (eN lenD (eCons (eVar 2) eNil)) (eC (.int 0)))) (eVar 2) (eC (.bool true)) [2] (os.map verD) (knownD []) [.dat (.list (os.map verD)), .no, .no]).bnd (fun kv ρ2 => Rt.ok (Ob.dt kv) (mixE [.dat (.list (os.map verD)), .no, .no] ρ2 [2])) = _
    rw [e]
    rfl
  refine fn_run (n := 1) (N := 3) (b := b_kept_orders) (o := .rt (.d (histD (kept os)))) (ρ := [.dat (.list (os.map verD)), .own (.dt (knownD (kept os))), .no]) rfl ?_ (fin_rt rfl)
  have ek : (knownD (kept os)).map Prod.fst = (kept os).map verD := by
    unfold knownD
    rw [List.map_map]
    rfl
  refine seq_nx (ρ1 := [.dat (.list (os.map verD)), .own (.dt (knownD (kept os))), .no]) ?_ (seq_one ?_ (fun z => nomatch z))
  · show bSetF 1 (fDcT (iSeq (eVar 0)) (gN 2) (asB (e2 gtD (eN lenD (eCons (eVar 2) eNil)) (eC (.int 0)))) (eVar 2) (eC (.bool true)) [2]) [.dat (.list (os.map verD)), .no, .no] = _
    generalize fDcT (iSeq (eVar 0)) (gN 2) (asB (e2 gtD (eN lenD (eCons (eVar 2) eNil)) (eC (.int 0)))) (eVar 2) (eC (.bool true)) [2] = FC at fc ⊢
    simp [fc]
  · show Rt.ok (Out.rt (.d (.tuple ((knownD (kept os)).map Prod.fst)))) _ = _
    rw [ek]
    rfl
end Z
namespace Z
open PySem PySem.Spec PyProof.Rows L2 Gd Q
/-! ### texts of plain signs -/
def Asc (z : Str) : Prop := ∀ c ∈ z.cps.toList, c < 128
theorem Asc.sub {a b : Str} (h : Asc a) (hs : ∀ c ∈ b.cps.toList, c ∈ a.cps.toList) : Asc b := fun c hc => h c (hs c hc)
theorem cut_mem {z : Str} {l h : Option Int} : ∀ c ∈ (cutS z l h).cps.toList, c ∈ z.cps.toList := by
  intro c hc
  unfold cutS at hc
  simp only [] at hc
  exact List.mem_of_mem_drop (List.mem_of_mem_take (by simpa using hc))
theorem Asc.cut {z : Str} {l h : Option Int} (a : Asc z) : Asc (cutS z l h) := a.sub cut_mem
theorem Asc.upper {z : Str} (a : Asc z) : Asc (Txt.upper z) := by
  rw [upper_ascii a]
  intro c hc
  have hc : c ∈ (z.cps.map up1).toList := hc
  rw [Array.toList_map] at hc
  obtain ⟨k, hk, rfl⟩ := List.mem_map.mp hc
  have := a k hk
  unfold up1
  split <;> omega
end Z
namespace Z
open PySem PySem.Spec PyProof.Rows L2 Gd Q
def isStrD : D → Bool
  | .str _ => true
  | _ => false
theorem isi_str (d : D) : isiD "str" d = some (.bool (isStrD d)) := by
  unfold isiD
  cases d with
  | dict kvs =>
    have : ∀ k : String, k ∈ ["list", "tuple", "dict"] → isiB "str" k = false := by decide +kernel
    have hk : kind (.dict kvs) ∈ ["list", "tuple", "dict"] := by
      unfold kind
      split <;> first | contradiction | simp
    rw [this _ hk]
    rfl
  | _ => rfl
theorem le_int (a b : Int) : leD (.int a) (.int b) = some (.bool (decide (a ≤ b))) := rfl
theorem all_bools {bs : List Bool} : allD [.list (bs.map PyData.bool)] = some (.bool (bs.all id)) := by
  show Option.map (fun bs : List Bool => PyData.bool (bs.all id)) (boolsD (bs.map PyData.bool)) = _
  rw [bools_of]
  rfl
theorem len_ver (w : List Str) : lenD [verD w] = some (.int (w.length : Nat)) := by
  show some (PyData.int ((w.map PyData.str).length : Nat)) = _
  rw [List.length_map]
end Z
namespace Z
open PySem PySem.Spec PyProof.Rows L2 Gd Q
/-! ### rows -/
def letB (c : Nat) : Bool := decide (97 ≤ c) && decide (c ≤ 122)
def rowB : D → Bool
  | .str z => decide (1 ≤ z.length) && decide (z.length ≤ 8) && z.cps.toList.all letB
  | _ => false
theorem one_lt (c d : Nat) : decide ([c] < [d]) = decide (c < d) := by
  rw [← ltCps_eq]
  show (decide (c < d) || (c == d && false)) = decide (c < d)
  rw [Bool.and_false, Bool.or_false]
theorem le_a (c : Nat) : leD (.str "a") (sign c) = some (.bool (decide (97 ≤ c))) := by
  show some (PyData.bool (!decide ([c] < [97]))) = _
  rw [one_lt]
  by_cases h : 97 ≤ c
  · rw [decide_eq_true h, decide_eq_false (by omega)]
    rfl
  · rw [decide_eq_false h, decide_eq_true (by omega)]
    rfl
theorem le_z (c : Nat) : leD (sign c) (.str "z") = some (.bool (decide (c ≤ 122))) := by
  show some (PyData.bool (!decide ([122] < [c]))) = _
  rw [one_lt]
  by_cases h : c ≤ 122
  · rw [decide_eq_true h, decide_eq_false (by omega)]
    rfl
  · rw [decide_eq_false h, decide_eq_true (by omega)]
    rfl
def signB : D → Bool
  | .str z => z.cps.toList.all letB
  | _ => false
theorem sign_let (c : Nat) : signB (sign c) = letB c := by
  show ([c].all letB) = letB c
  simp
noncomputable def row1 : Mo Out := (bIf (bOr (bNot (asB (e1 (isiD "str") (eVar 0)))) (bNot (asB (eChain leD leD (eC (.int 1)) (eN lenD (eCons (eVar 0) eNil)) (eC (.int 8)))))) (bSeq (bRet (eC (.bool false))) bNil) bNil)
theorem is_row_spec {d : D} (hz : ∀ z, d = .str z → z.length ≤ 1000000) : F_is_row [.dat d] = .ok (.dat (.bool (rowB d))) [.dat d] := by
  have q1 := isi_str d
  have no : isStrD d = false → F_is_row [.dat d] = .ok (.dat (.bool false)) [.dat d] := fun h => by
    rw [h] at q1
    refine fn_run (n := 1) (N := 2) (b := b_is_row) (ρ := [.dat d, .no]) rfl ?_ (fin_rt rfl)
    exact seq_one (if_t (by simp [q1]) (seq_one rfl (fun z => nomatch z))) (fun z => nomatch z)
  cases d with
  | str z =>
    have q1 : isiD "str" (.str z) = some (.bool true) := q1
    have ll : z.length ≤ sizeLine := Nat.le_trans (hz z rfl) (by decide)
    have l1 : lenD [.str z] = some (.int z.length) := if_pos ll
    have a1 := le_int 1 (z.length : Nat)
    have a2 := le_int (z.length : Nat) 8
    have rn : ∀ b, (b_is_row [.dat (.str z), .no] = .ok (.rt (.d (.bool b))) [.dat (.str z), .no]) → rowB (.str z) = b → F_is_row [.dat (.str z)] = .ok (.dat (.bool (rowB (.str z)))) [.dat (.str z)] := fun b h e => by
      rw [e]
      exact fn_run (n := 1) (N := 2) (b := b_is_row) (ρ := [.dat (.str z), .no]) rfl h (fin_rt rfl)
    by_cases h1 : 1 ≤ z.length
    · by_cases h2 : z.length ≤ 8
      · rw [decide_eq_true (by omega)] at a1 a2
        refine rn (z.cps.toList.all letB) ?_ (by unfold rowB; simp [h1, h2])
        refine seq_nx (if_f (by simp [q1, ll, eChain, chainK, a1, a2]) rfl) (seq_one ?_ (fun z => nomatch z))
        have fc := fcomp_map (i := 1) (it := iSeq (eVar 0)) (e := eChain leD leD (eC (.str "a")) (eVar 1) (eC (.str "z"))) (ρ := [.dat (.str z), .no]) (ds := z.cps.toList.map sign) (fun d => .bool (signB d)) (by show 1 < 2; decide) rfl (by simp [iterD]) (by rw [List.length_map, len_cps]; omega) (fun d hd => by
          obtain ⟨c, _, rfl⟩ := List.mem_map.mp hd
          rw [sign_let]
          have b1 := le_a c
          have b2 := le_z c
          unfold letB
          generalize sign c = S at b1 b2 ⊢
          by_cases h : 97 ≤ c
          · rw [decide_eq_true h] at b1 ⊢
            simp [eChain, chainK, b1, b2]
          · rw [decide_eq_false h] at b1 ⊢
            simp [eChain, chainK, b1])
        have ab := all_bools (bs := z.cps.toList.map letB)
        rw [List.map_map] at fc
        rw [List.map_map] at ab
        have e1 : ((fun d => PyData.bool (signB d)) ∘ sign) = (PyData.bool ∘ letB) := by
          funext c
          exact congrArg PyData.bool (sign_let c)
        rw [e1] at fc
        have e2 : (z.cps.toList.map letB).all id = z.cps.toList.all letB := by
          rw [List.all_map]
          rfl
        rw [e2] at ab
        generalize hL : z.cps.toList.map (PyData.bool ∘ letB) = L at fc ab
        generalize fComp (iSeq (eVar 0)) (gN 1) bYes (eChain leD leD (eC (.str "a")) (eVar 1) (eC (.str "z"))) [1] = FC at fc ⊢
        simp [fc, ab]
      · refine rn false ?_ (by unfold rowB; simp [h2])
        rw [decide_eq_true (by omega)] at a1
        rw [decide_eq_false (by omega)] at a2
        exact seq_one (if_t (by simp [q1, ll, eChain, chainK, a1, a2]) (seq_one rfl (fun z => nomatch z))) (fun z => nomatch z)
    · refine rn false ?_ (by unfold rowB; simp [h1])
      rw [decide_eq_false (by omega)] at a1
      exact seq_one (if_t (by simp [q1, ll, eChain, chainK, a1]) (seq_one rfl (fun z => nomatch z))) (fun z => nomatch z)
  | _ => exact no rfl
end Z
namespace Z
open PySem PySem.Spec PyProof.Rows L2 Gd Q
theorem rowB_row {z : Str} (h : RowS z) : rowB (.str z) = true := by
  show (decide (1 ≤ z.length) && decide (z.length ≤ 8) && z.cps.toList.all letB) = true
  rw [decide_eq_true h.1, decide_eq_true h.2.1]
  simp only [Bool.true_and]
  refine List.all_eq_true.mpr fun c hc => ?_
  have := h.2.2 c hc
  unfold letB
  rw [decide_eq_true this.1, decide_eq_true this.2]
  rfl
theorem row_yes {z : Str} (h : RowS z) : F_is_row [.dat (.str z)] = .ok (.dat (.bool true)) [.dat (.str z)] := by
  have := is_row_spec (d := .str z) (fun y e => by injection e with e; rw [← e]; have := h.2.1; omega)
  rw [rowB_row h] at this
  exact this
theorem version_yes {w : List Str} (hw : Rows w) (nd : w.Nodup) (l : w.length ≤ 24) : F_is_version [.dat (verD w)] = .ok (.dat (.bool true)) [.dat (verD w)] := by
  have fc := lock_eq (fcomp_map (i := 1) (it := iSeq (eVar 0)) (e := eCall F_is_row (eCons (eVar 1) eNil)) (ρ := [.dat (verD w), .no]) (ds := w.map PyData.str) (fun _ => .bool true) (by show 1 < 2; decide) rfl rfl (by rw [List.length_map]; omega) (fun d hd => by
    obtain ⟨z, hz, rfl⟩ := List.mem_map.mp hd
    have := row_yes (hw z hz)
    generalize verD w = W at *
    simp [this]))
  simp only [Ob.d] at fc
  have ab := all_bools (bs := (w.map PyData.str).map fun _ => true)
  rw [List.map_map] at ab
  have ea : ((w.map PyData.str).map fun _ => true).all id = true := by
    rw [List.all_map]
    simp
  rw [ea] at ab
  have ab : allD [.list ((w.map PyData.str).map fun _ => .bool true)] = some (.bool true) := ab
  have ln := len_ver w
  have g1 := gt_int (w.length : Nat) 24
  rw [decide_eq_false (by omega)] at g1
  have ld : lenSetD (verD w) = some (.int (w.length : Nat)) := by
    show (strsD (w.map PyData.str)).bind _ = _
    rw [strsD_of]
    have e : M.dcount [] w = w.length := by
      have := M.dcount_all w
      rw [decide_eq_true nd] at this
      exact of_decide_eq_true this
    have h2 : (if w.length ≤ 1000000 then some (PyData.int ((M.dcount [] w : Nat) : Int)) else none) = some (.int (w.length : Nat)) := by
      rw [if_pos (by omega), e]
    first | exact h2 | (show (if _ then _ else _) = _; rw [if_pos (by omega), e])
  have q := eq_int ((w.length : Nat) : Int) ((w.length : Nat) : Int)
  rw [beq_self_eq_true] at q
  have tp : isiD "tuple" (verD w) = some (.bool true) := rfl
  refine fn_run (n := 1) (N := 2) (b := b_is_version) (o := .rt (.d (.bool true))) (ρ := [.dat (verD w), .no]) rfl ?_ (fin_rt rfl)
  unfold b_is_version
  generalize eLock (fComp (iSeq (eVar 0)) (gN 1) bYes (eCall F_is_row (eCons (eVar 1) eNil)) [1]) = M at *
  generalize ((w.map PyData.str).map fun _ => PyData.bool true) = L at *
  generalize ((w.length : Nat) : Int) = N at *
  generalize verD w = W at *
  refine seq_nx (if_f (by simp [-Q.lenD, tp, ln, g1]) rfl) (seq_one ?_ fun z => nomatch z)
  simp [-Q.lenD, -Q.allD, fc, ab, ld, ln, q]
end Z
namespace Z
open PySem PySem.Spec PyProof.Rows L2 Gd Q
structure Rf (k : Nat) (d : D) : Prop where
  lay : d.canLay0 = true
  dep : d.depth ≤ k
  eq : PyData.eqv d d = true
theorem Rf.shaped {k : Nat} {d : D} (h : Rf k d) (hk : k ≤ 64) : SeqAt.shaped d = true := by
  unfold SeqAt.shaped
  rw [Bool.and_eq_true]
  exact ⟨h.lay, decide_eq_true (Nat.le_trans h.dep hk)⟩
theorem Rf.same {k : Nat} {d : D} (h : Rf k d) (hk : k ≤ 64) : eqD d d = some true := by
  unfold eqD
  rw [if_pos ⟨h.shaped hk, h.shaped hk⟩, h.eq]
theorem Rf.ne {k : Nat} {d : D} (h : Rf k d) (hk : k ≤ 64) : neF d d = some (.bool false) := by
  unfold neF
  rw [h.same hk]
  rfl
theorem Rf.eqF {k : Nat} {d : D} (h : Rf k d) (hk : k ≤ 64) : Q.eqF d d = some (.bool true) := by
  unfold Q.eqF
  rw [h.same hk]
  rfl
theorem Rf.all {k : Nat} : ∀ {ds : List D}, (∀ d ∈ ds, Rf k d) → PyData.canLayAll0 ds = true ∧ PyData.depthAll ds ≤ k ∧ PyData.eqvAll ds ds = true
  | [], _ => ⟨rfl, Nat.zero_le _, rfl⟩
  | d :: ds, h => by
    obtain ⟨a, b, c⟩ := Rf.all fun x hx => h x (List.mem_cons_of_mem _ hx)
    have hd := h d List.mem_cons_self
    refine ⟨?_, Nat.max_le.mpr ⟨hd.dep, b⟩, ?_⟩
    · show (d.canLay0 && PyData.canLayAll0 ds) = true
      rw [hd.lay, a]
      rfl
    · show (PyData.eqv d d && PyData.eqvAll ds ds) = true
      rw [hd.eq, c]
      rfl
theorem Rf.tup {k : Nat} {ds : List D} (h : ∀ d ∈ ds, Rf k d) : Rf (k + 1) (.tuple ds) := by
  obtain ⟨a, b, c⟩ := Rf.all h
  exact ⟨a, Nat.succ_le_succ b, c⟩
theorem Rf.lst {k : Nat} {ds : List D} (h : ∀ d ∈ ds, Rf k d) : Rf (k + 1) (.list ds) := by
  obtain ⟨a, b, c⟩ := Rf.all h
  exact ⟨a, Nat.succ_le_succ b, c⟩
theorem Rf.up {k k' : Nat} {d : D} (h : Rf k d) (le : k ≤ k') : Rf k' d := ⟨h.lay, Nat.le_trans h.dep le, h.eq⟩
theorem Rf.str {z : Str} (h : PyData.strOk z = true) : Rf 0 (.str z) := ⟨h, Nat.le_refl _, by rw [eqv_str, beq_self_eq_true]⟩
theorem Rf.row {z : Str} (h : RowS z) : Rf 0 (.str z) := Rf.str h.ok
theorem Rf.bool (b : Bool) : Rf 0 (.bool b) := ⟨rfl, Nat.le_refl _, by cases b <;> rfl⟩
theorem Rf.none : Rf 0 .none := ⟨rfl, Nat.le_refl _, rfl⟩
theorem Rf.ver {w : List Str} (h : Rows w) : Rf 1 (verD w) := Rf.tup fun d hd => by
  obtain ⟨z, hz, rfl⟩ := List.mem_map.mp hd
  exact Rf.row (h z hz)
section
variable {hs : List (List Str)} {last : List Str}
end
section
variable {hs : List (List Str)} {last : List Str} {ps : List (List Str)} {a b : Mp} {L H : Nat → Prop}
end
end Z
namespace Z
open PySem PySem.Spec PyProof.Rows L2 Gd Q
section
variable {μ : List Oc} {f t : Nat} {cur sto : D} {os : List (List Str)} {g : Int → D} {ls : List Int} {n d : Nat}
theorem nin0 {s : Ms} {i : Nat} {x : D} (h : s.ρ[i]? = some (.v (.d x))) : eD (eVar i) s = .ok (.d x) s := by
  have e : (oldE s)[i]? = some (.dat x) := by
    show (s.ρ.map Sm.old)[i]? = _
    rw [List.getElem?_map, h]
    rfl
  unfold eD
  have e2 : eVar i (oldE s) = .ok (.d x) (oldE s) := by
    unfold eVar
    rw [e]
  rw [e2]
theorem require_cond (hf : μ[f]? = some (feedO cur sto t n)) (ht : μ[t]? = some (.dk (kvT g ls))) (hd : (d : Int) ∈ ls) (le : d ≤ n) : ∃ ρ', F_Feed_require_device [.o f, .d (.int d)] μ = .ok (.d .none) ⟨ρ', μ⟩ := by
  have w := within_nat le
  refine run_nx (n := 2) (N := 2) (b := b_Feed_require_device) rfl ?_
  apply Exists.intro
  refine mseq_nx (mif_f (s1 := ⟨[.v (.o f), .v (.d (.int d))], μ⟩) (borm_f (bnotm (t := true) (asbm (callO_d (xs := [.int d, .int 0, .int n]) (cons3 (nin0 rfl) rfl (fldN rfl hf)) w rfl))) (asbm (e2m (nin0 rfl) (fldT rfl hf) rfl (look_kv ht) (by rw [nin_kv, decide_eq_true hd]; rfl)))) rfl) rfl
theorem token_ok (hf : μ[f]? = some (feedO cur sto t n)) (ht : μ[t]? = some (.dk (kvT g ls))) (hd : (d : Int) ∈ ls) (le : d ≤ n) : ∃ ρ', F_Feed_token_of [.o f, .d (.int d)] μ = .ok (.d (g d)) ⟨ρ', μ⟩ := by
  obtain ⟨ρ1, hr⟩ := require_cond hf ht hd le
  refine run_rt (n := 2) (N := 2) (b := b_Feed_token_of) rfl ?_
  apply Exists.intro
  refine mseq_nx (mex (meth_ok rfl hf rfl (cons1 (nin0 rfl)) hr)) (mseq_rt (mret (getm (fldT rfl hf) (nin0 rfl) ht (val_kv hd))))
theorem state_ok {S : List Str} (hf : μ[f]? = some (feedO cur (histD os) t n)) (ht : μ[t]? = some (.dk (kvT g ls))) (hd : (d : Int) ∈ ls) (le : d ≤ n) (hO : Ords os) (hS : Sent os S) (hg : g d = tokD os S) : ∃ ρ', F_Feed_state_of [.o f, .d (.int d)] μ = .ok (.d (verD (srt S))) ⟨ρ', μ⟩ := by
  obtain ⟨ρ1, hr⟩ := token_ok hf ht hd le
  have e := decode_spec hO hS
  rw [hg] at hr
  refine run_rt (n := 2) (N := 2) (b := b_Feed_state_of) rfl ?_
  apply Exists.intro
  exact mseq_rt (mret (callOX_d (xs := [histD os, tokD os S]) (cons2 (fldS rfl hf) (meth_ok rfl hf rfl (cons1 (nin0 rfl)) hr)) e rfl))
theorem close_ok (hf : μ[f]? = some (feedO cur sto t n)) (ht : μ[t]? = some (.dk (kvT g ls))) (hd : (d : Int) ∈ ls) (le : d ≤ n) : ∃ ρ', F_Feed_close_device [.o f, .d (.int d)] μ = .ok (.d .none) ⟨ρ', μ.set t (.dk (kvT g (ls.filter fun i => decide (i ≠ d))))⟩ := by
  obtain ⟨ρ1, hr⟩ := require_cond hf ht hd le
  refine run_nx (n := 2) (N := 2) (b := b_Feed_close_device) rfl ?_
  apply Exists.intro
  have e := mdelk (s := ⟨[.v (.o f), .v (.d (.int d))], μ⟩) (mo := eFldM "Feed" "tokens" (eVarM 0)) (mk := eD (eVar 1)) (fldT rfl hf) (nin0 rfl) ht (by rw [val_kv hd]; rfl)
  rw [drop_kv] at e
  exact mseq_nx (mex (meth_ok rfl hf rfl (cons1 (nin0 rfl)) hr)) (mseq_nx e rfl)
end
/-! ### Feed(v) -/
theorem mfldG {s s1 : Ms} {f : Nat} {fs : List (Str × Vl)} {c k : Str} {y : Vl} {mv mo : MoM Vl} (ev : mv s = .ok y s1) (eo : mo s1 = .ok (.o f) s1) (hf : s1.μ[f]? = some (.ins c fs)) (l : fs.length < 1000) : mFld c k mv mo s = .ok .nx ⟨s1.ρ, s1.μ.set f (.ins c (putFM k y fs))⟩ := by
  unfold mFld
  rw [ev]
  show (mo s1).bind _ = _
  rw [eo]
  show (match s1.μ[f]? with
    | some (.ins c' fs) => if c' = c ∧ fs.length < 1000 then .ok .nx ⟨s1.ρ, s1.μ.set f (.ins c' (putFM k y fs))⟩ else .no
    | _ => .no : RtM OutM) = _
  rw [hf]
  dsimp only
  rw [if_pos ⟨rfl, l⟩]
section
variable {μ : List Oc} {f : Nat} {v : List Str}
theorem init_ok (hf : μ[f]? = some (.ins "Feed" [])) (hv : Rows v) (nd : v.Nodup) (l : v.length ≤ 24) :
    ∃ ρ', F_Feed___init__ [.o f, .d (verD v)] μ = .ok (.d .none) ⟨ρ', (μ ++ [Oc.dk []]).set f (feedO (verD v) (histD (kept [v])) μ.length 0)⟩ := by
  have ev := version_yes hv nd l
  have ek := kept_spec (os := [v]) (by show 1 ≤ 1000; decide)
  have sh := short_ok (ds := [verD v]) (by show 1 ≤ 1000; decide)
  have lt := (List.getElem?_eq_some_iff.mp hf).1
  refine run_nx (n := 2) (N := 2) (b := b_Feed___init__) rfl ?_
  apply Exists.intro
  have c0 : bD (bNot (asB (eCall F_is_version (eCons (eVar 1) eNil)))) ⟨[.v (.o f), .v (.d (verD v))], μ⟩ = .ok false ⟨[.v (.o f), .v (.d (verD v))], μ⟩ := by
    have : (bNot (asB (eCall F_is_version (eCons (eVar 1) eNil)))) [.no, .dat (verD v)] = .ok false [.no, .dat (verD v)] := by
      generalize verD v = V at ev ⊢
      simp [ev]
    unfold bD
    show (match (bNot (asB (eCall F_is_version (eCons (eVar 1) eNil)))) [.no, .dat (verD v)] with
      | .ok b _ => RtM.ok b _
      | .ex c d _ => .ex c d _
      | _ => .no) = _
    rw [this]
  have c1 : eD (eCall F_kept_orders (eCons (eLock (fLst (eCons (eVar 1) eNil))) eNil)) ⟨[.v (.o f), .v (.d (verD v))], μ.set f (.ins "Feed" [("current", .d (verD v))])⟩ = .ok (.d (histD (kept [v]))) ⟨[.v (.o f), .v (.d (verD v))], μ.set f (.ins "Feed" [("current", .d (verD v))])⟩ := by
    have : (eCall F_kept_orders (eCons (eLock (fLst (eCons (eVar 1) eNil))) eNil)) [.no, .dat (verD v)] = .ok (.d (histD (kept [v]))) [.no, .dat (verD v)] := by
      have ek : F_kept_orders [.dat (.list [verD v])] = .ok (.dat (histD (kept [v]))) [.dat (.list [verD v])] := ek
      generalize verD v = V at ek sh ⊢
      generalize histD (kept [v]) = H at ek ⊢
      simp [ek, sh]
    unfold eD
    show (match (eCall F_kept_orders (eCons (eLock (fLst (eCons (eVar 1) eNil))) eNil)) [.no, .dat (verD v)] with
      | .ok (.d x) _ => RtM.ok (Vl.d x) _
      | .ex c d _ => .ex c d _
      | _ => .no) = _
    rw [this]
  refine mseq_nx (mif_f c0 rfl) ?_
  refine mseq_nx (mfldG (f := f) (nin0 rfl) rfl hf (by show 0 < 1000; decide)) ?_
  have g1 : (μ.set f (Oc.ins "Feed" [("current", Vl.d (verD v))]))[f]? = some (Oc.ins "Feed" [("current", Vl.d (verD v))]) := set_get hf
  refine mseq_nx (mfldG (f := f) c1 rfl g1 (by show 1 < 1000; decide)) ?_
  have p2 : (putFM "stored" (Vl.d (histD (kept [v]))) [(("current" : Str), (.d (verD v) : Vl))] : List (Str × Vl)) = [(("current" : Str), Vl.d (verD v)), ("stored", .d (histD (kept [v])))] := by simp [putFM, neCS]
  rw [p2]
  have g2 := set_get (c := Oc.ins "Feed" [("current", Vl.d (verD v)), ("stored", Vl.d (histD (kept [v])))]) g1
  rw [List.set_set] at g2
  refine mseq_nx (mfldG (s1 := ⟨[.v (.o f), .v (.d (verD v))], μ.set f (.ins "Feed" [("current", .d (verD v)), ("stored", .d (histD (kept [v])))]) ++ [Oc.dk []]⟩) (f := f) (y := .o μ.length) ?_ rfl (by rw [List.getElem?_append_left (by rw [List.length_set]; exact lt)]; exact g2) (by show 2 < 1000; decide)) ?_
  · have := newm (s := ⟨[.v (.o f), .v (.d (verD v))], μ.set f (.ins "Feed" [("current", .d (verD v)), ("stored", .d (histD (kept [v])))])⟩) (m := fD fNewD) (c := .dk []) rfl
    rw [List.length_set] at this
    rw [List.set_set]
    exact this
  have p3 : (putFM "tokens" (Vl.o μ.length) [(("current" : Str), (.d (verD v) : Vl)), ("stored", .d (histD (kept [v])))] : List (Str × Vl)) = [(("current" : Str), Vl.d (verD v)), ("stored", .d (histD (kept [v]))), ("tokens", .o μ.length)] := by simp [putFM, neCT, neST]
  rw [p3, List.set_append_left _ _ (by rw [List.length_set]; exact lt), List.set_set]
  have lt2 : f < (μ.set f (Oc.ins "Feed" [("current", .d (verD v)), ("stored", .d (histD (kept [v]))), ("tokens", .o μ.length)])).length := by rw [List.length_set]; exact lt
  refine mseq_nx (mfldG (y := .d (.int 0)) (f := f) rfl rfl (fs := [("current", .d (verD v)), ("stored", .d (histD (kept [v]))), ("tokens", .o μ.length)]) (by rw [List.getElem?_append_left lt2, List.getElem?_set_self lt]) (by show 3 < 1000; decide)) ?_
  have p4 : (putFM "next_number" (Vl.d (.int 0)) [(("current" : Str), (.d (verD v) : Vl)), ("stored", .d (histD (kept [v]))), ("tokens", .o μ.length)] : List (Str × Vl)) = [(("current" : Str), Vl.d (verD v)), ("stored", .d (histD (kept [v]))), ("tokens", .o μ.length), ("next_number", .d (.int 0))] := by simp [putFM, neCN, neSN, neTN]
  rw [p4, List.set_append_left _ _ lt2, List.set_set]
  show RtM.ok OutM.nx _ = _
  rw [List.set_append_left _ _ lt]
end
end Z
namespace Z
open PySem PySem.Spec PyProof.Rows L2 Gd Q
theorem Rf.int (i : Int) : Rf 0 (.int i) := ⟨rfl, Nat.le_refl _, by simp [PyData.eqv]⟩
theorem Rf.ints (ls : List Int) : Rf 1 (.tuple (ls.map PyData.int)) := Rf.tup fun d hd => by
  obtain ⟨i, _, rfl⟩ := List.mem_map.mp hd
  exact Rf.int i
theorem Sh.nat2 {n : Nat} (h : n ≤ 200) : Sh 3 0 (.int n) := by
  have go : ∀ n : Fin 201, (PyData.int ((n : Nat) : Int)).showable = true ∧ (PyData.int ((n : Nat) : Int)).shown.length ≤ 3 := by decide +kernel
  obtain ⟨h1, h2⟩ := go ⟨n, by omega⟩
  exact ⟨h1, rfl, Nat.le_refl _, h2⟩
theorem lim_nil (o : List Str) : lim o o [] = 0 := by
  unfold lim
  cases o with
  | nil => rfl
  | cons z o =>
    rw [List.findIdx?_cons]
    have : (!([] : List Str).contains z && (z :: o).contains z) = true := by simp
    rw [if_pos this]
    rfl
theorem tok_nil (os : List (List Str)) : tokD os [] = .tuple (os.map fun _ => .int 0) := by
  unfold tokD
  congr 1
  exact List.map_congr_left fun o _ => by rw [lim_nil]; rfl
theorem sum_nil (os : List (List Str)) : sumD [tokD os []] = some (.int 0) := by
  rw [tok_nil]
  have e : os.map (fun _ => PyData.int 0) = (os.map fun _ => (0 : Int)).map PyData.int := by
    rw [List.map_map]
    rfl
  rw [e]
  show (intsD ((os.map fun _ => (0 : Int)).map PyData.int)).map (fun ns => PyData.int ns.sum) = _
  rw [intsD_map]
  have z : (os.map fun _ => (0 : Int)).sum = 0 := by
    induction os with
    | nil => rfl
    | cons o os ih =>
      rw [List.map_cons, List.sum_cons, ih (by rw [List.map_map]; rfl)]
      rfl
  rw [Option.map_some, z]
theorem sent_nil (os : List (List Str)) : Sent os [] := by
  refine ⟨fun z hz => (nomatch hz), List.nodup_nil, fun z => ⟨fun h => ?_, fun h => (nomatch h)⟩, by decide⟩
  obtain ⟨p, hp, hz⟩ := List.mem_flatten.mp h
  obtain ⟨o, _, rfl⟩ := List.mem_map.mp hp
  rw [lim_nil] at hz
  cases hz
section
variable {μ : List Oc} {f t : Nat} {cur : D} {os : List (List Str)} {g : Int → D} {ls : List Int} {n : Nat}
theorem opened_many {sto : D} (hf : μ[f]? = some (feedO cur sto t n)) (ht : μ[t]? = some (.dk (kvT g ls))) (lt : 40 ≤ ls.length) : ∃ ρ', F__law_opened [.o f] μ = .ok (.d (.tuple [.str "many", .int 40])) ⟨ρ', μ⟩ := by
  obtain ⟨ρ1, h⟩ := open_many hf ht lt
  have sh := short_ok (ds := [.none, .none]) (by show 2 ≤ 1000; decide)
  have sh2 := short_ok (ds := [.str "many", .int 40]) (by show 2 ≤ 1000; decide)
  refine run_rt (n := 1) (N := 4) (b := b__law_opened) rfl ?_
  refine ⟨[.v (.o f), .v (.d .none), .exc "TooMany" "most" (.int 40), .no], ?_⟩
  refine mseq_nx (s1 := ⟨[.v (.o f), .v (.d .none), .v (.d .none), .no], μ⟩) (by simp [sh]) ?_
  have m := meth_ex (s := ⟨[.v (.o f), .v (.d .none), .v (.d .none), .no], μ⟩) (mo := eVarM 0) (ma := eNilM) (mt := "open_device") rfl hf rfl rfl h
  refine mseq_nx (s1 := ⟨[.v (.o f), .v (.d .none), .exc "TooMany" "most" (.int 40), .no], μ⟩) ?_ ?_
  · unfold mTry
    rw [mseq_ex (mset_ex m)]
    rfl
  · refine mseq_nx (mif_f (s1 := ⟨[.v (.o f), .v (.d .none), .exc "TooMany" "most" (.int 40), .no], μ⟩) (by simp) rfl) (mseq_rt (mret ?_))
    simp [sh2]
theorem opened_ok (hf : μ[f]? = some (feedO cur (histD os) t n)) (ht : μ[t]? = some (.dk (kvT g ls))) (lt : ls.length < 40) (nn : (n : Int) ∉ ls) (ho : ∀ o ∈ os, Rows o) (ll : os.length ≤ 1000) (hg : g n = tokD os []) :
    ∃ ρ', F__law_opened [.o f] μ = .ok (.d (.int n)) ⟨ρ', (μ.set t (.dk (kvT g (ls ++ [(n : Int)])))).set f (feedO cur (histD os) t ((n : Int) + 1))⟩ := by
  obtain ⟨ρ1, h⟩ := open_ok hf ht lt nn ho ll hg
  have sh := short_ok (ds := [.none, .none]) (by show 2 ≤ 1000; decide)
  refine run_rt (n := 1) (N := 4) (b := b__law_opened) rfl ?_
  apply Exists.intro
  refine mseq_nx (s1 := ⟨[.v (.o f), .v (.d .none), .v (.d .none), .no], μ⟩) (by simp [sh]) ?_
  have m := meth_ok (s := ⟨[.v (.o f), .v (.d .none), .v (.d .none), .no], μ⟩) (mo := eVarM 0) (ma := eNilM) (mt := "open_device") rfl hf rfl rfl h
  refine mseq_nx (s1 := ⟨[.v (.o f), .v (.d (.int n)), .v (.d .none), .no], (μ.set t (.dk (kvT g (ls ++ [(n : Int)])))).set f (feedO cur (histD os) t ((n : Int) + 1))⟩) ?_ ?_
  · unfold mTry
    rw [mseq_nx (mset m (by show 1 < 4; decide)) rfl]
    rfl
  · exact mseq_rt (mif_t (s1 := ⟨[.v (.o f), .v (.d (.int n)), .v (.d .none), .no], (μ.set t (.dk (kvT g (ls ++ [(n : Int)])))).set f (feedO cur (histD os) t ((n : Int) + 1))⟩) (by simp) (mseq_rt (mret (nin0 rfl))))
end
end Z
namespace Z
open PySem PySem.Spec PyProof.Rows L2 Gd Q
section
variable {μ : List Oc} {f t l : Nat} {cur : D} {os : List (List Str)} {g : Int → D} {ls : List Int} {n : Nat}
theorem ne_fl {sto : D} {i : Int} {ds : List D} (hf : μ[f]? = some (feedO cur sto t i)) (hl : μ[l]? = some (lstO ds)) : f ≠ l := fun z => by
  rw [z, hl] at hf
  cases hf
theorem ne_tl {kvs : List (Key × Vl)} {ds : List D} (ht : μ[t]? = some (.dk kvs)) (hl : μ[l]? = some (lstO ds)) : t ≠ l := fun z => by
  rw [z, hl] at ht
  cases ht
theorem len_list (ds : List D) : lenD [.list ds] = some (.int (ds.length : Nat)) := rfl
theorem repr_eq {d : D} {B k : Nat} (h : Sh B k d) (hB : B ≤ 1000000) (hk : k ≤ 60) : ∃ z : Str, reprD [d] = some (.str z) ∧ eqF (.str z) (.str z) = some (.bool true) := ⟨d.shown, h.repr hB hk, by rw [eq_strs, beq_self_eq_true]⟩
/-- the state of slots 0 to 3 after the number was told -/
theorem right_many {sto : D} (hf : μ[f]? = some (feedO cur sto t n)) (ht : μ[t]? = some (.dk (kvT g ls))) (hl : μ[l]? = some (lstO (ls.map PyData.int))) (e40 : ls.length = 40) : ∃ ρ', F__law_open_right [.o f, .o l, .d (.int n)] μ = .ok (.d (.bool true)) ⟨ρ', μ⟩ := by
  obtain ⟨ρ1, h1⟩ := opened_many hf ht (by omega)
  obtain ⟨ρ2, h2⟩ := devices_ok hf ht (by omega)
  have sh2 := short_ok (ds := [.str "many", .int 40]) (by show 2 ≤ 1000; decide)
  have rp : reprD [.tuple [.str "many", .int 40]] = some (.str (PyData.tuple [.str "many", .int 40]).shown) := if_pos (by decide +kernel)
  have re := eq_strs (PyData.tuple [.str "many", .int 40]).shown (PyData.tuple [.str "many", .int 40]).shown
  rw [beq_self_eq_true] at re
  generalize (PyData.tuple [.str "many", .int 40]).shown = z at rp re
  refine run_rt (n := 3) (N := 4) (b := b__law_open_right) rfl ?_
  refine ⟨[.v (.o f), .v (.o l), .v (.d (.int n)), .v (.d (.tuple [.str "many", .int 40]))], ?_⟩
  refine mseq_nx (s1 := ⟨[.v (.o f), .v (.o l), .v (.d (.int n)), .v (.d (.tuple [.str "many", .int 40]))], μ⟩) (mset (call0_ok (cons1 rfl) h1) (by show 3 < 4; decide)) ?_
  refine mseq_rt (mif_t (asbm (e2m (enm1 rfl (look_lst hl) (len_list _)) rfl rfl rfl (by rw [List.length_map, e40]; exact eq_int 40 40))) (mseq_rt (mret (eandm_t (s1 := ⟨[.v (.o f), .v (.o l), .v (.d (.int n)), .v (.d (.tuple [.str "many", .int 40]))], μ⟩) ?_ ?_))))
  · simp [-Q.reprD, sh2, rp, re]
  · exact e2m (meth_ok rfl hf rfl rfl h2) (enm1 (lockm (fnm1 rfl (look_lst hl) (sort_ints (by omega)))) rfl rfl) rfl rfl ((Rf.ints _).eqF (by decide))
theorem right_new (hf : μ[f]? = some (feedO cur (histD os) t n)) (ht : μ[t]? = some (.dk (kvT g ls))) (hl : μ[l]? = some (lstO (ls.map PyData.int))) (lt : ls.length < 40) (nn : (n : Int) ∉ ls) (hO : Ords os) (hg : g n = tokD os []) (hn : n ≤ 200) :
    ∃ ρ', F__law_open_right [.o f, .o l, .d (.int n)] μ = .ok (.d (.bool true)) ⟨ρ', (μ.set t (.dk (kvT g (ls ++ [(n : Int)])))).set f (feedO cur (histD os) t ((n + 1 : Nat) : Int))⟩ := by
  obtain ⟨ρ1, h1⟩ := opened_ok hf ht lt nn hO.rows (Nat.le_trans hO.few (by decide)) hg
  have nft := ne_ft hf ht
  have e1 : ((n : Int) + 1) = ((n + 1 : Nat) : Int) := rfl
  rw [e1] at h1
  have lf : f < (μ.set t (Oc.dk (kvT g (ls ++ [(n : Int)])))).length := by
    rw [List.length_set]
    exact (List.getElem?_eq_some_iff.mp hf).1
  have hf2 : ((μ.set t (.dk (kvT g (ls ++ [(n : Int)])))).set f (feedO cur (histD os) t ((n + 1 : Nat) : Int)))[f]? = some (feedO cur (histD os) t ((n + 1 : Nat) : Int)) := List.getElem?_set_self lf
  have ht2 : ((μ.set t (.dk (kvT g (ls ++ [(n : Int)])))).set f (feedO cur (histD os) t ((n + 1 : Nat) : Int)))[t]? = some (.dk (kvT g (ls ++ [(n : Int)]))) := by
    rw [set_ne nft]
    exact set_get ht
  have hl2 : ((μ.set t (.dk (kvT g (ls ++ [(n : Int)])))).set f (feedO cur (histD os) t ((n + 1 : Nat) : Int)))[l]? = some (lstO (ls.map PyData.int)) := by
    rw [set_ne (ne_fl hf hl), set_ne (ne_tl ht hl)]
    exact hl
  generalize (μ.set t (.dk (kvT g (ls ++ [(n : Int)])))).set f (feedO cur (histD os) t ((n + 1 : Nat) : Int)) = μ2 at h1 hf2 ht2 hl2 ⊢
  have mem : (n : Int) ∈ ls ++ [(n : Int)] := List.mem_append_right _ List.mem_cons_self
  obtain ⟨ρ2, h2⟩ := state_ok hf2 ht2 mem (Nat.le_succ n) hO (sent_nil os) hg
  obtain ⟨ρ3, h3⟩ := token_ok hf2 ht2 mem (Nat.le_succ n)
  rw [hg] at h3
  obtain ⟨z, rp, re⟩ := repr_eq (Sh.nat2 hn) (by decide) (by decide)
  refine run_rt (n := 3) (N := 4) (b := b__law_open_right) rfl ?_
  refine ⟨[.v (.o f), .v (.o l), .v (.d (.int n)), .v (.d (.int n))], ?_⟩
  refine mseq_nx (s1 := ⟨[.v (.o f), .v (.o l), .v (.d (.int n)), .v (.d (.int n))], μ2⟩) (mset (call0_ok (cons1 rfl) h1) (by show 3 < 4; decide)) ?_
  have ne40 : (((ls.map PyData.int).length : Nat) : Int) ≠ 40 := by
    rw [List.length_map]
    omega
  refine mseq_nx (mif_f (asbm (e2m (enm1 rfl (look_lst hl2) (len_list _)) rfl rfl rfl (by rw [eq_int, beq_eq_false_iff_ne.mpr ne40]))) rfl) ?_
  refine mseq_rt (mret (eandm_t (s1 := ⟨[.v (.o f), .v (.o l), .v (.d (.int n)), .v (.d (.int n))], μ2⟩) ?_ (eandm_t (s1 := ⟨[.v (.o f), .v (.o l), .v (.d (.int n)), .v (.d (.int n))], μ2⟩) ?_ ?_)))
  · simp [-Q.reprD, rp, re]
  · refine e2m (meth_ok rfl hf2 rfl (cons1 (nin0 rfl)) h2) (b := .d (.tuple [])) ?_ rfl rfl ?_
    · unfold eD
      rw [e_nil]
    · have : srt ([] : List Str) = [] := List.perm_nil.mp (srt_perm [])
      rw [this]
      exact (Rf.ver (w := []) (fun z hz => nomatch hz)).eqF (by decide)
  · exact e2m (enm1 (meth_ok rfl hf2 rfl (cons1 (nin0 rfl)) h3) rfl (sum_nil os)) rfl rfl rfl (eq_int 0 0)
end
end Z
namespace Z
open PySem PySem.Spec PyProof.Rows L2 Gd Q
/-! ### k55's turn -/
structure K55 (μ : List Oc) (hid f t l : Nat) (h : List D) (k : Nat) (os : List (List Str)) (cur : D) (ls : List Int) (n : Nat) : Prop where
  hh : μ[hid]? = some (lstO h)
  ok : HandOk h k
  hf : μ[f]? = some (feedO cur (histD os) t n)
  ht : μ[t]? = some (.dk (kvT (fun _ => tokD os []) ls))
  hl : μ[l]? = some (lstO (ls.map PyData.int))
  ne : hid ≠ l
  nd : ls.Nodup
  lt : ∀ x ∈ ls, 0 ≤ x ∧ x < (n : Int)
  len : ls.length ≤ 40
theorem ne_emp (ls : List Int) : neF (.list (ls.map PyData.int)) (.list []) = some (.bool (!decide (ls = []))) := by
  have a : Rf 1 (.list (ls.map PyData.int)) := Rf.lst fun d hd => by
    obtain ⟨i, _, rfl⟩ := List.mem_map.mp hd
    exact Rf.int i
  have b : Rf 1 (.list ([] : List D)) := Rf.lst fun d hd => nomatch hd
  unfold neF eqD
  rw [if_pos ⟨a.shaped (by decide), b.shaped (by decide)⟩]
  cases ls with
  | nil => rfl
  | cons x xs => rfl
theorem popI {ls : List Int} {v : Int} (h0 : 0 ≤ v) (h1 : v < (ls.length : Int)) (hl : ls.length ≤ 1000) : ∃ x, ls[v.toNat]? = some x ∧ popF (ls.map PyData.int) [.int v] = some (.int x, (ls.eraseIdx v.toNat).map PyData.int) := by
  have lt : v.toNat < ls.length := by omega
  refine ⟨ls[v.toNat], List.getElem?_eq_getElem lt, ?_⟩
  show (if cb (-(2 ^ 63) ≤ v ∧ v < 2 ^ 63) = true then (seqIndex? v (ls.map PyData.int).length).bind fun k => (ls.map PyData.int)[k]?.map fun y => (y, (ls.map PyData.int).eraseIdx k) else none) = _
  rw [if_pos (cb_true ⟨by omega, by omega⟩), List.length_map, seq_at h0 h1]
  show ((ls.map PyData.int)[v.toNat]?).map _ = _
  rw [List.getElem?_map, List.getElem?_eq_getElem lt]
  simp [erase_map]
theorem erase_filter : ∀ {ls : List Int} {i : Nat} {x : Int}, ls.Nodup → ls[i]? = some x → ls.filter (fun y => decide (y ≠ x)) = ls.eraseIdx i
  | [], _, _, _, h => by simp at h
  | y :: ls, 0, x, nd, h => by
    cases (Option.some.inj h)
    rw [List.eraseIdx_cons_zero, List.filter_cons, if_neg (by simp)]
    refine List.filter_eq_self.mpr fun z hz => decide_eq_true fun e => ?_
    exact (List.nodup_cons.mp nd).1 (e ▸ hz)
  | y :: ls, i + 1, x, nd, h => by
    have h : ls[i]? = some x := h
    have ih := erase_filter (List.nodup_cons.mp nd).2 h
    have ne : y ≠ x := fun e => (List.nodup_cons.mp nd).1 (e ▸ List.mem_of_getElem? h)
    rw [List.eraseIdx_cons_succ, List.filter_cons, if_pos (decide_eq_true ne), ih]
section
variable {μ : List Oc} {hid f t l : Nat} {h h' : List D} {k n : Nat} {os : List (List Str)} {cur : D} {ls : List Int}
theorem K55.hand (K : K55 μ hid f t l h k os cur ls n) (ok : HandOk h' (k + 1)) : K55 (μ.set hid (lstO h')) hid f t l h' (k + 1) os cur ls n := by
  refine ⟨set_get K.hh, ok, ?_, ?_, ?_, K.ne, K.nd, K.lt, K.len⟩
  · rw [set_ne (ne_fl K.hf K.hh).symm]
    exact K.hf
  · rw [set_ne (ne_tl K.ht K.hh).symm]
    exact K.ht
  · rw [set_ne K.ne]
    exact K.hl
/-- a device is closed: the list and the dict -/
theorem K55.close (K : K55 μ hid f t l h k os cur ls n) {i : Nat} {x : Int} (e : ls[i]? = some x) : K55 ((μ.set l (lstO ((ls.eraseIdx i).map PyData.int))).set t (.dk (kvT (fun _ => tokD os []) (ls.filter fun y => decide (y ≠ x))))) hid f t l h k os cur (ls.eraseIdx i) n := by
  have n1 := ne_fl K.hf K.hl
  have n2 := ne_tl K.ht K.hl
  have n3 := ne_ft K.hf K.ht
  refine ⟨?_, K.ok, ?_, ?_, ?_, K.ne, K.nd.sublist (List.eraseIdx_sublist ls i), fun y hy => K.lt y ((List.eraseIdx_sublist ls i).subset hy), Nat.le_trans (List.eraseIdx_sublist ls i).length_le K.len⟩
  · rw [set_ne (ne_tl K.ht K.hh), set_ne K.ne.symm]
    exact K.hh
  · rw [set_ne n3.symm, set_ne n1.symm]
    exact K.hf
  · rw [erase_filter K.nd e]
    exact set_get (o := .dk (kvT (fun _ => tokD os []) ls)) (by rw [set_ne n2.symm]; exact K.ht)
  · rw [set_ne n2]
    exact set_get K.hl
/-- a device is opened: the dict, the feed, and a new list -/
theorem K55.opened (K : K55 μ hid f t l h k os cur ls n) (l40 : ls.length < 40) : K55 (((μ.set t (.dk (kvT (fun _ => tokD os []) (ls ++ [(n : Int)])))).set f (feedO cur (histD os) t ((n + 1 : Nat) : Int))) ++ [lstO ((ls ++ [(n : Int)]).map PyData.int)]) hid f t μ.length h k os cur (ls ++ [(n : Int)]) (n + 1) := by
  have lt := fun {i : Nat} {o : Oc} (e : μ[i]? = some o) => (List.getElem?_eq_some_iff.mp e).1
  have ll : ((μ.set t (.dk (kvT (fun _ => tokD os []) (ls ++ [(n : Int)])))).set f (feedO cur (histD os) t ((n + 1 : Nat) : Int))).length = μ.length := by rw [List.length_set, List.length_set]
  have at' := fun {i : Nat} {o : Oc} {c : Option Oc} (e : μ[i]? = some o) (r : ((μ.set t (.dk (kvT (fun _ => tokD os []) (ls ++ [(n : Int)])))).set f (feedO cur (histD os) t ((n + 1 : Nat) : Int)))[i]? = c) => (List.getElem?_append_left (l₂ := [lstO ((ls ++ [(n : Int)]).map PyData.int)]) (by rw [ll]; exact lt e)).trans r
  refine ⟨at' K.hh ?_, K.ok, at' K.hf (List.getElem?_set_self (by rw [List.length_set]; exact lt K.hf)), at' K.ht ?_, ?_, fun e => ?_, ?_, fun x hx => ?_, ?_⟩
  · rw [set_ne (ne_fl K.hf K.hh), set_ne (ne_tl K.ht K.hh)]
    exact K.hh
  · rw [set_ne (ne_ft K.hf K.ht)]
    exact set_get K.ht
  · rw [List.getElem?_append_right (by rw [ll]; exact Nat.le_refl _), ll, Nat.sub_self]
    rfl
  · have := lt K.hh
    omega
  · rw [List.nodup_append]
    refine ⟨K.nd, by simp, fun x hx y hy e => ?_⟩
    rw [List.mem_singleton] at hy
    have := (K.lt x hx).2
    omega
  · rcases List.mem_append.mp hx with hx | hx
    · have := K.lt x hx
      omega
    · rw [List.mem_singleton] at hx
      omega
  · rw [List.length_append, List.length_singleton]
    omega
theorem K55.new (K : K55 μ hid f t l h k os cur ls n) : (n : Int) ∉ ls := fun hx => by
  have := (K.lt _ hx).2
  omega
end
end Z
namespace Z
open PySem PySem.Spec PyProof.Rows L2 Gd Q
noncomputable def tnC : MoM OutM := (mSeq (mSet 6 (eMutM popF (eVarM 3) (eConsM (eCallO F__law_take (eConsM (eVarM 0) (eConsM (eNM lenD (eConsM (eVarM 3) eNilM)) eNilM))) eNilM))) (mSeq (mIf (asBM (e2M notND (eMethM "Feed" F_Feed_close_device "close_device" (eVarM 2) (eConsM (eD (eVar 6)) eNilM)) (eD (eC .none)))) (mSeq (mRet (eD (eC (.bool false)))) mNil) mNil) mNil))
noncomputable def tnO : MoM OutM := (mSeq (mSet 7 (eNM lenD (eConsM (eVarM 3) eNilM))) (mSeq (mIf (bNotM (asBM (eCall0M F__law_open_right (eConsM (eVarM 2) (eConsM (eVarM 3) (eConsM (eD (eVar 4)) eNilM)))))) (mSeq (mRet (eD (eC (.bool false)))) mNil) mNil) (mSeq (mIf (bD (asB (e2 ltD (eVar 7) (eC (.int 40))))) (mSeq (mMany [3, 4] (eConsM (eNewM (f2M cat2 (eVarM 3) (eLockM (fD (fLst (eCons (eVar 4) eNil)))))) (eConsM (eD (e2 addD (eVar 4) (eC (.int 1)))) eNilM))) mNil) mNil) mNil)))
noncomputable def tnK : MoM OutM := (mIf (asBM (e2M neF (eMethM "Feed" F_Feed_devices "devices" (eVarM 2) eNilM) (eNM tupleD (eConsM (eLockM (fNM sortID (eConsM (eVarM 3) eNilM))) eNilM)))) (mSeq (mRet (eD (eC (.bool false)))) mNil) mNil)
noncomputable def tnT : MoM Bool := (bAndM (asBM (e2M neF (eVarM 3) (eLockM (fD (fLst eNil))))) (asBM (e2M eqF (eCallO F__law_take (eConsM (eVarM 0) (eConsM (eD (eC (.int 8))) eNilM))) (eD (eC (.int 0))))))
noncomputable def tnB : MoM OutM := (mSeq (mIf tnT tnC tnO) (mSeq tnK mNil))
noncomputable def whC : MoM Bool := (asBM (e2M ltD (eNM lenD (eConsM (eVarM 3) eNilM)) (eD (eC (.int 40)))))
noncomputable def whB : MoM OutM := (mSeq (mMany [3, 4] (eConsM (eNewM (f2M cat2 (eVarM 3) (eLockM (fLstM (eConsM (eMethM "Feed" F_Feed_open_device "open_device" (eVarM 2) eNilM) eNilM))))) (eConsM (eD (e2 addD (eVar 4) (eC (.int 1)))) eNilM))) mNil)
noncomputable def clI : MoM (List Vl) := (iNewM (fCallO F__law_shuffled (eConsM (eVarM 0) (eConsM (eVarM 3) eNilM))))
noncomputable def clB : MoM OutM := (mSeq (mEx (eMethM "Feed" F_Feed_close_device "close_device" (eVarM 2) (eConsM (eD (eVar 6)) eNilM))) mNil)
end Z
namespace Z
open PySem PySem.Spec PyProof.Rows L2 Gd Q
theorem mutm {s s1 s2 : Ms} {i : Nat} {ys0 : List Vl} {as ds ds' : List D} {res : D} {F : List D → List D → Option (D × List D)} {f : MoM Vl} {m : MoM (List Vl)} (ef : f s = .ok (.o i) s1) (e0 : s1.μ[i]? = some (.lst ys0)) (em : m s1 = .ok (as.map .d) s2) (e2' : s2.μ[i]? = some (lstO ds)) (hF : F ds as = some (res, ds')) :
    eMutM F f m s = .ok (.d res) ⟨s2.ρ, s2.μ.set i (lstO ds')⟩ := by
  unfold eMutM
  rw [ef]
  show (match s1.μ[i]? with
    | some (.lst _) => (m s1).bind fun rs s2 => match s2.μ[i]? with
      | some (.lst xs) => match datsM xs, datsM rs with
        | some ds, some as => match F ds as with
          | some (res, ds') => .ok (.d res) ⟨s2.ρ, s2.μ.set i (.lst (ds'.map .d))⟩
          | none => .no
        | _, _ => .no
      | _ => .no
    | _ => .no : RtM Vl) = _
  rw [e0]
  show (m s1).bind _ = _
  rw [em]
  show (match s2.μ[i]? with
      | some (.lst xs) => match datsM xs, datsM (as.map .d) with
        | some ds, some as => match F ds as with
          | some (res, ds') => .ok (.d res) ⟨s2.ρ, s2.μ.set i (.lst (ds'.map .d))⟩
          | none => .no
        | _, _ => .no
      | _ => .no : RtM Vl) = _
  rw [e2']
  dsimp only
  rw [dats_d, dats_d]
  dsimp only
  rw [hF]
section
variable {μ : List Oc} {hid f t l : Nat} {h : List D} {k n : Nat} {os : List (List Str)} {cur nm : D} {ls : List Int} {x5 x6 x7 : Sm}
abbrev R55 (hid : Nat) (nm : D) (f l n : Nat) (x5 x6 x7 : Sm) : List Sm := [.v (.o hid), .v (.d nm), .v (.o f), .v (.o l), .v (.d (.int n)), x5, x6, x7]
theorem emp_lock (s : Ms) : eLockM (fD (fLst eNil)) s = .ok (.d (.list [])) s := by
  have sh := short_ok (ds := []) (by decide)
  simp [Oc.d, datsM, ocOf, sh]
theorem closeT (K : K55 μ hid f t l h k os cur ls n) (hk : k < 900000) (ne : ls ≠ []) : ∃ μ' h' ls' y6, tnC ⟨R55 hid nm f l n x5 x6 x7, μ⟩ = .ok .nx ⟨R55 hid nm f l n x5 y6 x7, μ'⟩ ∧ K55 μ' hid f t l h' (k + 1) os cur ls' n := by
  have lp : 0 < ls.length := List.length_pos_iff.mpr ne
  have el := len_list (ls.map PyData.int)
  rw [List.length_map] at el
  obtain ⟨v, h', e1', v0, v1, hk'⟩ := takeM (s := ⟨R55 hid nm f l n x5 x6 x7, μ⟩) (i := 0) (m := eNM lenD (eConsM (eVarM 3) eNilM)) (k := (ls.length : Nat)) rfl K.hh (enm1 rfl (look_lst K.hl) el) K.ok (by omega) (by omega) (by have := K.len; omega)
  have K1 := K.hand hk'
  obtain ⟨x, ex, ep⟩ := popI v0 v1 (by have := K.len; omega)
  have mx := K.lt x (List.mem_of_getElem? ex)
  obtain ⟨d, rfl⟩ := Int.eq_ofNat_of_zero_le mx.1
  have mp := mutm (s := ⟨R55 hid nm f l n x5 x6 x7, μ⟩) (f := eVarM 3) (F := popF) (as := [.int v]) rfl K.hl (cons1 e1') K1.hl ep
  have K2 := K1.close ex
  have hf2 : ((μ.set hid (lstO h')).set l (lstO ((ls.eraseIdx v.toNat).map PyData.int)))[f]? = some (feedO cur (histD os) t n) := by
    rw [set_ne (ne_fl K1.hf K1.hl).symm]
    exact K1.hf
  have ht2 : ((μ.set hid (lstO h')).set l (lstO ((ls.eraseIdx v.toNat).map PyData.int)))[t]? = some (.dk (kvT (fun _ => tokD os []) ls)) := by
    rw [set_ne (ne_tl K1.ht K1.hl).symm]
    exact K1.ht
  obtain ⟨ρ1, hc⟩ := close_ok hf2 ht2 (List.mem_of_getElem? ex) (Nat.le_of_lt (by have := mx.2; omega))
  have s1 : mSet 6 (eMutM popF (eVarM 3) (eConsM (eCallO F__law_take (eConsM (eVarM 0) (eConsM (eNM lenD (eConsM (eVarM 3) eNilM)) eNilM))) eNilM)) ⟨R55 hid nm f l n x5 x6 x7, μ⟩ = .ok .nx ⟨R55 hid nm f l n x5 (.v (.d (.int d))) x7, (μ.set hid (lstO h')).set l (lstO ((ls.eraseIdx v.toNat).map PyData.int))⟩ := mset mp (by show 6 < 8; decide)
  have s2 := meth_ok (s := ⟨R55 hid nm f l n x5 (.v (.d (.int d))) x7, (μ.set hid (lstO h')).set l (lstO ((ls.eraseIdx v.toNat).map PyData.int))⟩) (mo := eVarM 2) (ma := eConsM (eD (eVar 6)) eNilM) (mt := "close_device") rfl hf2 rfl (cons1 (nin0 rfl)) hc
  exact ⟨_, h', _, .v (.d (.int d)), mseq_nx s1 (mseq_nx (mif_f (asbm (e2m (b := .d .none) s2 rfl rfl rfl rfl)) rfl) rfl), K2⟩
end
end Z
namespace Z
open PySem PySem.Spec PyProof.Rows L2 Gd Q
section
variable {s s1 s2 : Ms} {a b : Vl} {d e : D} {f g : MoM Vl} {ds : List D}
theorem f2m {F : D → D → Option (List D)} (ea : f s = .ok a s1) (eb : g s1 = .ok b s2) (la : lookM s2.μ a = some d) (lb : lookM s2.μ b = some e) (h : F d e = some ds) : f2M F f g s = .ok (lstO ds) s2 := by
  unfold f2M
  rw [ea]
  show (g s1).bind _ = _
  rw [eb]
  show asLM ((lookM s2.μ a).bind fun x => (lookM s2.μ b).bind fun y => F x y) s2 = _
  rw [la, lb]
  show asLM (F d e) s2 = _
  rw [h]
  rfl
theorem mmany {m : MoM (List Vl)} {xs : List Vl} {is : List Nat} {ρ' : List Sm} (em : m s = .ok xs s1) (ep : putsM is xs s1.ρ = some ρ') : mMany is m s = .ok .nx ⟨ρ', s1.μ⟩ := by
  unfold mMany
  rw [em]
  show (match putsM is xs s1.ρ with
    | some ρ' => .ok .nx ⟨ρ', s1.μ⟩
    | none => .no : RtM OutM) = _
  rw [ep]
theorem cat_ints (ls : List Int) (n : Int) (l : ls.length ≤ 1000) : cat2 (.list (ls.map PyData.int)) (.list [.int n]) = some ((ls ++ [n]).map PyData.int) := by
  show (if (ls.map PyData.int).length + 1 ≤ sizeLine then some (ls.map PyData.int ++ [PyData.int n]) else none) = _
  rw [if_pos (Nat.le_trans (show (ls.map PyData.int).length + 1 ≤ 1001 by rw [List.length_map]; omega) (by decide)), List.map_append]
  rfl
theorem bd_lt {s : Ms} {i : Nat} {k : Nat} (h : s.ρ[i]? = some (.v (.d (.int (k : Nat))))) : bD (asB (e2 ltD (eVar i) (eC (.int 40)))) s = .ok (decide (k < 40)) s := by
  have e : (oldE s)[i]? = some (.dat (.int (k : Nat))) := by
    show (s.ρ.map Sm.old)[i]? = _
    rw [List.getElem?_map, h]
    rfl
  have hl : ltD (.int (k : Nat)) (.int 40) = some (.bool (decide (k < 40))) := by
    have : ∀ a b : Int, ltD (.int a) (.int b) = some (.bool (decide (a < b))) := fun a b => rfl
    rw [this]
    congr 2
    exact decide_eq_decide.mpr (by omega)
  have e2' : (asB (e2 ltD (eVar i) (eC (.int 40)))) (oldE s) = .ok (decide (k < 40)) (oldE s) := by
    generalize oldE s = ρ at e ⊢
    simp [e, hl]
  unfold bD
  rw [e2']
theorem ed_add {s : Ms} {i : Nat} {n : Nat} (h : s.ρ[i]? = some (.v (.d (.int (n : Nat))))) : eD (e2 addD (eVar i) (eC (.int 1))) s = .ok (.d (.int ((n + 1 : Nat) : Int))) s := by
  have e : (oldE s)[i]? = some (.dat (.int (n : Nat))) := by
    show (s.ρ.map Sm.old)[i]? = _
    rw [List.getElem?_map, h]
    rfl
  have hl : addD (.int (n : Nat)) (.int 1) = some (.int ((n + 1 : Nat) : Int)) := rfl
  have e2' : (e2 addD (eVar i) (eC (.int 1))) (oldE s) = .ok (.d (.int ((n + 1 : Nat) : Int))) (oldE s) := by
    generalize oldE s = ρ at e ⊢
    simp [e, hl]
  unfold eD
  rw [e2']
theorem ed_one {s : Ms} {i : Nat} {d : D} (h : s.ρ[i]? = some (.v (.d d))) : eLockM (fD (fLst (eCons (eVar i) eNil))) s = .ok (.d (.list [d])) s := by
  have e : (oldE s)[i]? = some (.dat d) := by
    show (s.ρ.map Sm.old)[i]? = _
    rw [List.getElem?_map, h]
    rfl
  have sh := short_ok (ds := [d]) (by show 1 ≤ 1000; decide)
  have e2' : (fLst (eCons (eVar i) eNil)) (oldE s) = .ok (.lst [d]) (oldE s) := by
    generalize oldE s = ρ at e ⊢
    simp [e, sh]
  refine lockm (ds := [d]) ?_
  unfold fD
  rw [e2']
  rfl
end
section
variable {μ : List Oc} {hid f t l : Nat} {h : List D} {k n : Nat} {os : List (List Str)} {cur nm : D} {ls : List Int} {x5 x6 x7 : Sm}
theorem openT (K : K55 μ hid f t l h k os cur ls n) (hO : Ords os) (hn : n ≤ 200) : ∃ μ' l' ls' n' y7, tnO ⟨R55 hid nm f l n x5 x6 x7, μ⟩ = .ok .nx ⟨R55 hid nm f l' n' x5 x6 y7, μ'⟩ ∧ K55 μ' hid f t l' h k os cur ls' n' ∧ n' ≤ n + 1 := by
  have el := len_list (ls.map PyData.int)
  rw [List.length_map] at el
  have s1 : mSet 7 (eNM lenD (eConsM (eVarM 3) eNilM)) ⟨R55 hid nm f l n x5 x6 x7, μ⟩ = .ok .nx ⟨R55 hid nm f l n x5 x6 (.v (.d (.int (ls.length : Nat)))), μ⟩ := mset (enm1 rfl (look_lst K.hl) el) (by show 7 < 8; decide)
  by_cases l40 : ls.length < 40
  · obtain ⟨ρ1, hr⟩ := right_new K.hf K.ht K.hl l40 K.new hO rfl hn
    have K2 := K.opened l40
    have ll : ((μ.set t (.dk (kvT (fun _ => tokD os []) (ls ++ [(n : Int)])))).set f (feedO cur (histD os) t ((n + 1 : Nat) : Int))).length = μ.length := by rw [List.length_set, List.length_set]
    have hl2 : ((μ.set t (.dk (kvT (fun _ => tokD os []) (ls ++ [(n : Int)])))).set f (feedO cur (histD os) t ((n + 1 : Nat) : Int)))[l]? = some (lstO (ls.map PyData.int)) := by
      rw [set_ne (ne_fl K.hf K.hl), set_ne (ne_tl K.ht K.hl)]
      exact K.hl
    have s2 := call0_ok (s := ⟨R55 hid nm f l n x5 x6 (.v (.d (.int (ls.length : Nat)))), μ⟩) (ma := eConsM (eVarM 2) (eConsM (eVarM 3) (eConsM (eD (eVar 4)) eNilM))) (cons3 rfl rfl (nin0 rfl)) hr
    generalize (μ.set t (.dk (kvT (fun _ => tokD os []) (ls ++ [(n : Int)])))).set f (feedO cur (histD os) t ((n + 1 : Nat) : Int)) = μ2 at K2 ll hl2 s2
    have s3 := newm (f2m (s := ⟨R55 hid nm f l n x5 x6 (.v (.d (.int (ls.length : Nat)))), μ2⟩) (f := eVarM 3) (g := eLockM (fD (fLst (eCons (eVar 4) eNil)))) rfl (ed_one rfl) (look_lst hl2) rfl (cat_ints ls n (by omega)))
    rw [ll] at s3
    refine ⟨_, μ.length, _, n + 1, .v (.d (.int (ls.length : Nat))), mseq_nx s1 (mseq_nx (mif_f (bnotm (t := true) (asbm s2)) rfl) (mseq_nx (mif_t (by rw [bd_lt rfl, decide_eq_true l40]) (mseq_nx (mmany (cons2 s3 (ed_add rfl)) rfl) rfl)) rfl)), K2, Nat.le_refl _⟩
  · have e40 : ls.length = 40 := by have := K.len; omega
    obtain ⟨ρ1, hr⟩ := right_many K.hf K.ht K.hl e40
    have s2 := call0_ok (s := ⟨R55 hid nm f l n x5 x6 (.v (.d (.int (ls.length : Nat)))), μ⟩) (ma := eConsM (eVarM 2) (eConsM (eVarM 3) (eConsM (eD (eVar 4)) eNilM))) (cons3 rfl rfl (nin0 rfl)) hr
    exact ⟨μ, l, ls, n, .v (.d (.int (ls.length : Nat))), mseq_nx s1 (mseq_nx (mif_f (bnotm (t := true) (asbm s2)) rfl) (mseq_nx (mif_f (by rw [bd_lt rfl, decide_eq_false l40]) rfl) rfl)), K, Nat.le_succ n⟩
/-- the whole turn -/
theorem turnT (K : K55 μ hid f t l h k os cur ls n) (hO : Ords os) (hn : n ≤ 200) (hk : k < 800000) : ∃ μ' l' h' ls' n' y6 y7, tnB ⟨R55 hid nm f l n x5 x6 x7, μ⟩ = .ok .nx ⟨R55 hid nm f l' n' x5 y6 y7, μ'⟩ ∧ K55 μ' hid f t l' h' (k + 2) os cur ls' n' ∧ n' ≤ n + 1 := by
  have chk : ∀ {μ : List Oc} {l : Nat} {h : List D} {k n : Nat} {ls : List Int} {x6 x7 : Sm}, K55 μ hid f t l h k os cur ls n → tnK ⟨R55 hid nm f l n x5 x6 x7, μ⟩ = .ok .nx ⟨R55 hid nm f l n x5 x6 x7, μ⟩ := fun {μ l h k n ls x6 x7} K => by
    obtain ⟨ρ1, hd⟩ := devices_ok K.hf K.ht (by have := K.len; omega)
    refine mif_f (asbm (e2m (meth_ok (s := ⟨R55 hid nm f l n x5 x6 x7, μ⟩) rfl K.hf rfl rfl hd) (enm1 (lockm (fnm1 rfl (look_lst K.hl) (sort_ints (by have := K.len; omega)))) rfl rfl) rfl rfl ((Rf.ints _).ne (by decide)))) rfl
  have ht : asBM (e2M neF (eVarM 3) (eLockM (fD (fLst eNil)))) ⟨R55 hid nm f l n x5 x6 x7, μ⟩ = .ok (!decide (ls = [])) ⟨R55 hid nm f l n x5 x6 x7, μ⟩ := asbm (e2m rfl (emp_lock _) (look_lst K.hl) rfl (ne_emp ls))
  by_cases emp : ls = []
  · rw [decide_eq_true emp] at ht
    obtain ⟨μ', l', ls', n', y7, e, K2, le⟩ := openT (nm := nm) (x5 := x5) (x6 := x6) (x7 := x7) K hO hn
    exact ⟨μ', l', h, ls', n', x6, y7, mseq_nx (mif_f (bandm_f ht) e) (mseq_nx (chk K2) rfl), ⟨K2.hh, K2.ok.up (by omega), K2.hf, K2.ht, K2.hl, K2.ne, K2.nd, K2.lt, K2.len⟩, le⟩
  · rw [decide_eq_false emp] at ht
    obtain ⟨v, h', et, v0, v1, hk'⟩ := takeM (s := ⟨R55 hid nm f l n x5 x6 x7, μ⟩) (i := 0) (m := eD (eC (.int 8))) (k := 8) rfl K.hh rfl K.ok (by omega) (by omega) (by omega)
    have K1 := K.hand hk'
    have tq := asbm (e2m et (g := eD (eC (.int 0))) rfl rfl rfl (eq_int v 0))
    by_cases vz : v = 0
    · rw [vz, beq_self_eq_true] at tq
      obtain ⟨μ', h2, ls', y6, e, K2⟩ := closeT (nm := nm) (x5 := x5) (x6 := x6) (x7 := x7) K1 (by omega) emp
      exact ⟨μ', l, h2, ls', n, y6, x7, mseq_nx (mif_t (bandm_t ht tq) e) (mseq_nx (chk K2) rfl), K2, Nat.le_succ n⟩
    · rw [beq_eq_false_iff_ne.mpr vz] at tq
      obtain ⟨μ', l', ls', n', y7, e, K2, le⟩ := openT (nm := nm) (x5 := x5) (x6 := x6) (x7 := x7) K1 hO hn
      exact ⟨μ', l', h', ls', n', x6, y7, mseq_nx (mif_f (bandm_t ht tq) e) (mseq_nx (chk K2) rfl), ⟨K2.hh, K2.ok.up (by omega), K2.hf, K2.ht, K2.hl, K2.ne, K2.nd, K2.lt, K2.len⟩, le⟩
end
end Z
namespace Z
open PySem PySem.Spec PyProof.Rows L2 Gd Q
section
variable {hid f t : Nat} {os : List (List Str)} {cur nm : D}
theorem loopT (hO : Ords os) : ∀ (ts : List Vl) {μ : List Oc} {l : Nat} {h : List D} {k n : Nat} {ls : List Int} {x5 x6 x7 : Sm}, K55 μ hid f t l h k os cur ls n → n + ts.length ≤ 200 → k + 2 * ts.length < 800000 →
    ∃ μ' l' h' ls' n' y5 y6 y7, loopM (gNM 5) tnB ts ⟨R55 hid nm f l n x5 x6 x7, μ⟩ = .ok .nx ⟨R55 hid nm f l' n' y5 y6 y7, μ'⟩ ∧ K55 μ' hid f t l' h' (k + 2 * ts.length) os cur ls' n' ∧ n' ≤ n + ts.length
  | [], μ, l, h, k, n, ls, x5, x6, x7, K, _, _ => ⟨μ, l, h, ls, n, x5, x6, x7, rfl, K, Nat.le_refl _⟩
  | y :: ts, μ, l, h, k, n, ls, x5, x6, x7, K, hn, hk => by
    rw [List.length_cons] at hn hk
    obtain ⟨μ1, l1, h1, ls1, n1, y6, y7, hE, K1, le⟩ := turnT (nm := nm) (x5 := .v y) (x6 := x6) (x7 := x7) K hO (by omega) (by omega)
    obtain ⟨μ2, l2, h2, ls2, n2, z5, z6, z7, hE2, K2, le2⟩ := loopT hO ts (x5 := .v y) (x6 := y6) (x7 := y7) K1 (by omega) (by omega)
    refine ⟨μ2, l2, h2, ls2, n2, z5, z6, z7, ?_, ⟨K2.hh, K2.ok.up (by rw [List.length_cons]; omega), K2.hf, K2.ht, K2.hl, K2.ne, K2.nd, K2.lt, K2.len⟩, by rw [List.length_cons]; omega⟩
    show (tnB ⟨R55 hid nm f l n (.v y) x6 x7, μ⟩).bind (fun o s2 => match o with
      | .nx => loopM (gNM 5) tnB ts s2
      | .ct => loopM (gNM 5) tnB ts s2
      | .bk => .ok .nx s2
      | .rt r => .ok (.rt r) s2) = _
    rw [hE]
    exact hE2
theorem lt40 (k : Nat) : ltD (.int (k : Nat)) (.int 40) = some (.bool (decide (k < 40))) := by
  have : ∀ a b : Int, ltD (.int a) (.int b) = some (.bool (decide (a < b))) := fun a b => rfl
  rw [this]
  congr 2
  exact decide_eq_decide.mpr (by omega)
theorem fillT (hO : Ords os) : ∀ (fuel : Nat) {μ : List Oc} {l : Nat} {h : List D} {k n : Nat} {ls : List Int} {x5 x6 x7 : Sm}, K55 μ hid f t l h k os cur ls n → 40 - ls.length < fuel →
    ∃ μ' l' ls' n', whileM whC whB fuel ⟨R55 hid nm f l n x5 x6 x7, μ⟩ = .ok .nx ⟨R55 hid nm f l' n' x5 x6 x7, μ'⟩ ∧ K55 μ' hid f t l' h k os cur ls' n' ∧ ls'.length = 40
  | 0, μ, l, h, k, n, ls, x5, x6, x7, K, hn => by omega
  | fuel + 1, μ, l, h, k, n, ls, x5, x6, x7, K, hn => by
    have el := len_list (ls.map PyData.int)
    rw [List.length_map] at el
    have hc : whC ⟨R55 hid nm f l n x5 x6 x7, μ⟩ = .ok (decide (ls.length < 40)) ⟨R55 hid nm f l n x5 x6 x7, μ⟩ := asbm (e2m (enm1 rfl (look_lst K.hl) el) rfl rfl rfl (lt40 _))
    by_cases l40 : ls.length < 40
    · rw [decide_eq_true l40] at hc
      obtain ⟨ρ1, ho⟩ := open_ok K.hf K.ht l40 K.new hO.rows (Nat.le_trans hO.few (by decide)) rfl
      have K2 := K.opened l40
      have ll : ((μ.set t (.dk (kvT (fun _ => tokD os []) (ls ++ [(n : Int)])))).set f (feedO cur (histD os) t ((n + 1 : Nat) : Int))).length = μ.length := by rw [List.length_set, List.length_set]
      have hl2 : ((μ.set t (.dk (kvT (fun _ => tokD os []) (ls ++ [(n : Int)])))).set f (feedO cur (histD os) t ((n + 1 : Nat) : Int)))[l]? = some (lstO (ls.map PyData.int)) := by
        rw [set_ne (ne_fl K.hf K.hl), set_ne (ne_tl K.ht K.hl)]
        exact K.hl
      have s2 := meth_ok (s := ⟨R55 hid nm f l n x5 x6 x7, μ⟩) (mo := eVarM 2) (ma := eNilM) (mt := "open_device") rfl K.hf rfl rfl ho
      have ei : ((n : Int) + 1) = ((n + 1 : Nat) : Int) := rfl
      rw [ei] at s2
      generalize (μ.set t (.dk (kvT (fun _ => tokD os []) (ls ++ [(n : Int)])))).set f (feedO cur (histD os) t ((n + 1 : Nat) : Int)) = μ2 at K2 ll hl2 s2
      have s3 : eLockM (fLstM (eConsM (eMethM "Feed" F_Feed_open_device "open_device" (eVarM 2) eNilM) eNilM)) ⟨R55 hid nm f l n x5 x6 x7, μ⟩ = .ok (.d (.list [.int n])) ⟨R55 hid nm f l n x5 x6 x7, μ2⟩ := by
        refine lockm (ds := [.int n]) ?_
        unfold fLstM
        rw [cons1 s2]
        rfl
      have s4 := newm (f2m (s := ⟨R55 hid nm f l n x5 x6 x7, μ⟩) (f := eVarM 3) rfl s3 (look_lst hl2) rfl (cat_ints ls n (by omega)))
      rw [ll] at s4
      have hB : whB ⟨R55 hid nm f l n x5 x6 x7, μ⟩ = .ok .nx ⟨R55 hid nm f μ.length (n + 1) x5 x6 x7, μ2 ++ [lstO ((ls ++ [(n : Int)]).map PyData.int)]⟩ := mseq_nx (mmany (cons2 s4 (ed_add rfl)) rfl) rfl
      obtain ⟨μ3, l3, ls3, n3, hE, K3, l3'⟩ := fillT hO fuel (x5 := x5) (x6 := x6) (x7 := x7) K2 (by rw [List.length_append, List.length_singleton]; omega)
      refine ⟨μ3, l3, ls3, n3, ?_, K3, l3'⟩
      unfold whileM
      rw [hc]
      show (whB ⟨R55 hid nm f l n x5 x6 x7, μ⟩).bind _ = _
      rw [hB]
      exact hE
    · rw [decide_eq_false l40] at hc
      refine ⟨μ, l, ls, n, ?_, K, by have := K.len; omega⟩
      unfold whileM
      rw [hc]
      rfl
end
end Z
namespace Z
open PySem PySem.Spec PyProof.Rows L2 Gd Q
/-! ### shuffled numbers -/
theorem shufI_loop {it : Sl} : ∀ (fuel : Nat) (rest found : List Int) (h : List D) (n : Nat), rest.length < fuel → found.length + rest.length ≤ 1000 → HandOk h n → n + rest.length < 1000000 →
    ∃ (out : List Int) (h' : List D), whileD (asB (e2 neF (eVar 2) (eLock (fLst eNil)))) (bSeq (bEx (eMut appF 3 (eCons (eMut popF 2 (eCons (eCall F__law_take (eCons (eVar 0) (eCons (eN lenD (eCons (eVar 2) eNil)) eNil))) eNil)) eNil))) bNil) fuel
      [.own (.lst h), it, .own (.lst (rest.map PyData.int)), .own (.lst (found.map PyData.int))] = .ok .nx [.own (.lst h'), it, .own (.lst []), .own (.lst (out.map PyData.int))] ∧ out.Perm (found ++ rest) ∧ HandOk h' (n + rest.length)
  | 0, _, _, _, _, l, _, _, _ => by omega
  | fuel + 1, [], found, h, n, _, _, hh, _ => by
    refine ⟨found, h, ?_, by rw [List.append_nil], hh⟩
    have e := ne_emp []
    rw [List.map_nil] at e
    have sh := short_ok (ds := []) (by decide)
    unfold whileD
    simp [sh, e]
  | fuel + 1, x :: rest, found, h, n, l, l2, hh, hn => by
    obtain ⟨v, h1, hE1, v0, v1, hk⟩ := take_spec hh (by omega) (m := (rest.length : Int) + 1) (by omega) (by rw [List.length_cons] at l2; omega)
    obtain ⟨y, gy, ey⟩ := popI (ls := x :: rest) v0 (by rw [List.length_cons]; omega) (by omega)
    have pm := erase_perm gy
    have le : ((x :: rest).eraseIdx v.toNat).length = rest.length := by
      have := pm.length_eq
      rw [List.length_cons, List.length_cons] at this
      omega
    rw [List.length_cons] at l l2 hn
    obtain ⟨out, h2, hE2, p2, hk2⟩ := shufI_loop (it := it) fuel ((x :: rest).eraseIdx v.toNat) (found ++ [y]) h1 (n + 1) (by omega) (by rw [List.length_append, List.length_singleton]; omega) hk (by omega)
    refine ⟨out, h2, ?_, ?_, hk2.up (by rw [List.length_cons]; omega)⟩
    · have e := ne_emp (x :: rest)
      rw [List.map_cons, decide_eq_false (fun z => nomatch z)] at e
      have sh := short_ok (ds := []) (by decide)
      have ap := app_eq (ds := found.map PyData.int) (x := .int y) (by rw [List.length_map]; omega)
      rw [List.map_append] at hE2
      rw [List.map_cons] at ey
      unfold whileD
      simp at hE2
      simp [sh, e, hE1, ey, ap, hE2]
    · refine p2.trans ?_
      rw [List.append_assoc]
      exact List.Perm.append_left found pm
theorem shufI_spec {h : List D} {n : Nat} {ns : List Int} (hh : HandOk h n) (hl : ns.length ≤ 900) (hn : n + ns.length < 1000000) :
    ∃ (out : List Int) (h' : List D), F__law_shuffled [.own (.lst h), .own (.lst (ns.map PyData.int))] = .ok (.own (.lst (out.map PyData.int))) [.own (.lst h'), .own (.lst (ns.map PyData.int))] ∧ out.Perm ns ∧ HandOk h' (n + ns.length) := by
  obtain ⟨out, h', e, p, hk⟩ := shufI_loop (it := .own (.lst (ns.map PyData.int))) 1000 ns [] h n (by omega) (by rw [List.length_nil]; omega) hh hn
  refine ⟨out, h', ?_, by rw [List.nil_append] at p; exact p, hk⟩
  have sh := short_ok (ds := []) (by decide)
  refine fn_run (o := .rt (.v 3)) (ρ := [.own (.lst h'), .own (.lst (ns.map PyData.int)), .own (.lst []), .own (.lst (out.map PyData.int))]) rfl ?_ rfl
  refine seq_nx (ρ1 := [.own (.lst h), .own (.lst (ns.map PyData.int)), .own (.lst (ns.map PyData.int)), .own (.lst [])]) ?_ (seq_nx e ?_)
  · simp [sh]
  · exact seq_one rfl (fun z => nomatch z)
section
variable {s : Ms} {i j hid l : Nat} {h h' ds out : List D} {F : Fn}
/-- a def of the layer of data that gives a new list: the hand and data -/
theorem callF_hand {m : MoM Vl} {d : D} (e0 : s.ρ[i]? = some (.v (.o hid))) (hm : s.μ[hid]? = some (lstO h)) (em : m s = .ok (.d d) s) (e : F [.own (.lst h), .dat d] = .ok (.own (.lst out)) [.own (.lst h'), .dat d]) :
    fCallO F (eConsM (eVarM i) (eConsM m eNilM)) s = .ok (lstO out) ⟨s.ρ, s.μ.set hid (lstO h')⟩ := by
  have ea : argO s.μ [.o hid, .d d] = some [.own (.lst h), .dat d] := by
    unfold argO
    rw [hm]
    simp [argO, dats_d]
  have eb : backO [.o hid, .d d] [.own (.lst h'), .dat d] s.μ = some (s.μ.set hid (lstO h')) := rfl
  unfold fCallO
  rw [cons2 (varm e0) em]
  show (applyO F [.o hid, .d d] s).bind toOc = _
  unfold applyO
  rw [ea]
  dsimp only
  rw [if_pos (show nodupB (idsO [.o hid, .d d]) = true by simp [idsO, nodupB]), e]
  dsimp only
  rw [eb]
  rfl
/-- the same with the hand and a list of the store that stays -/
theorem callF_two (e0 : s.ρ[i]? = some (.v (.o hid))) (hm : s.μ[hid]? = some (lstO h)) (e1' : s.ρ[j]? = some (.v (.o l))) (hl : s.μ[l]? = some (lstO ds)) (ne : hid ≠ l) (e : F [.own (.lst h), .own (.lst ds)] = .ok (.own (.lst out)) [.own (.lst h'), .own (.lst ds)]) :
    fCallO F (eConsM (eVarM i) (eConsM (eVarM j) eNilM)) s = .ok (lstO out) ⟨s.ρ, s.μ.set hid (lstO h')⟩ := by
  have ea : argO s.μ [.o hid, .o l] = some [.own (.lst h), .own (.lst ds)] := by
    unfold argO
    rw [hm]
    simp [argO, dats_d, hl]
  have sl : s.μ.set l (lstO ds) = s.μ := by
    obtain ⟨lt, e⟩ := List.getElem?_eq_some_iff.mp hl
    rw [← e]
    exact List.set_getElem_self lt
  have eb : backO [.o hid, .o l] [.own (.lst h'), .own (.lst ds)] s.μ = some (s.μ.set hid (lstO h')) := by
    show some ((s.μ.set l (lstO ds)).set hid (lstO h')) = _
    rw [sl]
  unfold fCallO
  rw [cons2 (varm e0) (varm e1')]
  show (applyO F [.o hid, .o l] s).bind toOc = _
  unfold applyO
  rw [ea]
  dsimp only
  rw [if_pos (show nodupB (idsO [.o hid, .o l]) = true by simp [idsO, nodupB, ne]), e]
  dsimp only
  rw [eb]
  rfl
end
/-! ### all devices are closed -/
section
variable {hid f t n : Nat} {os : List (List Str)} {cur nm : D} {g : Int → D}
theorem closeAll : ∀ (ts rest : List Int) {μ : List Oc} {l : Nat} {x5 x6 x7 : Sm}, μ[f]? = some (feedO cur (histD os) t n) → μ[t]? = some (.dk (kvT g rest)) → rest.Perm ts → ts.Nodup → (∀ x ∈ ts, 0 ≤ x ∧ x < (n : Int)) →
    ∃ μ' y6, loopM (gNM 6) clB (ts.map fun i => .d (.int i)) ⟨R55 hid nm f l n x5 x6 x7, μ⟩ = .ok .nx ⟨R55 hid nm f l n x5 y6 x7, μ'⟩ ∧ μ'[f]? = some (feedO cur (histD os) t n) ∧ μ'[t]? = some (.dk (kvT g []))
  | [], rest, μ, l, x5, x6, x7, hf, ht, p, _, _ => by
    rw [List.perm_nil.mp p] at ht
    exact ⟨μ, x6, rfl, hf, ht⟩
  | x :: ts, rest, μ, l, x5, x6, x7, hf, ht, p, nd, lt => by
    have mx := lt x List.mem_cons_self
    obtain ⟨d, rfl⟩ := Int.eq_ofNat_of_zero_le mx.1
    obtain ⟨ρ1, hc⟩ := close_ok hf ht (p.symm.subset List.mem_cons_self) (Nat.le_of_lt (by have := mx.2; omega))
    have hn := List.nodup_cons.mp nd
    have p2 : (rest.filter fun i => decide (i ≠ (d : Int))).Perm ts := by
      have fl : ts.filter (fun i => decide (i ≠ (d : Int))) = ts := List.filter_eq_self.mpr fun z hz => decide_eq_true (fun e : z = (d : Int) => hn.1 (by
        rw [← e]
        exact hz))
      have pf := p.filter fun i => decide (i ≠ (d : Int))
      rw [List.filter_cons, if_neg (by simp), fl] at pf
      exact pf
    obtain ⟨μ2, y6, hE, f2, t2⟩ := closeAll ts _ (l := l) (x5 := x5) (x6 := .v (.d (.int d))) (x7 := x7) (μ := μ.set t (.dk (kvT g (rest.filter fun i => decide (i ≠ (d : Int)))))) (by rw [set_ne (ne_ft hf ht).symm]; exact hf) (set_get ht) p2 hn.2 fun y hy => lt y (List.mem_cons_of_mem _ hy)
    refine ⟨μ2, y6, ?_, f2, t2⟩
    have s2 := meth_ok (s := ⟨R55 hid nm f l n x5 (.v (.d (.int d))) x7, μ⟩) (mo := eVarM 2) (ma := eConsM (eD (eVar 6)) eNilM) (mt := "close_device") rfl hf rfl (cons1 (nin0 rfl)) hc
    have hB : clB ⟨R55 hid nm f l n x5 (.v (.d (.int d))) x7, μ⟩ = .ok .nx ⟨R55 hid nm f l n x5 (.v (.d (.int d))) x7, μ.set t (.dk (kvT g (rest.filter fun i => decide (i ≠ (d : Int)))))⟩ := mseq_nx (mex s2) rfl
    rw [List.map_cons]
    show (clB ⟨R55 hid nm f l n x5 (.v (.d (.int d))) x7, μ⟩).bind (fun o s2 => match o with
      | .nx => loopM (gNM 6) clB (ts.map fun i => .d (.int i)) s2
      | .ct => loopM (gNM 6) clB (ts.map fun i => .d (.int i)) s2
      | .bk => .ok .nx s2
      | .rt r => .ok (.rt r) s2) = _
    rw [hB]
    exact hE
end
end Z
namespace Z
open PySem PySem.Spec PyProof.Rows L2 Gd Q
section
variable {s s1 : Ms} {m f : MoM Vl} {x : Vl}
theorem makem {l : MoM (List Vl)} {xs : List Vl} {c : Str} {F : FnM} {ρ' : List Sm} {μ' : List Oc} (em : l s = .ok xs s1) (hF : F (.o s1.μ.length :: xs) (s1.μ ++ [.ins c []]) = .ok (.d .none) ⟨ρ', μ'⟩) : eMakeM c F l s = .ok (.o s1.μ.length) ⟨s1.ρ, μ'⟩ := by
  unfold eMakeM
  rw [em]
  show (match F (.o s1.μ.length :: xs) (s1.μ ++ [.ins c []]) with
    | .ok (.d .none) s2 => .ok (.o s1.μ.length) ⟨s1.ρ, s2.μ⟩
    | .ex c d s2 => .ex c d ⟨s1.ρ, s2.μ⟩
    | _ => .no : RtM Vl) = _
  rw [hF]
theorem slm {ds : List D} {k : Nat} (ef : f s = .ok (.d (.list ds)) s) (em : m s = .ok (.d (.int (k : Nat))) s1) : fSlM f pNoM (pSoM m) s = .ok (lstO (ds.take k)) s1 := by
  have ep : pSoM m s = .ok (some (k : Int)) s1 := by
    unfold pSoM
    rw [em]
    rfl
  unfold fSlM
  rw [ef]
  show (pSoM m s).bind (fun h s3 => asLM (some (cutL ds none h)) s3) = _
  rw [ep]
  show asLM (some (cutL ds none (some (k : Int)))) s1 = _
  rw [cutL_to]
  rfl
theorem form {it : MoM (List Vl)} {g : TgM} {b : MoM OutM} {xs : List Vl} (e : it s = .ok xs s1) : mFor it g b s = loopM g b xs s1 := by
  unfold mFor
  rw [e]
  rfl
theorem rngm {m : MoM (List Vl)} {k : Nat} (hk : k ≤ 1000000) (e : m s = .ok [.d (.int (k : Nat))] s1) : iNM range1D m s = .ok ((rngD 0 k).map .d) s1 := by
  unfold iNM
  rw [e]
  show outLM (range1D [.int (k : Nat)]) s1 = _
  have : range1D [.int (k : Nat)] = some (rngD 0 k) := by
    show (if small (k : Nat) = true then some (rngD 0 ((k : Int).toNat)) else none) = _
    have hs : small (k : Nat) = true := cb_true ⟨by omega, by omega⟩
    rw [if_pos hs, Int.toNat_natCast]
  rw [this]
  rfl
theorem newitm {m : MoM Oc} {xs : List Vl} (e : m s = .ok (.lst xs) s1) : iNewM m s = .ok xs s1 := by
  unfold iNewM
  rw [e]
  rfl
end
theorem kept_one (v : List Str) : kept [v] = if v = [] then [] else [v] := by
  show keepO [] v = _
  unfold keepO
  split
  · rfl
  · rw [if_neg (fun z => nomatch z)]
    rfl
theorem ords_one {v : List Str} (hv : Rows v) (l : v.length ≤ 24) : Ords (kept [v]) := by
  rw [kept_one]
  split
  · exact ⟨fun o h => (nomatch h), fun o h => (nomatch h), by decide⟩
  · exact ⟨fun o h => by rw [List.mem_singleton.mp h]; exact hv, fun o h => by rw [List.mem_singleton.mp h]; exact l, by show 1 ≤ 100; decide⟩
/-- Feed(v) with an empty list beside it: the start -/
theorem start55 {μ : List Oc} {hid k : Nat} {h : List D} {cur : D} {os : List (List Str)} (hm : μ[hid]? = some (lstO h)) (ok : HandOk h k) :
    K55 ((((μ ++ [Oc.ins "Feed" []]) ++ [Oc.dk []]).set μ.length (feedO cur (histD os) (μ ++ [Oc.ins "Feed" []]).length 0)) ++ [lstO []]) hid μ.length (μ.length + 1) (μ.length + 2) h k os cur [] 0 := by
  have lt := (List.getElem?_eq_some_iff.mp hm).1
  have e : (((μ ++ [Oc.ins "Feed" []]) ++ [Oc.dk []]).set μ.length (feedO cur (histD os) (μ ++ [Oc.ins "Feed" []]).length 0)) ++ [lstO []] = μ ++ [feedO cur (histD os) (μ.length + 1) 0, .dk [], lstO []] := by
    rw [List.append_assoc, List.set_append_right _ _ (Nat.le_refl _), Nat.sub_self, List.append_assoc, List.length_append]
    rfl
  rw [e]
  have at' : ∀ j, (μ ++ [feedO cur (histD os) (μ.length + 1) 0, .dk [], lstO []])[μ.length + j]? = [feedO cur (histD os) (μ.length + 1) 0, .dk [], lstO []][j]? := fun j => by
    rw [List.getElem?_append_right (Nat.le_add_right _ _), Nat.add_sub_cancel_left]
  exact ⟨by rw [List.getElem?_append_left lt]; exact hm, ok, at' 0, at' 1, at' 2, by omega, List.nodup_nil, fun x hx => (nomatch hx), by decide⟩
theorem right55 {μ : List Oc} {hid : Nat} {h : List D} (hm : μ[hid]? = some (lstO h)) (ok : HandOk h 0) : ∃ ρ' μ', F__law_right [.o hid] μ = .ok (.d (.bool true)) ⟨ρ', μ'⟩ := by
  -- names
  obtain ⟨ns, h1, hE1, l4, nd, rw_, hk1, _⟩ := names_spec (c := 4) ok (by decide) (by decide)
  have hE1 : F__law_names [.own (.lst h), .dat (.int 4)] = .ok (.own (.lst (ns.map PyData.str))) [.own (.lst h1), .dat (.int 4)] := hE1
  have st1 : mSet 1 (eLockM (fCallO F__law_names (eConsM (eVarM 0) (eConsM (eD (eC (.int 4))) eNilM)))) ⟨[.v (.o hid), .no, .no, .no, .no, .no, .no, .no], μ⟩ = .ok .nx ⟨[.v (.o hid), .v (.d (.list (ns.map PyData.str))), .no, .no, .no, .no, .no, .no], μ.set hid (lstO h1)⟩ :=
    mset (lockm (callF_hand (s := ⟨[.v (.o hid), .no, .no, .no, .no, .no, .no, .no], μ⟩) rfl hm rfl hE1)) (by show 1 < 8; decide)
  have hm1 : (μ.set hid (lstO h1))[hid]? = some (lstO h1) := set_get hm
  -- the feed
  obtain ⟨v, h2, hE2, v0, v1, hk2⟩ := takeM (s := ⟨[.v (.o hid), .v (.d (.list (ns.map PyData.str))), .no, .no, .no, .no, .no, .no], μ.set hid (lstO h1)⟩) (i := 0) (m := eD (eC (.int 5))) (k := 5) rfl hm1 rfl hk1 (by decide) (by decide) (by decide)
  obtain ⟨c, rfl⟩ := Int.eq_ofNat_of_zero_le v0
  have sl := slm (f := eD (eVar 1)) (nin0 rfl) hE2
  rw [← List.map_take] at sl
  have rv : Rows (ns.take c) := fun z hz => rw_ z (List.mem_of_mem_take hz)
  have nv : (ns.take c).Nodup := nd.sublist (List.take_sublist _ _)
  have lv : (ns.take c).length ≤ 24 := by
    rw [List.length_take]
    omega
  have hO := ords_one rv lv
  have hm2 : ((μ.set hid (lstO h1)).set hid (lstO h2))[hid]? = some (lstO h2) := set_get hm1
  generalize (μ.set hid (lstO h1)).set hid (lstO h2) = μ2 at sl hm2
  obtain ⟨ρi, hi⟩ := init_ok (μ := μ2 ++ [.ins "Feed" []]) (f := μ2.length) (v := ns.take c) (by rw [List.getElem?_append_right (Nat.le_refl _), Nat.sub_self]; rfl) rv nv lv
  have mk := makem (cons1 (enm1 (lockm sl) rfl (F := tupleD) rfl)) hi
  have K0 := start55 (cur := verD (ns.take c)) (os := kept [ns.take c]) hm2 hk2
  have ln : (((μ2 ++ [Oc.ins "Feed" []]) ++ [Oc.dk []]).set μ2.length (feedO (verD (ns.take c)) (histD (kept [ns.take c])) (μ2 ++ [Oc.ins "Feed" []]).length 0)).length = μ2.length + 2 := by
    rw [List.length_set, List.length_append, List.length_append]
    rfl
  generalize ((μ2 ++ [Oc.ins "Feed" []]) ++ [Oc.dk []]).set μ2.length (feedO (verD (ns.take c)) (histD (kept [ns.take c])) (μ2 ++ [Oc.ins "Feed" []]).length 0) = μ3 at mk K0 ln
  have nl := newm (s := ⟨[.v (.o hid), .v (.d (.list (ns.map PyData.str))), .no, .no, .no, .no, .no, .no], μ3⟩) (s1 := ⟨[.v (.o hid), .v (.d (.list (ns.map PyData.str))), .no, .no, .no, .no, .no, .no], μ3⟩) (m := fD (fLst eNil)) (c := lstO []) (by
    have sh := short_ok (ds := []) (by decide)
    simp [ocOf, sh])
  rw [ln] at nl
  have st2 := mmany (is := [2, 3, 4]) (cons3 mk nl (m3 := eD (eC (.int 0))) rfl) rfl
  generalize μ3 ++ [lstO []] = μ4 at K0 st2
  generalize kept [ns.take c] = os at K0 hO
  generalize verD (ns.take c) = cur at K0
  -- the turns
  obtain ⟨w, h3, hE3, w0, w1, hk3⟩ := takeM (s := ⟨R55 hid (.list (ns.map PyData.str)) μ2.length (μ2.length + 2) 0 .no .no .no, μ4⟩) (i := 0) (m := eD (eC (.int 51))) (k := 51) rfl K0.hh rfl hk2 (by decide) (by decide) (by decide)
  obtain ⟨w, rfl⟩ := Int.eq_ofNat_of_zero_le w0
  have K1 := K0.hand hk3
  have ad := e2m (F := addD) (f := eD (eC (.int 10))) rfl hE3 rfl rfl (r := .int ((10 + w : Nat) : Int)) rfl
  have fr := form (g := gNM 5) (b := tnB) (rngm (k := 10 + w) (by omega) (cons1 ad))
  have lr : ((rngD 0 (10 + w)).map Vl.d).length = 10 + w := by
    rw [List.length_map]
    unfold rngD
    rw [List.length_map, List.length_range]
  obtain ⟨μ5, l5, h5, ls5, n5, y5, y6, y7, hE5, K5, _⟩ := loopT (nm := .list (ns.map PyData.str)) hO ((rngD 0 (10 + w)).map Vl.d) (x5 := .no) (x6 := .no) (x7 := .no) K1 (by rw [lr]; omega) (by rw [lr]; omega)
  have st3 := fr.trans hE5
  -- forty devices
  obtain ⟨μ6, l6, ls6, n6, st4, K6, e40⟩ := fillT (nm := .list (ns.map PyData.str)) hO 1000 (x5 := y5) (x6 := y6) (x7 := y7) K5 (by omega)
  obtain ⟨ρr, hr⟩ := right_many K6.hf K6.ht K6.hl e40
  have c5 := call0_ok (s := ⟨R55 hid (.list (ns.map PyData.str)) μ2.length l6 n6 y5 y6 y7, μ6⟩) (ma := eConsM (eVarM 2) (eConsM (eVarM 3) (eConsM (eD (eVar 4)) eNilM))) (cons3 rfl rfl (nin0 rfl)) hr
  -- all closed
  obtain ⟨out, h6, hE6, pm, hk6⟩ := shufI_spec (ns := ls6) K6.ok (by have := K6.len; omega) (by rw [lr]; have := K6.len; omega)
  have sh := callF_two (s := ⟨R55 hid (.list (ns.map PyData.str)) μ2.length l6 n6 y5 y6 y7, μ6⟩) (i := 0) (j := 3) rfl K6.hh rfl K6.hl K6.ne hE6
  have f6 : (μ6.set hid (lstO h6))[μ2.length]? = some (feedO cur (histD os) (μ2.length + 1) n6) := by
    rw [set_ne (ne_fl K6.hf K6.hh).symm]
    exact K6.hf
  have t6 : (μ6.set hid (lstO h6))[μ2.length + 1]? = some (.dk (kvT (fun _ => tokD os []) ls6)) := by
    rw [set_ne (ne_tl K6.ht K6.hh).symm]
    exact K6.ht
  obtain ⟨μ7, z6, hE7, f7, t7⟩ := closeAll (hid := hid) (nm := .list (ns.map PyData.str)) out ls6 (l := l6) (x5 := y5) (x6 := y6) (x7 := y7) f6 t6 pm.symm (pm.nodup_iff.mpr K6.nd) fun x hx => K6.lt x (pm.subset hx)
  have em : (out.map PyData.int).map Vl.d = out.map fun i => Vl.d (.int i) := List.map_map
  rw [← em] at hE7
  have st6 := (form (g := gNM 6) (b := clB) (newitm sh)).trans hE7
  obtain ⟨ρd, hd⟩ := devices_ok f7 t7 (by decide)
  obtain ⟨ρo, ho⟩ := open_ok f7 t7 (by decide) (fun z => nomatch z) hO.rows (Nat.le_trans hO.few (by decide)) rfl
  have d7 := meth_ok (s := ⟨R55 hid (.list (ns.map PyData.str)) μ2.length l6 n6 y5 z6 y7, μ7⟩) (mo := eVarM 2) (ma := eNilM) (mt := "devices") rfl f7 rfl rfl hd
  have o7 := meth_ok (s := ⟨R55 hid (.list (ns.map PyData.str)) μ2.length l6 n6 y5 z6 y7, μ7⟩) (mo := eVarM 2) (ma := eNilM) (mt := "open_device") rfl f7 rfl rfl ho
  have q1 : eqF (.tuple ((isrt []).map PyData.int)) (.tuple []) = some (.bool true) := by
    have : isrt [] = [] := List.perm_nil.mp (isrt_perm [])
    rw [this]
    exact (Rf.ints []).eqF (by decide)
  have q2 := eq_int (n6 : Int) (n6 : Int)
  rw [beq_self_eq_true] at q2
  have en : eD (eTup eNil) ⟨R55 hid (.list (ns.map PyData.str)) μ2.length l6 n6 y5 z6 y7, μ7⟩ = .ok (.d (.tuple [])) ⟨R55 hid (.list (ns.map PyData.str)) μ2.length l6 n6 y5 z6 y7, μ7⟩ := by
    unfold eD
    rw [e_nil]
  have fin : ∃ s', b__law_right ⟨[.v (.o hid), .no, .no, .no, .no, .no, .no, .no], μ⟩ = .ok (.rt (.d (.bool true))) s' := by
    apply Exists.intro
    exact mseq_nx st1 (mseq_nx st2 (mseq_nx st3 (mseq_nx st4 (mseq_nx (mif_f (bnotm (t := true) (asbm c5)) rfl) (mseq_nx st6 (mseq_rt (mret (eandm_t (e2m d7 en rfl rfl q1) (e2m o7 (nin0 rfl) rfl rfl q2)))))))))
  obtain ⟨s', e⟩ := fin
  exact ⟨s'.ρ, s'.μ, fnM_rt (n := 1) (N := 8) (b := b__law_right) rfl e⟩
end Z
namespace Z
open PySem PySem.Spec PyProof.Rows L2 Gd Q
noncomputable def ltE : MoM Vl := (eCall0M F__law_right (eConsM (eNewM (fD (fCall F__law_hand (eCons (eVar 0) (eCons (eVar 1) eNil))))) eNilM))
noncomputable def ltI : Mo (List D) := (iN range1D (eCons (eN max2D (eCons (eC (.int 1)) (eCons (eN min2D (eCons (eC (.int 3)) (eCons (eN lenD (eCons (eVar 0) eNil)) eNil))) eNil))) eNil))
theorem law_comp {ns : List Int} : ∀ (ks : List Nat) (μ : List Oc), (∀ k ∈ ks, k ≤ 1000) →
    ∃ μ', compM (gNM 1) bYesM ltE [1] ((ks.map fun k => PyData.int (k : Nat)).map Vl.d) ⟨[.v (.d (scrD ns)), .no], μ⟩ = .ok ((ks.map fun _ => PyData.bool true).map Vl.d) ⟨[.v (.d (scrD ns)), .no], μ'⟩
  | [], μ, _ => ⟨μ, rfl⟩
  | k :: ks, μ, hks => by
    obtain ⟨h, eh, ok⟩ := hand_spec (ns := ns) (k := k) (hks k List.mem_cons_self)
    have fh : fD (fCall F__law_hand (eCons (eVar 0) (eCons (eVar 1) eNil))) ⟨[.v (.d (scrD ns)), .v (.d (.int (k : Nat)))], μ⟩ = .ok (lstO h) ⟨[.v (.d (scrD ns)), .v (.d (.int (k : Nat)))], μ⟩ := by
      have : (fCall F__law_hand (eCons (eVar 0) (eCons (eVar 1) eNil))) [.dat (scrD ns), .dat (.int (k : Nat))] = .ok (.lst h) [.dat (scrD ns), .dat (.int (k : Nat))] := by
        generalize scrD ns = A at eh ⊢
        simp [eh]
      unfold fD
      show (match (fCall F__law_hand (eCons (eVar 0) (eCons (eVar 1) eNil))) [.dat (scrD ns), .dat (.int (k : Nat))] with
        | .ok o _ => match ocOf o with
          | some c => RtM.ok c ⟨[.v (.d (scrD ns)), .v (.d (.int (k : Nat)))], μ⟩
          | none => .no
        | .ex c d _ => .ex c d ⟨[.v (.d (scrD ns)), .v (.d (.int (k : Nat)))], μ⟩
        | .no => .no) = _
      rw [this]
      rfl
    obtain ⟨ρ', μ1, hr⟩ := right55 (μ := μ ++ [lstO h]) (hid := μ.length) (by rw [List.getElem?_append_right (Nat.le_refl _), Nat.sub_self]; rfl) ok
    have he : ltE ⟨[.v (.d (scrD ns)), .v (.d (.int (k : Nat)))], μ⟩ = .ok (.d (.bool true)) ⟨[.v (.d (scrD ns)), .v (.d (.int (k : Nat)))], μ1⟩ := call0_ok (cons1 (newm fh)) hr
    obtain ⟨μ2, ih⟩ := law_comp ks μ1 fun j hj => hks j (List.mem_cons_of_mem _ hj)
    refine ⟨μ2, ?_⟩
    rw [List.map_cons, List.map_cons, List.map_cons, List.map_cons]
    unfold compM
    show (ltE ⟨[.v (.d (scrD ns)), .v (.d (.int (k : Nat)))], μ⟩).bnd _ = _
    rw [he]
    show (compM (gNM 1) bYesM ltE [1] ((ks.map fun k => PyData.int (k : Nat)).map Vl.d) ⟨[.v (.d (scrD ns)), .no], μ1⟩).bnd _ = _
    rw [ih]
    rfl
theorem law_true {ns : List Int} (_ : ns.length ≤ 63) : ∃ s', F_law [.d (scrD ns)] [] = .ok (.d (.bool true)) s' := by
  have hc : ∃ c : Nat, c ≤ 3 ∧ (if (if (ns.length : Int) < 3 then (ns.length : Int) else 3) > 1 then (if (ns.length : Int) < 3 then (ns.length : Int) else 3) else 1) = (c : Int) := by
    by_cases a : (ns.length : Int) < 3
    · rw [if_pos a]
      by_cases b : (ns.length : Int) > 1
      · rw [if_pos b]
        exact ⟨ns.length, by omega, rfl⟩
      · rw [if_neg b]
        exact ⟨1, by decide, rfl⟩
    · rw [if_neg a]
      exact ⟨3, by decide, rfl⟩
  obtain ⟨c, lc, ec⟩ := hc
  have r1 := range1_eq (c := c) (by omega)
  have ei : ltI [.dat (scrD ns), .no] = .ok ((List.range c).map fun i => .int (i : Nat)) [.dat (scrD ns), .no] := by
    unfold ltI
    simp [scrD, ec, r1]
  have im : iD ltI ⟨[.v (.d (scrD ns)), .no], []⟩ = .ok (((List.range c).map fun i => PyData.int (i : Nat)).map Vl.d) ⟨[.v (.d (scrD ns)), .no], []⟩ := by
    unfold iD
    show (match ltI [.dat (scrD ns), .no] with
      | .ok ds _ => RtM.ok (ds.map Vl.d) ⟨[.v (.d (scrD ns)), .no], []⟩
      | .ex c d _ => .ex c d ⟨[.v (.d (scrD ns)), .no], []⟩
      | .no => .no) = _
    rw [ei]
  obtain ⟨μ', e⟩ := law_comp (ns := ns) (List.range c) [] fun k hk => by have := List.mem_range.mp hk; omega
  have fc : fCompM (iD ltI) (gNM 1) bYesM ltE [1] ⟨[.v (.d (scrD ns)), .no], []⟩ = .ok (lstO ((List.range c).map fun _ => .bool true)) ⟨[.v (.d (scrD ns)), .no], μ'⟩ := by
    unfold fCompM
    rw [im]
    show (if (((List.range c).map fun i => PyData.int (i : Nat)).map Vl.d).length ≤ 1000000 then (compM (gNM 1) bYesM ltE [1] (((List.range c).map fun i => PyData.int (i : Nat)).map Vl.d) ⟨[.v (.d (scrD ns)), .no], []⟩).bnd fun ys s2 => RtM.ok (Oc.lst ys) ⟨mixM [.v (.d (scrD ns)), .no] s2.ρ [1], s2.μ⟩ else .no) = _
    rw [if_pos (by rw [List.length_map, List.length_map, List.length_range]; omega), e]
    rfl
  have ab := all_bools (bs := (List.range c).map fun _ => true)
  rw [List.map_map] at ab
  have ea : ((List.range c).map fun _ => true).all id = true := by
    rw [List.all_map]
    simp
  rw [ea] at ab
  have ab : allD [.list ((List.range c).map fun _ => PyData.bool true)] = some (.bool true) := ab
  have fin : ∃ s', b_law ⟨[.v (.d (scrD ns)), .no], []⟩ = .ok (.rt (.d (.bool true))) s' := by
    apply Exists.intro
    exact mseq_rt (mret (enm1 (lockm fc) rfl ab))
  obtain ⟨s', e⟩ := fin
  exact ⟨s', fnM_rt (n := 1) (N := 2) (b := b_law) rfl e⟩
end Z
namespace Z
open PySem PySem.Spec PyProof.Rows L2 Gd Q
section
variable [Tbl] {P : Program} {w : World} {K : PySem.W.Frag} {mg : Str → Option Value} {base : Heap} {f__law_take f__law_pick f__law_names f__law_shuffled f_kept_orders f_is_row f_is_version f_Feed___init__ f_prefix_length f_encode_state f_Feed_open_device f__law_opened f_union_of f_is_integer_within f_is_token f_decode_token f_Feed_require_device f_Feed_token_of f_Feed_state_of f_Feed_devices f__law_open_right f_Feed_close_device f__law_right f__law_hand f_law c_PagesError c_TooMany c_BadToken c_BadVersion c_NoDevice c_Feed i_TooMany i_BadToken i_BadVersion i_NoDevice : Addr} {e__law_take e__law_pick e__law_names e__law_shuffled e_kept_orders e_is_row e_is_version e_Feed___init__ e_prefix_length e_encode_state e_Feed_open_device e__law_opened e_union_of e_is_integer_within e_is_token e_decode_token e_Feed_require_device e_Feed_token_of e_Feed_state_of e_Feed_devices e__law_open_right e_Feed_close_device e__law_right e__law_hand e_law j_TooMany j_BadToken j_BadVersion j_NoDevice : FuncData}
theorem ok__law_take (T : Txt0 K mg f__law_take f__law_pick f__law_names f__law_shuffled f_kept_orders f_is_row f_is_version f_Feed___init__ f_prefix_length f_encode_state f_Feed_open_device f__law_opened f_union_of f_is_integer_within f_is_token f_decode_token f_Feed_require_device f_Feed_token_of f_Feed_state_of f_Feed_devices f__law_open_right f_Feed_close_device f__law_right f__law_hand f_law c_PagesError c_TooMany c_BadToken c_BadVersion c_NoDevice c_Feed i_TooMany i_BadToken i_BadVersion i_NoDevice e__law_take e__law_pick e__law_names e__law_shuffled e_kept_orders e_is_row e_is_version e_Feed___init__ e_prefix_length e_encode_state e_Feed_open_device e__law_opened e_union_of e_is_integer_within e_is_token e_decode_token e_Feed_require_device e_Feed_token_of e_Feed_state_of e_Feed_devices e__law_open_right e_Feed_close_device e__law_right e__law_hand e_law j_TooMany j_BadToken j_BadVersion j_NoDevice) : FnG P w K mg base 1 f__law_take e__law_take ["_law_hand_here", "_law_many"] (spD K F__law_take) := by
  exact okD T.d__law_take sc__law_take (by decide) fun cdv A outer s H E hc hg hr =>
      (xss_cons (xs_if (xb_cmp o_gt q2 (xd_ix (xd_var (pv 0)) xd_int (fun _ _ => rfl)) xd_int (nomark _)) (xss_cons (xs_set (i := 2) (by decide) sc__law_take.nd rfl (.inl rfl) (xd_op o_mod q2 (xd_ix (xd_var (pv 0)) xd_int (fun _ _ => rfl)) (xd_var (pv 1))))
      (xss_cons (xs_setix (pv 0) (xd_op o_fdiv q2 (xd_ix (xd_var (pv 0)) xd_int (fun _ _ => rfl)) (xd_var (pv 1))) xd_int)
      (xss_cons (xs_ret (xd_var (pv 2)))
      xss_nil))) xss_nil)
      (xss_cons (xs_set (i := 3) (by decide) sc__law_take.nd rfl (.inl rfl) (xd_op o_add q2 (xd_ix (xd_var (pv 0)) xd_int (fun _ _ => rfl)) xd_int))
      (xss_cons (xs_setix (pv 0) (xd_var (pv 3)) xd_int)
      (xss_cons (xs_set (i := 4) (by decide) sc__law_take.nd rfl (.inl rfl) (xd_ix (xd_lock (xf_lst (xa_cons xd_int (xa_cons xd_int (xa_cons xd_int (xa_cons xd_int (xa_cons xd_int (xa_cons xd_int xa_nil)))))))) (xd_op o_mod q2 (xd_var (pv 3)) xd_int) (fun _ _ => rfl)))
      (xss_cons (xs_set (i := 5) (by decide) sc__law_take.nd rfl (.inl rfl) (xd_op o_mod q2 (xd_op o_pow q2 (xd_op o_add q2 (xd_op o_add q2 (xd_ix (xd_var (pv 0)) xd_int (fun _ _ => rfl)) (xd_op o_mulA q2 (xd_op o_mulA q2 xd_int (xd_var (pv 3))) (xd_var (pv 3)))) (xd_op o_mulA q2 xd_int (xd_var (pv 3)))) xd_int) (xd_var (pv 4))))
      (xss_cons (xs_ret (xd_op o_mod q2 (xd_op o_fdiv q2 (xd_op o_mod q2 (xd_op o_mulA q2 (xd_var (pv 5)) (xd_op o_add q2 (xd_op o_mod q2 (xd_var (pv 5)) xd_int) (xd_op o_mulA q2 xd_int (xd_var (pv 3))))) xd_int) xd_int) (xd_var (pv 1))))
      xss_nil))))))
theorem ok_kept_orders (T : Txt0 K mg f__law_take f__law_pick f__law_names f__law_shuffled f_kept_orders f_is_row f_is_version f_Feed___init__ f_prefix_length f_encode_state f_Feed_open_device f__law_opened f_union_of f_is_integer_within f_is_token f_decode_token f_Feed_require_device f_Feed_token_of f_Feed_state_of f_Feed_devices f__law_open_right f_Feed_close_device f__law_right f__law_hand f_law c_PagesError c_TooMany c_BadToken c_BadVersion c_NoDevice c_Feed i_TooMany i_BadToken i_BadVersion i_NoDevice e__law_take e__law_pick e__law_names e__law_shuffled e_kept_orders e_is_row e_is_version e_Feed___init__ e_prefix_length e_encode_state e_Feed_open_device e__law_opened e_union_of e_is_integer_within e_is_token e_decode_token e_Feed_require_device e_Feed_token_of e_Feed_state_of e_Feed_devices e__law_open_right e_Feed_close_device e__law_right e__law_hand e_law j_TooMany j_BadToken j_BadVersion j_NoDevice) (HW : HsOk P w) : FnG P w K mg base 1 f_kept_orders e_kept_orders ["orders"] (spD K F_kept_orders) := by
  exact okD T.d_kept_orders sc_kept_orders (by decide) fun cdv A outer s H E hc hg hr =>
      (xss_cons (xs_setDcT (i := 1) (own := [("order", 2)]) (vs := [2]) (by decide) rfl rfl (sw_dict rfl rfl rfl (by decide +kernel)) HW (units65 hr) rfl sc_kept_orders.nd rfl (by decide) (by decide) (xi_seq (xd_var (pv 0))) (blkOk_by (own := [("order", 2)]) (N := n_kept_orders) (sc := defScope s_kept_orders) (by decide +kernel)) (fun _ _ _ _ _ => (xg_name (i := 2) (by decide) sc_kept_orders.nd rfl (by first | exact .inl rfl | exact .inr rfl))) (fun _ _ _ _ _ => (xts_one (xb_cmp o_gt q2 (xd_callB c_len (by rfl) T.m_len (by decide +kernel) (xa_cons (xd_var (pv 2)) xa_nil)) xd_int (nomark _)))) (fun _ _ _ _ _ => (xd_var (pv 2))) (fun _ _ _ _ _ => xd_bl))
      (xss_cons (xs_ret (xd_tupT HW rfl (by rfl) T.m_tuple (pv 1)))
      xss_nil))
theorem ok_is_row (T : Txt0 K mg f__law_take f__law_pick f__law_names f__law_shuffled f_kept_orders f_is_row f_is_version f_Feed___init__ f_prefix_length f_encode_state f_Feed_open_device f__law_opened f_union_of f_is_integer_within f_is_token f_decode_token f_Feed_require_device f_Feed_token_of f_Feed_state_of f_Feed_devices f__law_open_right f_Feed_close_device f__law_right f__law_hand f_law c_PagesError c_TooMany c_BadToken c_BadVersion c_NoDevice c_Feed i_TooMany i_BadToken i_BadVersion i_NoDevice e__law_take e__law_pick e__law_names e__law_shuffled e_kept_orders e_is_row e_is_version e_Feed___init__ e_prefix_length e_encode_state e_Feed_open_device e__law_opened e_union_of e_is_integer_within e_is_token e_decode_token e_Feed_require_device e_Feed_token_of e_Feed_state_of e_Feed_devices e__law_open_right e_Feed_close_device e__law_right e__law_hand e_law j_TooMany j_BadToken j_BadVersion j_NoDevice) : FnG P w K mg base 1 f_is_row e_is_row ["value"] (spD K F_is_row) := by
  exact okD T.d_is_row sc_is_row (by decide) fun cdv A outer s H E hc hg hr =>
      (xss_cons (xs_if (PW.pt (xw_or (xb_not (xb_val (xd_isi (T := "str") (by decide) (by rfl) T.m_isinstance (pe_bltn (v := .ty "str") (by rfl) T.m_str (by decide +kernel) rfl) (xd_var (pv 0))))) (xw_or1 (xb_not (xb_chain o_le q2 o_le q2 xd_int (xd_callB c_len (by rfl) T.m_len (by decide +kernel) (xa_cons (xd_var (pv 0)) xa_nil)) (xd_c (pe_glob (v := .int 8) (by rfl) T.cMOST_LETTERS.choose_spec ⟨_, rfl⟩) fun _ => .int _)))))) (xss_cons (xs_ret xd_bl)
      xss_nil) xss_nil)
      (xss_cons (xs_ret (xd_callB (c_all rfl) (by rfl) T.m_all (by decide +kernel) (xa_cons (xd_lock (xf_comp (own := [("letter", 1)]) (vs := [1]) rfl sc_is_row.nd rfl (by decide) (by decide) (xi_seq (xd_var (pv 0))) (blkOk_by (own := [("letter", 1)]) (N := n_is_row) (sc := defScope s_is_row) (by decide +kernel)) (fun _ _ _ _ _ => (xg_name (i := 1) (by decide) sc_is_row.nd rfl (by first | exact .inl rfl | exact .inr rfl))) (fun _ _ _ _ _ => xts_nil) (fun _ _ _ _ _ => (xd_chain o_le q2 o_le q2 xd_str (xd_var (pv 1)) xd_str)))) xa_nil)))
      xss_nil))
theorem ok_prefix_length (T : Txt0 K mg f__law_take f__law_pick f__law_names f__law_shuffled f_kept_orders f_is_row f_is_version f_Feed___init__ f_prefix_length f_encode_state f_Feed_open_device f__law_opened f_union_of f_is_integer_within f_is_token f_decode_token f_Feed_require_device f_Feed_token_of f_Feed_state_of f_Feed_devices f__law_open_right f_Feed_close_device f__law_right f__law_hand f_law c_PagesError c_TooMany c_BadToken c_BadVersion c_NoDevice c_Feed i_TooMany i_BadToken i_BadVersion i_NoDevice e__law_take e__law_pick e__law_names e__law_shuffled e_kept_orders e_is_row e_is_version e_Feed___init__ e_prefix_length e_encode_state e_Feed_open_device e__law_opened e_union_of e_is_integer_within e_is_token e_decode_token e_Feed_require_device e_Feed_token_of e_Feed_state_of e_Feed_devices e__law_open_right e_Feed_close_device e__law_right e__law_hand e_law j_TooMany j_BadToken j_BadVersion j_NoDevice) : FnG P w K mg base 1 f_prefix_length e_prefix_length ["version", "live", "rows"] (spD K F_prefix_length) := by
  exact okD T.d_prefix_length sc_prefix_length (by decide) fun cdv A outer s H E hc hg hr =>
      (xss_cons (xs_for PassesOwn.never rfl (xi_enum (by rfl) T.m_enumerate (xa_cons (xd_var (pv 0)) xa_nil)) (xg_tup (by rfl) (xgs_cons (xg_name (i := 3) (by decide) sc_prefix_length.nd rfl (.inl rfl)) (xgs_cons (xg_name (i := 4) (by decide) sc_prefix_length.nd rfl (.inl rfl)) xgs_nil))) (xss_cons (xs_if (PW.pt (xw_and (xb_cmp (o_nin (units65 hr)) q2 (xd_var (pv 4)) (xd_var (pv 2)) (by rfl)) (xw_and1 (xb_cmp (o_in (units65 hr)) q2 (xd_var (pv 4)) (xd_var (pv 1)) (by rfl))))) (xss_cons (xs_ret (xd_var (pv 3)))
      xss_nil) xss_nil)
      xss_nil))
      (xss_cons (xs_ret (xd_callB c_len (by rfl) T.m_len (by decide +kernel) (xa_cons (xd_var (pv 0)) xa_nil)))
      xss_nil))
theorem ok_union_of (T : Txt0 K mg f__law_take f__law_pick f__law_names f__law_shuffled f_kept_orders f_is_row f_is_version f_Feed___init__ f_prefix_length f_encode_state f_Feed_open_device f__law_opened f_union_of f_is_integer_within f_is_token f_decode_token f_Feed_require_device f_Feed_token_of f_Feed_state_of f_Feed_devices f__law_open_right f_Feed_close_device f__law_right f__law_hand f_law c_PagesError c_TooMany c_BadToken c_BadVersion c_NoDevice c_Feed i_TooMany i_BadToken i_BadVersion i_NoDevice e__law_take e__law_pick e__law_names e__law_shuffled e_kept_orders e_is_row e_is_version e_Feed___init__ e_prefix_length e_encode_state e_Feed_open_device e__law_opened e_union_of e_is_integer_within e_is_token e_decode_token e_Feed_require_device e_Feed_token_of e_Feed_state_of e_Feed_devices e__law_open_right e_Feed_close_device e__law_right e__law_hand e_law j_TooMany j_BadToken j_BadVersion j_NoDevice) : FnG P w K mg base 1 f_union_of e_union_of ["groups"] (spD K F_union_of) := by
  exact okD T.d_union_of sc_union_of (by decide) fun cdv A outer s H E hc hg hr =>
      (xss_cons (xs_ret (xd_callT c_tuple (by rfl) T.m_tuple (by decide +kernel) (xa_cons (xd_lock (xf_sortSc2 (own := [("rows", 1), ("row", 2)]) (vs := [1, 2]) (vs2 := [2]) rfl (by rfl) T.m_sorted sc_union_of.nd rfl (by decide) (by decide) (by decide) (by decide) (xi_seq (xd_var (pv 0))) (blkOk_by (own := [("rows", 1), ("row", 2)]) (N := n_union_of) (sc := defScope s_union_of) (by decide +kernel)) (fun _ _ _ _ _ => (xg_name (i := 1) (by decide) sc_union_of.nd rfl (by first | exact .inl rfl | exact .inr rfl))) (fun _ _ _ _ _ => (xi_seq (xd_var (pv 1)))) (fun _ _ _ _ _ => (xg_name (i := 2) (by decide) sc_union_of.nd rfl (by first | exact .inl rfl | exact .inr rfl))) (fun _ _ _ _ _ => (xd_var (pv 2))))) xa_nil)))
      xss_nil)
theorem ok_is_integer_within (T : Txt0 K mg f__law_take f__law_pick f__law_names f__law_shuffled f_kept_orders f_is_row f_is_version f_Feed___init__ f_prefix_length f_encode_state f_Feed_open_device f__law_opened f_union_of f_is_integer_within f_is_token f_decode_token f_Feed_require_device f_Feed_token_of f_Feed_state_of f_Feed_devices f__law_open_right f_Feed_close_device f__law_right f__law_hand f_law c_PagesError c_TooMany c_BadToken c_BadVersion c_NoDevice c_Feed i_TooMany i_BadToken i_BadVersion i_NoDevice e__law_take e__law_pick e__law_names e__law_shuffled e_kept_orders e_is_row e_is_version e_Feed___init__ e_prefix_length e_encode_state e_Feed_open_device e__law_opened e_union_of e_is_integer_within e_is_token e_decode_token e_Feed_require_device e_Feed_token_of e_Feed_state_of e_Feed_devices e__law_open_right e_Feed_close_device e__law_right e__law_hand e_law j_TooMany j_BadToken j_BadVersion j_NoDevice) : FnG P w K mg base 1 f_is_integer_within e_is_integer_within ["value", "low", "high"] (spD K F_is_integer_within) := by
  exact okD T.d_is_integer_within sc_is_integer_within (by decide) fun cdv A outer s H E hc hg hr =>
      (xss_cons (xs_if (PW.pt (xw_or (xb_val (xd_isi (T := "bool") (by decide) (by rfl) T.m_isinstance (pe_bltn (v := .ty "bool") (by rfl) T.m_bool (by decide +kernel) rfl) (xd_var (pv 0)))) (xw_or1 (xb_not (xb_val (xd_isi (T := "int") (by decide) (by rfl) T.m_isinstance (pe_bltn (v := .ty "int") (by rfl) T.m_int (by decide +kernel) rfl) (xd_var (pv 0)))))))) (xss_cons (xs_ret xd_bl)
      xss_nil) xss_nil)
      (xss_cons (xs_ret (xd_chain o_le q2 o_le q2 (xd_var (pv 1)) (xd_var (pv 0)) (xd_var (pv 2))))
      xss_nil))
theorem ok_Feed_devices (T : Txt0 K mg f__law_take f__law_pick f__law_names f__law_shuffled f_kept_orders f_is_row f_is_version f_Feed___init__ f_prefix_length f_encode_state f_Feed_open_device f__law_opened f_union_of f_is_integer_within f_is_token f_decode_token f_Feed_require_device f_Feed_token_of f_Feed_state_of f_Feed_devices f__law_open_right f_Feed_close_device f__law_right f__law_hand f_law c_PagesError c_TooMany c_BadToken c_BadVersion c_NoDevice c_Feed i_TooMany i_BadToken i_BadVersion i_NoDevice e__law_take e__law_pick e__law_names e__law_shuffled e_kept_orders e_is_row e_is_version e_Feed___init__ e_prefix_length e_encode_state e_Feed_open_device e__law_opened e_union_of e_is_integer_within e_is_token e_decode_token e_Feed_require_device e_Feed_token_of e_Feed_state_of e_Feed_devices e__law_open_right e_Feed_close_device e__law_right e__law_hand e_law j_TooMany j_BadToken j_BadVersion j_NoDevice) : FnGX P w K mg base 1 f_Feed_devices e_Feed_devices ["self"] (spM K F_Feed_devices) := by
  exact okMX T.d_Feed_devices sc_Feed_devices (by decide) fun cdv A outer s H E hg hr =>
      (mss_cons (ms_ret (md_callT c_tuple (by rfl) T.m_tuple (by decide +kernel) (ma_cons (md_lock (mf_callB (c_sortI rfl) (by rfl) T.m_sorted (by decide +kernel) (ma_cons (md_fld T.cl_Feed (.tail _ (.tail _ (.head _))) (md_var (pv 0))) ma_nil))) ma_nil)))
      mss_nil)
theorem ok__law_hand (T : Txt0 K mg f__law_take f__law_pick f__law_names f__law_shuffled f_kept_orders f_is_row f_is_version f_Feed___init__ f_prefix_length f_encode_state f_Feed_open_device f__law_opened f_union_of f_is_integer_within f_is_token f_decode_token f_Feed_require_device f_Feed_token_of f_Feed_state_of f_Feed_devices f__law_open_right f_Feed_close_device f__law_right f__law_hand f_law c_PagesError c_TooMany c_BadToken c_BadVersion c_NoDevice c_Feed i_TooMany i_BadToken i_BadVersion i_NoDevice e__law_take e__law_pick e__law_names e__law_shuffled e_kept_orders e_is_row e_is_version e_Feed___init__ e_prefix_length e_encode_state e_Feed_open_device e__law_opened e_union_of e_is_integer_within e_is_token e_decode_token e_Feed_require_device e_Feed_token_of e_Feed_state_of e_Feed_devices e__law_open_right e_Feed_close_device e__law_right e__law_hand e_law j_TooMany j_BadToken j_BadVersion j_NoDevice) : FnG P w K mg base 1 f__law_hand e__law_hand ["_law_script", "_law_k"] (spD K F__law_hand) := by
  exact okD T.d__law_hand sc__law_hand (by decide) fun cdv A outer s H E hc hg hr =>
      (xss_cons (xs_set (i := 2) (by decide) sc__law_hand.nd rfl (.inl rfl) (xd_if (xb_cmp o_lt q2 (xd_var (pv 1)) (xd_callB c_len (by rfl) T.m_len (by decide +kernel) (xa_cons (xd_var (pv 0)) xa_nil)) (nomark _)) (xd_ix (xd_var (pv 0)) (xd_var (pv 1)) (fun _ _ => rfl)) (xd_op o_add q2 (xd_op o_mulA q2 xd_int (xd_var (pv 1))) xd_int)))
      (xss_cons (xs_set (i := 3) (by decide) sc__law_hand.nd rfl (.inl rfl) (xd_op o_mulA q2 (xd_op o_mod q2 (xd_callB c_abs (by rfl) T.m_abs (by decide +kernel) (xa_cons (xd_var (pv 2)) xa_nil)) (xd_op o_mulA q2 (xd_op o_mulA q2 (xd_op o_mulA q2 (xd_op o_pow q2 xd_int xd_int) (xd_op o_pow q2 xd_int xd_int)) (xd_op o_pow q2 xd_int xd_int)) (xd_op o_pow q2 xd_int xd_int))) (xd_callT c_int (by rfl) T.m_int (by decide +kernel) (xa_cons (xd_cmp o_ge q2 (xd_callB c_abs (by rfl) T.m_abs (by decide +kernel) (xa_cons (xd_var (pv 2)) xa_nil)) (xd_op o_pow q2 xd_int xd_int) (nomark _)) xa_nil))))
      (xss_cons (xs_retF (xf_lst (xa_cons (xd_var (pv 3)) (xa_cons (xd_op o_mod q2 (xd_op o_mulA q2 (xd_op o_add q2 (xd_op o_add q2 (xd_op o_mod q2 (xd_var (pv 2)) xd_int) (xd_op o_mulA q2 (xd_op o_mulA q2 xd_int (xd_var (pv 1))) (xd_var (pv 1)))) xd_int) xd_int) xd_int) (xa_cons xd_int xa_nil)))))
      xss_nil)))
theorem ok__law_pick (T : Txt0 K mg f__law_take f__law_pick f__law_names f__law_shuffled f_kept_orders f_is_row f_is_version f_Feed___init__ f_prefix_length f_encode_state f_Feed_open_device f__law_opened f_union_of f_is_integer_within f_is_token f_decode_token f_Feed_require_device f_Feed_token_of f_Feed_state_of f_Feed_devices f__law_open_right f_Feed_close_device f__law_right f__law_hand f_law c_PagesError c_TooMany c_BadToken c_BadVersion c_NoDevice c_Feed i_TooMany i_BadToken i_BadVersion i_NoDevice e__law_take e__law_pick e__law_names e__law_shuffled e_kept_orders e_is_row e_is_version e_Feed___init__ e_prefix_length e_encode_state e_Feed_open_device e__law_opened e_union_of e_is_integer_within e_is_token e_decode_token e_Feed_require_device e_Feed_token_of e_Feed_state_of e_Feed_devices e__law_open_right e_Feed_close_device e__law_right e__law_hand e_law j_TooMany j_BadToken j_BadVersion j_NoDevice) : FnG P w K mg base 2 f__law_pick e__law_pick ["_law_hand_here", "_law_items"] (spD K F__law_pick) := by
  have G__law_take := ok__law_take (P := P) (w := w) (base := base) T
  exact okD T.d__law_pick sc__law_pick (by decide) fun cdv A outer s H E hc hg hr =>
      (xss_cons (xs_ret (xd_ix (xd_var (pv 1)) (xd_call G__law_take hg (hr.mono (by decide)) (by rfl) T.g__law_take T.d__law_take.kp T.b__law_take (xa_cons (xd_var (pv 0)) (xa_cons (xd_callB c_len (by rfl) T.m_len (by decide +kernel) (xa_cons (xd_var (pv 1)) xa_nil)) xa_nil))) (fun _ _ => rfl)))
      xss_nil)
theorem ok__law_shuffled (T : Txt0 K mg f__law_take f__law_pick f__law_names f__law_shuffled f_kept_orders f_is_row f_is_version f_Feed___init__ f_prefix_length f_encode_state f_Feed_open_device f__law_opened f_union_of f_is_integer_within f_is_token f_decode_token f_Feed_require_device f_Feed_token_of f_Feed_state_of f_Feed_devices f__law_open_right f_Feed_close_device f__law_right f__law_hand f_law c_PagesError c_TooMany c_BadToken c_BadVersion c_NoDevice c_Feed i_TooMany i_BadToken i_BadVersion i_NoDevice e__law_take e__law_pick e__law_names e__law_shuffled e_kept_orders e_is_row e_is_version e_Feed___init__ e_prefix_length e_encode_state e_Feed_open_device e__law_opened e_union_of e_is_integer_within e_is_token e_decode_token e_Feed_require_device e_Feed_token_of e_Feed_state_of e_Feed_devices e__law_open_right e_Feed_close_device e__law_right e__law_hand e_law j_TooMany j_BadToken j_BadVersion j_NoDevice) : FnG P w K mg base 2 f__law_shuffled e__law_shuffled ["_law_hand_here", "_law_items"] (spD K F__law_shuffled) := by
  have G__law_take := ok__law_take (P := P) (w := w) (base := base) T
  exact okD T.d__law_shuffled sc__law_shuffled (by decide) fun cdv A outer s H E hc hg hr =>
      (xss_cons (xs_par (i := 2) (j := 3) (ma := (.ff (fN listD (eCons (eVar 1) eNil)))) (mb := (.ff (fLst eNil))) (by decide) (by decide) rfl sc__law_shuffled.nd rfl rfl (by decide) rfl rfl (xf_callT c_list (by rfl) T.m_list (by decide +kernel) (xa_cons (xd_var (pv 1)) xa_nil)) (xf_lst xa_nil) (fun h => ps_par (by rfl) sc__law_shuffled.nd rfl rfl (by decide) rfl rfl h (by rfl)))
      (xss_cons (xs_while 1000 PassesOwn.never (xb_cmp (o_ne hr.units) q2 (xd_var (pv 2)) (xd_lock (xf_lst xa_nil)) (nomark _)) (xss_cons (xs_expr (xd_mut m_app PySem.F.slot_list_append PySem.F.type_list_append (pv 3) (xa_cons (xd_mut m_pop PySem.F.slot_list_pop PySem.F.type_list_pop (pv 2) (xa_cons (xd_call G__law_take hg (hr.mono (by decide)) (by rfl) T.g__law_take T.d__law_take.kp T.b__law_take (xa_cons (xd_var (pv 0)) (xa_cons (xd_callB c_len (by rfl) T.m_len (by decide +kernel) (xa_cons (xd_var (pv 2)) xa_nil)) xa_nil))) xa_nil)) xa_nil)))
      xss_nil))
      (xss_cons (xs_ret (xd_var (pv 3)))
      xss_nil)))
theorem ok_is_version (T : Txt0 K mg f__law_take f__law_pick f__law_names f__law_shuffled f_kept_orders f_is_row f_is_version f_Feed___init__ f_prefix_length f_encode_state f_Feed_open_device f__law_opened f_union_of f_is_integer_within f_is_token f_decode_token f_Feed_require_device f_Feed_token_of f_Feed_state_of f_Feed_devices f__law_open_right f_Feed_close_device f__law_right f__law_hand f_law c_PagesError c_TooMany c_BadToken c_BadVersion c_NoDevice c_Feed i_TooMany i_BadToken i_BadVersion i_NoDevice e__law_take e__law_pick e__law_names e__law_shuffled e_kept_orders e_is_row e_is_version e_Feed___init__ e_prefix_length e_encode_state e_Feed_open_device e__law_opened e_union_of e_is_integer_within e_is_token e_decode_token e_Feed_require_device e_Feed_token_of e_Feed_state_of e_Feed_devices e__law_open_right e_Feed_close_device e__law_right e__law_hand e_law j_TooMany j_BadToken j_BadVersion j_NoDevice) : FnG P w K mg base 2 f_is_version e_is_version ["value"] (spD K F_is_version) := by
  have G_is_row := ok_is_row (P := P) (w := w) (base := base) T
  exact okD T.d_is_version sc_is_version (by decide) fun cdv A outer s H E hc hg hr =>
      (xss_cons (xs_if (PW.pt (xw_or (xb_not (xb_val (xd_isi (T := "tuple") (by decide) (by rfl) T.m_isinstance (pe_bltn (v := .ty "tuple") (by rfl) T.m_tuple (by decide +kernel) rfl) (xd_var (pv 0))))) (xw_or1 (xb_cmp o_gt q2 (xd_callB c_len (by rfl) T.m_len (by decide +kernel) (xa_cons (xd_var (pv 0)) xa_nil)) (xd_c (pe_glob (v := .int 24) (by rfl) T.cMOST_ROWS.choose_spec ⟨_, rfl⟩) fun _ => .int _) (nomark _))))) (xss_cons (xs_ret xd_bl)
      xss_nil) xss_nil)
      (xss_cons (xs_ret (xd_and (xd_callB (c_all rfl) (by rfl) T.m_all (by decide +kernel) (xa_cons (xd_lock (xf_comp (own := [("row", 1)]) (vs := [1]) rfl sc_is_version.nd rfl (by decide) (by decide) (xi_seq (xd_var (pv 0))) (blkOk_by (own := [("row", 1)]) (N := n_is_version) (sc := defScope s_is_version) (by decide +kernel)) (fun _ _ _ _ _ => (xg_name (i := 1) (by decide) sc_is_version.nd rfl (by first | exact .inl rfl | exact .inr rfl))) (fun _ _ _ _ _ => xts_nil) (fun _ _ _ _ _ => (xd_call G_is_row hg (hr.mono (by decide)) (by rfl) T.g_is_row T.d_is_row.kp T.b_is_row (xa_cons (xd_var (pv 1)) xa_nil))))) xa_nil)) (xd_one (xd_cmp (o_eq hr.units) q2 (xd_lenSet rfl (by rfl) T.m_len (by rfl) T.m_set (xd_var (pv 0))) (xd_callB c_len (by rfl) T.m_len (by decide +kernel) (xa_cons (xd_var (pv 0)) xa_nil)) (nomark _)))))
      xss_nil))
theorem ok_encode_state (T : Txt0 K mg f__law_take f__law_pick f__law_names f__law_shuffled f_kept_orders f_is_row f_is_version f_Feed___init__ f_prefix_length f_encode_state f_Feed_open_device f__law_opened f_union_of f_is_integer_within f_is_token f_decode_token f_Feed_require_device f_Feed_token_of f_Feed_state_of f_Feed_devices f__law_open_right f_Feed_close_device f__law_right f__law_hand f_law c_PagesError c_TooMany c_BadToken c_BadVersion c_NoDevice c_Feed i_TooMany i_BadToken i_BadVersion i_NoDevice e__law_take e__law_pick e__law_names e__law_shuffled e_kept_orders e_is_row e_is_version e_Feed___init__ e_prefix_length e_encode_state e_Feed_open_device e__law_opened e_union_of e_is_integer_within e_is_token e_decode_token e_Feed_require_device e_Feed_token_of e_Feed_state_of e_Feed_devices e__law_open_right e_Feed_close_device e__law_right e__law_hand e_law j_TooMany j_BadToken j_BadVersion j_NoDevice) : FnG P w K mg base 2 f_encode_state e_encode_state ["orders", "rows"] (spD K F_encode_state) := by
  have G_prefix_length := ok_prefix_length (P := P) (w := w) (base := base) T
  exact okD T.d_encode_state sc_encode_state (by decide) fun cdv A outer s H E hc hg hr =>
      (xss_cons (xs_ret (xd_callT c_tuple (by rfl) T.m_tuple (by decide +kernel) (xa_cons (xd_lock (xf_comp (own := [("order", 2)]) (vs := [2]) rfl sc_encode_state.nd rfl (by decide) (by decide) (xi_seq (xd_var (pv 0))) (blkOk_by (own := [("order", 2)]) (N := n_encode_state) (sc := defScope s_encode_state) (by decide +kernel)) (fun _ _ _ _ _ => (xg_name (i := 2) (by decide) sc_encode_state.nd rfl (by first | exact .inl rfl | exact .inr rfl))) (fun _ _ _ _ _ => xts_nil) (fun _ _ _ _ _ => (xd_call G_prefix_length hg (hr.mono (by decide)) (by rfl) T.g_prefix_length T.d_prefix_length.kp T.b_prefix_length (xa_cons (xd_var (pv 2)) (xa_cons (xd_var (pv 2)) (xa_cons (xd_var (pv 1)) xa_nil))))))) xa_nil)))
      xss_nil)
theorem ok_is_token (T : Txt0 K mg f__law_take f__law_pick f__law_names f__law_shuffled f_kept_orders f_is_row f_is_version f_Feed___init__ f_prefix_length f_encode_state f_Feed_open_device f__law_opened f_union_of f_is_integer_within f_is_token f_decode_token f_Feed_require_device f_Feed_token_of f_Feed_state_of f_Feed_devices f__law_open_right f_Feed_close_device f__law_right f__law_hand f_law c_PagesError c_TooMany c_BadToken c_BadVersion c_NoDevice c_Feed i_TooMany i_BadToken i_BadVersion i_NoDevice e__law_take e__law_pick e__law_names e__law_shuffled e_kept_orders e_is_row e_is_version e_Feed___init__ e_prefix_length e_encode_state e_Feed_open_device e__law_opened e_union_of e_is_integer_within e_is_token e_decode_token e_Feed_require_device e_Feed_token_of e_Feed_state_of e_Feed_devices e__law_open_right e_Feed_close_device e__law_right e__law_hand e_law j_TooMany j_BadToken j_BadVersion j_NoDevice) : FnG P w K mg base 2 f_is_token e_is_token ["orders", "value"] (spD K F_is_token) := by
  have G_is_integer_within := ok_is_integer_within (P := P) (w := w) (base := base) T
  exact okD T.d_is_token sc_is_token (by decide) fun cdv A outer s H E hc hg hr =>
      (xss_cons (xs_if (PW.pt (xw_or (xb_not (xb_val (xd_isi (T := "tuple") (by decide) (by rfl) T.m_isinstance (pe_bltn (v := .ty "tuple") (by rfl) T.m_tuple (by decide +kernel) rfl) (xd_var (pv 1))))) (xw_or1 (xb_cmp (o_ne hr.units) q2 (xd_callB c_len (by rfl) T.m_len (by decide +kernel) (xa_cons (xd_var (pv 1)) xa_nil)) (xd_callB c_len (by rfl) T.m_len (by decide +kernel) (xa_cons (xd_var (pv 0)) xa_nil)) (nomark _))))) (xss_cons (xs_ret xd_bl)
      xss_nil) xss_nil)
      (xss_cons (xs_ret (xd_callB (c_all rfl) (by rfl) T.m_all (by decide +kernel) (xa_cons (xd_lock (xf_comp (own := [("order", 2), ("many", 3)]) (vs := [2, 3]) rfl sc_is_token.nd rfl (by decide) (by decide) (xi_zip (by rfl) T.m_zip (xa_cons (xd_var (pv 0)) (xa_cons (xd_var (pv 1)) xa_nil))) (blkOk_by (own := [("order", 2), ("many", 3)]) (N := n_is_token) (sc := defScope s_is_token) (by decide +kernel)) (fun _ _ _ _ _ => (xg_tup (by rfl) (xgs_cons (xg_name (i := 2) (by decide) sc_is_token.nd rfl (by first | exact .inl rfl | exact .inr rfl)) (xgs_cons (xg_name (i := 3) (by decide) sc_is_token.nd rfl (by first | exact .inl rfl | exact .inr rfl)) xgs_nil)))) (fun _ _ _ _ _ => xts_nil) (fun _ _ _ _ _ => (xd_call G_is_integer_within hg (hr.mono (by decide)) (by rfl) T.g_is_integer_within T.d_is_integer_within.kp T.b_is_integer_within (xa_cons (xd_var (pv 3)) (xa_cons xd_int (xa_cons (xd_callB c_len (by rfl) T.m_len (by decide +kernel) (xa_cons (xd_var (pv 2)) xa_nil)) xa_nil))))))) xa_nil)))
      xss_nil))
theorem ok__law_names (T : Txt0 K mg f__law_take f__law_pick f__law_names f__law_shuffled f_kept_orders f_is_row f_is_version f_Feed___init__ f_prefix_length f_encode_state f_Feed_open_device f__law_opened f_union_of f_is_integer_within f_is_token f_decode_token f_Feed_require_device f_Feed_token_of f_Feed_state_of f_Feed_devices f__law_open_right f_Feed_close_device f__law_right f__law_hand f_law c_PagesError c_TooMany c_BadToken c_BadVersion c_NoDevice c_Feed i_TooMany i_BadToken i_BadVersion i_NoDevice e__law_take e__law_pick e__law_names e__law_shuffled e_kept_orders e_is_row e_is_version e_Feed___init__ e_prefix_length e_encode_state e_Feed_open_device e__law_opened e_union_of e_is_integer_within e_is_token e_decode_token e_Feed_require_device e_Feed_token_of e_Feed_state_of e_Feed_devices e__law_open_right e_Feed_close_device e__law_right e__law_hand e_law j_TooMany j_BadToken j_BadVersion j_NoDevice) : FnG P w K mg base 3 f__law_names e__law_names ["_law_hand_here", "_law_count"] (spD K F__law_names) := by
  have G__law_take := ok__law_take (P := P) (w := w) (base := base) T
  have G__law_pick := ok__law_pick (P := P) (w := w) (base := base) T
  exact okD T.d__law_names sc__law_names (by decide) fun cdv A outer s H E hc hg hr =>
      (xss_cons (xs_set (i := 2) (by decide) sc__law_names.nd rfl (.inr rfl) xd_str)
      (xss_cons (xs_asg (xd_tup (xa_cons (xd_call G__law_take hg (hr.mono (by decide)) (by rfl) T.g__law_take T.d__law_take.kp T.b__law_take (xa_cons (xd_var (pv 0)) (xa_cons xd_int xa_nil))) (xa_cons (xd_call G__law_pick hg (hr.mono (by decide)) (by rfl) T.g__law_pick T.d__law_pick.kp T.b__law_pick (xa_cons (xd_var (pv 0)) (xa_cons (xd_lock (xf_lst (xa_cons xd_int (xa_cons xd_int (xa_cons xd_int (xa_cons xd_int (xa_cons xd_int (xa_cons xd_int (xa_cons xd_int xa_nil))))))))) xa_nil))) xa_nil))) (xg_tup (by rfl) (xgs_cons (xg_name (i := 3) (by decide) sc__law_names.nd rfl (.inr rfl)) (xgs_cons (xg_name (i := 4) (by decide) sc__law_names.nd rfl (.inr rfl)) xgs_nil))))
      (xss_cons (xs_set (i := 5) (by decide) sc__law_names.nd rfl (.inr rfl) (xd_op o_mulA q2 (xd_call G__law_pick hg (hr.mono (by decide)) (by rfl) T.g__law_pick T.d__law_pick.kp T.b__law_pick (xa_cons (xd_var (pv 0)) (xa_cons (xd_var (pv 2)) xa_nil))) (xd_call G__law_pick hg (hr.mono (by decide)) (by rfl) T.g__law_pick T.d__law_pick.kp T.b__law_pick (xa_cons (xd_var (pv 0)) (xa_cons (xd_lock (xf_lst (xa_cons xd_int (xa_cons xd_int (xa_cons xd_int (xa_cons xd_int (xa_cons xd_int xa_nil))))))) xa_nil)))))
      (xss_cons (xs_set (i := 6) (by decide) sc__law_names.nd rfl (.inr rfl) (xd_call G__law_take hg (hr.mono (by decide)) (by rfl) T.g__law_take T.d__law_take.kp T.b__law_take (xa_cons (xd_var (pv 0)) (xa_cons (xd_op o_add q2 (xd_callB c_len (by rfl) T.m_len (by decide +kernel) (xa_cons (xd_var (pv 5)) xa_nil)) xd_int) xa_nil))))
      (xss_cons (xs_retF (xf_comp (own := [("_law_nth", 7)]) (vs := [7]) rfl sc__law_names.nd rfl (by decide) (by decide) (xi_range1 (by rfl) T.m_range (xa_cons (xd_var (pv 1)) xa_nil)) (blkOk_by (own := [("_law_nth", 7)]) (N := n__law_names) (sc := defScope s__law_names) (by decide +kernel)) (fun _ _ _ _ _ => (xg_name (i := 7) (by decide) sc__law_names.nd rfl (by first | exact .inl rfl | exact .inr rfl))) (fun _ _ _ _ _ => xts_nil) (fun _ _ _ _ _ => (xd_op o_add q2 (xd_op o_add q2 (xd_sl (xd_var (pv 5)) xp_no (xp_so (xd_var (pv 6)))) (xd_ix (xd_var (pv 2)) (xd_op o_mod q2 (xd_op o_add q2 (xd_var (pv 3)) (xd_op o_mulA q2 (xd_var (pv 4)) (xd_var (pv 7)))) xd_int) (fun _ _ => rfl))) (xd_sl (xd_var (pv 5)) (xp_so (xd_var (pv 6))) xp_no)))))
      xss_nil)))))
theorem ok_Feed___init__ (T : Txt0 K mg f__law_take f__law_pick f__law_names f__law_shuffled f_kept_orders f_is_row f_is_version f_Feed___init__ f_prefix_length f_encode_state f_Feed_open_device f__law_opened f_union_of f_is_integer_within f_is_token f_decode_token f_Feed_require_device f_Feed_token_of f_Feed_state_of f_Feed_devices f__law_open_right f_Feed_close_device f__law_right f__law_hand f_law c_PagesError c_TooMany c_BadToken c_BadVersion c_NoDevice c_Feed i_TooMany i_BadToken i_BadVersion i_NoDevice e__law_take e__law_pick e__law_names e__law_shuffled e_kept_orders e_is_row e_is_version e_Feed___init__ e_prefix_length e_encode_state e_Feed_open_device e__law_opened e_union_of e_is_integer_within e_is_token e_decode_token e_Feed_require_device e_Feed_token_of e_Feed_state_of e_Feed_devices e__law_open_right e_Feed_close_device e__law_right e__law_hand e_law j_TooMany j_BadToken j_BadVersion j_NoDevice) (HW : HsOk P w) : FnGX P w K mg base 3 f_Feed___init__ e_Feed___init__ ["self", "version"] (spM K F_Feed___init__) := by
  have G_kept_orders := ok_kept_orders (P := P) (w := w) (base := base) T HW
  have G_is_version := ok_is_version (P := P) (w := w) (base := base) T
  exact okMXv T.d_Feed___init__ sc_Feed___init__ (by decide) fun cdv A outer s H E hg hr =>
      (mss_cons (ms_if (mb_old (xb_not (xb_val (xd_call G_is_version hg (hr.mono (by decide)) (by rfl) T.g_is_version T.d_is_version.kp T.b_is_version (xa_cons (xd_var (pv 1)) xa_nil))))) (mss_cons (ms_raise rfl (takes_of rfl rfl rfl rfl) (fun _ _ _ _ z => z) T.x_BadVersion (T.i_BadVersion _ _ _) T.bi_BadVersion (hr.mono (by decide)) (by rfl) (ma_cons (md_old (xd_var (pv 1))) ma_nil))
      mss_nil) mss_nil)
      (mss_cons (ms_fld T.cl_Feed (.head _) (md_var (pv 0)) (md_old (xd_var (pv 1))))
      (mss_cons (ms_fld T.cl_Feed (.tail _ (.head _)) (md_var (pv 0)) (md_old (xd_call G_kept_orders hg (hr.mono (by decide)) (by rfl) T.g_kept_orders T.d_kept_orders.kp T.b_kept_orders (xa_cons (xd_lock (xf_lst (xa_cons (xd_var (pv 1)) xa_nil))) xa_nil))))
      (mss_cons (ms_fld T.cl_Feed (.tail _ (.tail _ (.head _))) (md_var (pv 0)) (md_new (mf_old xf_newD)))
      (mss_cons (ms_fld T.cl_Feed (.tail _ (.tail _ (.tail _ (.head _)))) (md_var (pv 0)) (md_old xd_int))
      mss_nil)))))
theorem ok_Feed_open_device (T : Txt0 K mg f__law_take f__law_pick f__law_names f__law_shuffled f_kept_orders f_is_row f_is_version f_Feed___init__ f_prefix_length f_encode_state f_Feed_open_device f__law_opened f_union_of f_is_integer_within f_is_token f_decode_token f_Feed_require_device f_Feed_token_of f_Feed_state_of f_Feed_devices f__law_open_right f_Feed_close_device f__law_right f__law_hand f_law c_PagesError c_TooMany c_BadToken c_BadVersion c_NoDevice c_Feed i_TooMany i_BadToken i_BadVersion i_NoDevice e__law_take e__law_pick e__law_names e__law_shuffled e_kept_orders e_is_row e_is_version e_Feed___init__ e_prefix_length e_encode_state e_Feed_open_device e__law_opened e_union_of e_is_integer_within e_is_token e_decode_token e_Feed_require_device e_Feed_token_of e_Feed_state_of e_Feed_devices e__law_open_right e_Feed_close_device e__law_right e__law_hand e_law j_TooMany j_BadToken j_BadVersion j_NoDevice) : FnGX P w K mg base 3 f_Feed_open_device e_Feed_open_device ["self"] (spM K F_Feed_open_device) := by
  have G_encode_state := ok_encode_state (P := P) (w := w) (base := base) T
  exact okMX T.d_Feed_open_device sc_Feed_open_device (by decide) fun cdv A outer s H E hg hr =>
      (mss_cons (ms_if (mb_cmp o_ge q2 (md_callB c_lenK (by rfl) T.m_len (by decide +kernel) (ma_cons (md_fld T.cl_Feed (.tail _ (.tail _ (.head _))) (md_var (pv 0))) ma_nil)) (md_old (xd_c (pe_glob (v := .int 40) (by rfl) T.cMOST_DEVICES.choose_spec ⟨_, rfl⟩) fun _ => .int _)) (nomark _)) (mss_cons (ms_raise rfl (takes_of rfl rfl rfl rfl) (fun _ _ _ _ z => z) T.x_TooMany (T.i_TooMany _ _ _) T.bi_TooMany (hr.mono (by decide)) (by rfl) (ma_cons (md_old (xd_c (pe_glob (v := .int 40) (by rfl) T.cMOST_DEVICES.choose_spec ⟨_, rfl⟩) fun _ => .int _)) ma_nil))
      mss_nil) mss_nil)
      (mss_cons (ms_set (i := 1) (by decide) sc_Feed_open_device.nd rfl (.inl rfl) (md_fld T.cl_Feed (.tail _ (.tail _ (.tail _ (.head _)))) (md_var (pv 0))))
      (mss_cons (ms_putk (units65 hr) (md_fld T.cl_Feed (.tail _ (.tail _ (.head _))) (md_var (pv 0))) (md_callO G_encode_state hg (hr.mono (by decide)) (by rfl) T.g_encode_state T.d_encode_state.kp T.b_encode_state (ma_cons (md_fld T.cl_Feed (.tail _ (.head _)) (md_var (pv 0))) (ma_cons (md_old (xd_tup xa_nil)) ma_nil))) (md_old (xd_var (pv 1))))
      (mss_cons (ms_fld T.cl_Feed (.tail _ (.tail _ (.tail _ (.head _)))) (md_var (pv 0)) (md_old (xd_op o_add q2 (xd_var (pv 1)) xd_int)))
      (mss_cons (ms_ret (md_old (xd_var (pv 1))))
      mss_nil)))))
theorem ok_decode_token (T : Txt0 K mg f__law_take f__law_pick f__law_names f__law_shuffled f_kept_orders f_is_row f_is_version f_Feed___init__ f_prefix_length f_encode_state f_Feed_open_device f__law_opened f_union_of f_is_integer_within f_is_token f_decode_token f_Feed_require_device f_Feed_token_of f_Feed_state_of f_Feed_devices f__law_open_right f_Feed_close_device f__law_right f__law_hand f_law c_PagesError c_TooMany c_BadToken c_BadVersion c_NoDevice c_Feed i_TooMany i_BadToken i_BadVersion i_NoDevice e__law_take e__law_pick e__law_names e__law_shuffled e_kept_orders e_is_row e_is_version e_Feed___init__ e_prefix_length e_encode_state e_Feed_open_device e__law_opened e_union_of e_is_integer_within e_is_token e_decode_token e_Feed_require_device e_Feed_token_of e_Feed_state_of e_Feed_devices e__law_open_right e_Feed_close_device e__law_right e__law_hand e_law j_TooMany j_BadToken j_BadVersion j_NoDevice) : FnGX P w K mg base 3 f_decode_token e_decode_token ["orders", "token"] (spX K F_decode_token) := by
  have G_union_of := ok_union_of (P := P) (w := w) (base := base) T
  have G_is_token := ok_is_token (P := P) (w := w) (base := base) T
  exact okDX T.d_decode_token sc_decode_token (by decide) fun cdv A outer s H E hg hr =>
      (xss_cons (xs_if (xb_not (xb_val (xd_call G_is_token hg (hr.mono (by decide)) (by rfl) T.g_is_token T.d_is_token.kp T.b_is_token (xa_cons (xd_var (pv 0)) (xa_cons (xd_var (pv 1)) xa_nil))))) (xss_cons (xs_raise rfl (takes_of rfl rfl rfl rfl) (fun _ _ _ _ z => z) T.x_BadToken (T.i_BadToken _ _ _) T.bi_BadToken (hr.mono (by decide)) (by rfl) (xa_cons (xd_var (pv 1)) xa_nil))
      xss_nil) xss_nil)
      (xss_cons (xs_ret (xd_call G_union_of hg (hr.mono (by decide)) (by rfl) T.g_union_of T.d_union_of.kp T.b_union_of (xa_cons (xd_lock (xf_comp (own := [("order", 2), ("many", 3)]) (vs := [2, 3]) rfl sc_decode_token.nd rfl (by decide) (by decide) (xi_zip (by rfl) T.m_zip (xa_cons (xd_var (pv 0)) (xa_cons (xd_var (pv 1)) xa_nil))) (blkOk_by (own := [("order", 2), ("many", 3)]) (N := n_decode_token) (sc := defScope s_decode_token) (by decide +kernel)) (fun _ _ _ _ _ => (xg_tup (by rfl) (xgs_cons (xg_name (i := 2) (by decide) sc_decode_token.nd rfl (by first | exact .inl rfl | exact .inr rfl)) (xgs_cons (xg_name (i := 3) (by decide) sc_decode_token.nd rfl (by first | exact .inl rfl | exact .inr rfl)) xgs_nil)))) (fun _ _ _ _ _ => xts_nil) (fun _ _ _ _ _ => (xd_sl (xd_var (pv 2)) xp_no (xp_so (xd_var (pv 3))))))) xa_nil)))
      xss_nil))
theorem ok_Feed_require_device (T : Txt0 K mg f__law_take f__law_pick f__law_names f__law_shuffled f_kept_orders f_is_row f_is_version f_Feed___init__ f_prefix_length f_encode_state f_Feed_open_device f__law_opened f_union_of f_is_integer_within f_is_token f_decode_token f_Feed_require_device f_Feed_token_of f_Feed_state_of f_Feed_devices f__law_open_right f_Feed_close_device f__law_right f__law_hand f_law c_PagesError c_TooMany c_BadToken c_BadVersion c_NoDevice c_Feed i_TooMany i_BadToken i_BadVersion i_NoDevice e__law_take e__law_pick e__law_names e__law_shuffled e_kept_orders e_is_row e_is_version e_Feed___init__ e_prefix_length e_encode_state e_Feed_open_device e__law_opened e_union_of e_is_integer_within e_is_token e_decode_token e_Feed_require_device e_Feed_token_of e_Feed_state_of e_Feed_devices e__law_open_right e_Feed_close_device e__law_right e__law_hand e_law j_TooMany j_BadToken j_BadVersion j_NoDevice) : FnGX P w K mg base 3 f_Feed_require_device e_Feed_require_device ["self", "device"] (spM K F_Feed_require_device) := by
  have G_is_integer_within := ok_is_integer_within (P := P) (w := w) (base := base) T
  exact okMX T.d_Feed_require_device sc_Feed_require_device (by decide) fun cdv A outer s H E hg hr =>
      (mss_cons (ms_if (PW.pt (mw_or (mb_not (mb_val (md_callO G_is_integer_within hg (hr.mono (by decide)) (by rfl) T.g_is_integer_within T.d_is_integer_within.kp T.b_is_integer_within (ma_cons (md_old (xd_var (pv 1))) (ma_cons (md_old xd_int) (ma_cons (md_fld T.cl_Feed (.tail _ (.tail _ (.tail _ (.head _)))) (md_var (pv 0))) ma_nil)))))) (mw_or1 (mb_cmp (o_ninK (units65 hr)) q2 (md_old (xd_var (pv 1))) (md_fld T.cl_Feed (.tail _ (.tail _ (.head _))) (md_var (pv 0))) (by rfl))))) (mss_cons (ms_raise rfl (takes_of rfl rfl rfl rfl) (fun _ _ _ _ z => z) T.x_NoDevice (T.i_NoDevice _ _ _) T.bi_NoDevice (hr.mono (by decide)) (by rfl) (ma_cons (md_old (xd_var (pv 1))) ma_nil))
      mss_nil) mss_nil)
      mss_nil)
theorem ok__law_opened (T : Txt0 K mg f__law_take f__law_pick f__law_names f__law_shuffled f_kept_orders f_is_row f_is_version f_Feed___init__ f_prefix_length f_encode_state f_Feed_open_device f__law_opened f_union_of f_is_integer_within f_is_token f_decode_token f_Feed_require_device f_Feed_token_of f_Feed_state_of f_Feed_devices f__law_open_right f_Feed_close_device f__law_right f__law_hand f_law c_PagesError c_TooMany c_BadToken c_BadVersion c_NoDevice c_Feed i_TooMany i_BadToken i_BadVersion i_NoDevice e__law_take e__law_pick e__law_names e__law_shuffled e_kept_orders e_is_row e_is_version e_Feed___init__ e_prefix_length e_encode_state e_Feed_open_device e__law_opened e_union_of e_is_integer_within e_is_token e_decode_token e_Feed_require_device e_Feed_token_of e_Feed_state_of e_Feed_devices e__law_open_right e_Feed_close_device e__law_right e__law_hand e_law j_TooMany j_BadToken j_BadVersion j_NoDevice) : FnG P w K mg base 4 f__law_opened e__law_opened ["_law_feed"] (spM0 K F__law_opened) := by
  have G_Feed_open_device := ok_Feed_open_device (P := P) (w := w) (base := base) T
  exact okM0 T.d__law_opened sc__law_opened (by decide) fun cdv A outer s H E hc hg hr =>
      (mss_cons (ms_asg (md_old (xd_tup (xa_cons xd_non (xa_cons xd_non xa_nil)))) (mg_tup (by rfl) (mgs_cons (mg_name (i := 1) (by decide) sc__law_opened.nd rfl (.inl rfl)) (mgs_cons (mg_name (i := 2) (by decide) sc__law_opened.nd rfl (.inl rfl)) mgs_nil))))
      (mss_cons (ms_try (by decide) (by decide) (by decide) rfl rfl rfl sc__law_opened.nd rfl rfl rfl (.inl rfl) rfl ⟨by rfl, by decide, .inl T.g_PagesError⟩ L2.takes0 (fun _ _ _ _ z => z.elim) (tab_cons (tab_ex T.x_TooMany T.e_TooMany_PagesError) (tab_cons (tab_ex T.x_BadToken T.e_BadToken_PagesError) (tab_cons (tab_ex T.x_BadVersion T.e_BadVersion_PagesError) (tab_cons (tab_ex T.x_NoDevice T.e_NoDevice_PagesError) tab_nil)))) (fun _ _ _ tk2 po2 =>
      (mss_cons (ms_set (i := 1) (by decide) sc__law_opened.nd rfl (.inl rfl) (md_meth0 T.cl_Feed T.me_Feed_open_device tk2 (fun _ _ _ _ z => z) G_Feed_open_device hg (hr.mono (by decide)) T.b_Feed_open_device (md_var (pv 0))))
      mss_nil)))
      (mss_cons (ms_if (mb_old (xb_nonX (pv 2) pe_non (nomark _))) (mss_cons (ms_ret (md_old (xd_var (pv 1))))
      mss_nil) mss_nil)
      (mss_cons (ms_ret (md_old (xd_if (PW.pt (xw_and (xb_val (xd_isX (t := .ref c_TooMany) (tv := .ref c_TooMany) T.eb (fun u h => h) (tab_cons (tab_is T.x_TooMany T.k_TooMany_TooMany) (tab_cons (tab_is T.x_BadToken T.k_BadToken_TooMany) (tab_cons (tab_is T.x_BadVersion T.k_BadVersion_TooMany) (tab_cons (tab_is T.x_NoDevice T.k_NoDevice_TooMany) tab_nil)))) (by rfl) T.m_isinstance (pv 2) (pe_glob (v := .ref _) (by rfl) T.g_TooMany rfl))) (xw_and1 (xb_not (xb_val (xd_isX (t := .ref c_NoDevice) (tv := .ref c_NoDevice) T.eb (fun u h => h) (tab_cons (tab_is T.x_TooMany T.k_TooMany_NoDevice) (tab_cons (tab_is T.x_BadToken T.k_BadToken_NoDevice) (tab_cons (tab_is T.x_BadVersion T.k_BadVersion_NoDevice) (tab_cons (tab_is T.x_NoDevice T.k_NoDevice_NoDevice) tab_nil)))) (by rfl) T.m_isinstance (pv 2) (pe_glob (v := .ref _) (by rfl) T.g_NoDevice rfl))))))) (xd_tup (xa_cons xd_str (xa_cons (xd_fldX (fld_cons T.x_TooMany fld_nil) (pv 2)) xa_nil))) xd_str)))
      mss_nil))))
theorem ok_Feed_token_of (T : Txt0 K mg f__law_take f__law_pick f__law_names f__law_shuffled f_kept_orders f_is_row f_is_version f_Feed___init__ f_prefix_length f_encode_state f_Feed_open_device f__law_opened f_union_of f_is_integer_within f_is_token f_decode_token f_Feed_require_device f_Feed_token_of f_Feed_state_of f_Feed_devices f__law_open_right f_Feed_close_device f__law_right f__law_hand f_law c_PagesError c_TooMany c_BadToken c_BadVersion c_NoDevice c_Feed i_TooMany i_BadToken i_BadVersion i_NoDevice e__law_take e__law_pick e__law_names e__law_shuffled e_kept_orders e_is_row e_is_version e_Feed___init__ e_prefix_length e_encode_state e_Feed_open_device e__law_opened e_union_of e_is_integer_within e_is_token e_decode_token e_Feed_require_device e_Feed_token_of e_Feed_state_of e_Feed_devices e__law_open_right e_Feed_close_device e__law_right e__law_hand e_law j_TooMany j_BadToken j_BadVersion j_NoDevice) : FnGX P w K mg base 4 f_Feed_token_of e_Feed_token_of ["self", "device"] (spM K F_Feed_token_of) := by
  have G_Feed_require_device := ok_Feed_require_device (P := P) (w := w) (base := base) T
  exact okMX T.d_Feed_token_of sc_Feed_token_of (by decide) fun cdv A outer s H E hg hr =>
      (mss_cons (ms_expr (md_meth T.cl_Feed T.me_Feed_require_device (takes_of rfl rfl rfl rfl) (fun _ _ _ _ z => z) G_Feed_require_device hg (hr.mono (by decide)) T.b_Feed_require_device (md_var (pv 0)) (ma_cons (md_old (xd_var (pv 1))) ma_nil)))
      (mss_cons (ms_ret (md_get (units65 hr) (md_fld T.cl_Feed (.tail _ (.tail _ (.head _))) (md_var (pv 0))) (md_old (xd_var (pv 1))) (fun _ _ => rfl)))
      mss_nil))
theorem ok_Feed_close_device (T : Txt0 K mg f__law_take f__law_pick f__law_names f__law_shuffled f_kept_orders f_is_row f_is_version f_Feed___init__ f_prefix_length f_encode_state f_Feed_open_device f__law_opened f_union_of f_is_integer_within f_is_token f_decode_token f_Feed_require_device f_Feed_token_of f_Feed_state_of f_Feed_devices f__law_open_right f_Feed_close_device f__law_right f__law_hand f_law c_PagesError c_TooMany c_BadToken c_BadVersion c_NoDevice c_Feed i_TooMany i_BadToken i_BadVersion i_NoDevice e__law_take e__law_pick e__law_names e__law_shuffled e_kept_orders e_is_row e_is_version e_Feed___init__ e_prefix_length e_encode_state e_Feed_open_device e__law_opened e_union_of e_is_integer_within e_is_token e_decode_token e_Feed_require_device e_Feed_token_of e_Feed_state_of e_Feed_devices e__law_open_right e_Feed_close_device e__law_right e__law_hand e_law j_TooMany j_BadToken j_BadVersion j_NoDevice) : FnGX P w K mg base 4 f_Feed_close_device e_Feed_close_device ["self", "device"] (spM K F_Feed_close_device) := by
  have G_Feed_require_device := ok_Feed_require_device (P := P) (w := w) (base := base) T
  exact okMX T.d_Feed_close_device sc_Feed_close_device (by decide) fun cdv A outer s H E hg hr =>
      (mss_cons (ms_expr (md_meth T.cl_Feed T.me_Feed_require_device (takes_of rfl rfl rfl rfl) (fun _ _ _ _ z => z) G_Feed_require_device hg (hr.mono (by decide)) T.b_Feed_require_device (md_var (pv 0)) (ma_cons (md_old (xd_var (pv 1))) ma_nil)))
      (mss_cons (ms_delk (md_fld T.cl_Feed (.tail _ (.tail _ (.head _))) (md_var (pv 0))) (md_old (xd_var (pv 1))))
      mss_nil))
theorem ok_Feed_state_of (T : Txt0 K mg f__law_take f__law_pick f__law_names f__law_shuffled f_kept_orders f_is_row f_is_version f_Feed___init__ f_prefix_length f_encode_state f_Feed_open_device f__law_opened f_union_of f_is_integer_within f_is_token f_decode_token f_Feed_require_device f_Feed_token_of f_Feed_state_of f_Feed_devices f__law_open_right f_Feed_close_device f__law_right f__law_hand f_law c_PagesError c_TooMany c_BadToken c_BadVersion c_NoDevice c_Feed i_TooMany i_BadToken i_BadVersion i_NoDevice e__law_take e__law_pick e__law_names e__law_shuffled e_kept_orders e_is_row e_is_version e_Feed___init__ e_prefix_length e_encode_state e_Feed_open_device e__law_opened e_union_of e_is_integer_within e_is_token e_decode_token e_Feed_require_device e_Feed_token_of e_Feed_state_of e_Feed_devices e__law_open_right e_Feed_close_device e__law_right e__law_hand e_law j_TooMany j_BadToken j_BadVersion j_NoDevice) : FnGX P w K mg base 5 f_Feed_state_of e_Feed_state_of ["self", "device"] (spM K F_Feed_state_of) := by
  have G_decode_token := ok_decode_token (P := P) (w := w) (base := base) T
  have G_Feed_token_of := ok_Feed_token_of (P := P) (w := w) (base := base) T
  exact okMX T.d_Feed_state_of sc_Feed_state_of (by decide) fun cdv A outer s H E hg hr =>
      (mss_cons (ms_ret (md_callOX (takes_of rfl rfl rfl rfl) (fun _ _ _ _ z => z) G_decode_token hg (hr.mono (by decide)) (by rfl) T.g_decode_token T.d_decode_token.kp T.b_decode_token (ma_cons (md_fld T.cl_Feed (.tail _ (.head _)) (md_var (pv 0))) (ma_cons (md_meth T.cl_Feed T.me_Feed_token_of (takes_of rfl rfl rfl rfl) (fun _ _ _ _ z => z) G_Feed_token_of hg (hr.mono (by decide)) T.b_Feed_token_of (md_var (pv 0)) (ma_cons (md_old (xd_var (pv 1))) ma_nil)) ma_nil))))
      mss_nil)
theorem ok__law_open_right (T : Txt0 K mg f__law_take f__law_pick f__law_names f__law_shuffled f_kept_orders f_is_row f_is_version f_Feed___init__ f_prefix_length f_encode_state f_Feed_open_device f__law_opened f_union_of f_is_integer_within f_is_token f_decode_token f_Feed_require_device f_Feed_token_of f_Feed_state_of f_Feed_devices f__law_open_right f_Feed_close_device f__law_right f__law_hand f_law c_PagesError c_TooMany c_BadToken c_BadVersion c_NoDevice c_Feed i_TooMany i_BadToken i_BadVersion i_NoDevice e__law_take e__law_pick e__law_names e__law_shuffled e_kept_orders e_is_row e_is_version e_Feed___init__ e_prefix_length e_encode_state e_Feed_open_device e__law_opened e_union_of e_is_integer_within e_is_token e_decode_token e_Feed_require_device e_Feed_token_of e_Feed_state_of e_Feed_devices e__law_open_right e_Feed_close_device e__law_right e__law_hand e_law j_TooMany j_BadToken j_BadVersion j_NoDevice) : FnG P w K mg base 6 f__law_open_right e__law_open_right ["_law_feed", "_law_opened_here", "_law_number"] (spM0 K F__law_open_right) := by
  have G__law_opened := ok__law_opened (P := P) (w := w) (base := base) T
  have G_Feed_state_of := ok_Feed_state_of (P := P) (w := w) (base := base) T
  have G_Feed_devices := ok_Feed_devices (P := P) (w := w) (base := base) T
  have G_Feed_token_of := ok_Feed_token_of (P := P) (w := w) (base := base) T
  exact okM0 T.d__law_open_right sc__law_open_right (by decide) fun cdv A outer s H E hc hg hr =>
      (mss_cons (ms_set (i := 3) (by decide) sc__law_open_right.nd rfl (.inl rfl) (md_callZ G__law_opened hg (hr.mono (by decide)) (by rfl) T.g__law_opened T.d__law_opened.kp T.b__law_opened (ma_cons (md_var (pv 0)) ma_nil)))
      (mss_cons (ms_if (mb_cmp (o_eq hr.units) q2 (md_callB c_len (by rfl) T.m_len (by decide +kernel) (ma_cons (md_var (pv 1)) ma_nil)) (md_old xd_int) (nomark _)) (mss_cons (ms_ret (md_and (md_old (xd_cmp (o_eq hr.units) q2 (xd_callB (c_repr hg hr.units) (by rfl) T.m_repr (by decide +kernel) (xa_cons (xd_var (pv 3)) xa_nil)) (xd_callB (c_repr hg hr.units) (by rfl) T.m_repr (by decide +kernel) (xa_cons (xd_tup (xa_cons xd_str (xa_cons xd_int xa_nil))) xa_nil)) (nomark _))) (md_one (md_cmp (o_eq hr.units) q2 (md_meth0 T.cl_Feed T.me_Feed_devices L2.takes0 (fun _ _ _ _ z => z.elim) G_Feed_devices hg (hr.mono (by decide)) T.b_Feed_devices (md_var (pv 0))) (md_callT c_tuple (by rfl) T.m_tuple (by decide +kernel) (ma_cons (md_lock (mf_callB (c_sortI rfl) (by rfl) T.m_sorted (by decide +kernel) (ma_cons (md_var (pv 1)) ma_nil))) ma_nil)) (nomark _)))))
      mss_nil) mss_nil)
      (mss_cons (ms_ret (md_and (md_old (xd_cmp (o_eq hr.units) q2 (xd_callB (c_repr hg hr.units) (by rfl) T.m_repr (by decide +kernel) (xa_cons (xd_var (pv 3)) xa_nil)) (xd_callB (c_repr hg hr.units) (by rfl) T.m_repr (by decide +kernel) (xa_cons (xd_var (pv 2)) xa_nil)) (nomark _))) (md_and (md_cmp (o_eq hr.units) q2 (md_meth T.cl_Feed T.me_Feed_state_of L2.takes0 (fun _ _ _ _ z => z.elim) G_Feed_state_of hg (hr.mono (by decide)) T.b_Feed_state_of (md_var (pv 0)) (ma_cons (md_old (xd_var (pv 2))) ma_nil)) (md_old (xd_tup xa_nil)) (nomark _)) (md_one (md_cmp (o_eq hr.units) q2 (md_callB (c_sum rfl) (by rfl) T.m_sum (by decide +kernel) (ma_cons (md_meth T.cl_Feed T.me_Feed_token_of L2.takes0 (fun _ _ _ _ z => z.elim) G_Feed_token_of hg (hr.mono (by decide)) T.b_Feed_token_of (md_var (pv 0)) (ma_cons (md_old (xd_var (pv 2))) ma_nil)) ma_nil)) (md_old xd_int) (nomark _))))))
      mss_nil)))
theorem ok__law_right (T : Txt0 K mg f__law_take f__law_pick f__law_names f__law_shuffled f_kept_orders f_is_row f_is_version f_Feed___init__ f_prefix_length f_encode_state f_Feed_open_device f__law_opened f_union_of f_is_integer_within f_is_token f_decode_token f_Feed_require_device f_Feed_token_of f_Feed_state_of f_Feed_devices f__law_open_right f_Feed_close_device f__law_right f__law_hand f_law c_PagesError c_TooMany c_BadToken c_BadVersion c_NoDevice c_Feed i_TooMany i_BadToken i_BadVersion i_NoDevice e__law_take e__law_pick e__law_names e__law_shuffled e_kept_orders e_is_row e_is_version e_Feed___init__ e_prefix_length e_encode_state e_Feed_open_device e__law_opened e_union_of e_is_integer_within e_is_token e_decode_token e_Feed_require_device e_Feed_token_of e_Feed_state_of e_Feed_devices e__law_open_right e_Feed_close_device e__law_right e__law_hand e_law j_TooMany j_BadToken j_BadVersion j_NoDevice) (HW : HsOk P w) : FnG P w K mg base 7 f__law_right e__law_right ["_law_hand_here"] (spM0 K F__law_right) := by
  have G__law_names := ok__law_names (P := P) (w := w) (base := base) T
  have G__law_shuffled := ok__law_shuffled (P := P) (w := w) (base := base) T
  have G_Feed___init__ := ok_Feed___init__ (P := P) (w := w) (base := base) T HW
  have G__law_open_right := ok__law_open_right (P := P) (w := w) (base := base) T
  have G_Feed_close_device := ok_Feed_close_device (P := P) (w := w) (base := base) T
  have G__law_take := ok__law_take (P := P) (w := w) (base := base) T
  have G_Feed_devices := ok_Feed_devices (P := P) (w := w) (base := base) T
  have G_Feed_open_device := ok_Feed_open_device (P := P) (w := w) (base := base) T
  exact okM0 T.d__law_right sc__law_right (by decide) fun cdv A outer s H E hc hg hr =>
      (mss_cons (ms_set (i := 1) (by decide) sc__law_right.nd rfl (.inl rfl) (md_lock (mf_callO G__law_names hg (hr.mono (by decide)) (by rfl) T.g__law_names T.d__law_names.kp T.b__law_names (ma_cons (md_var (pv 0)) (ma_cons (md_old xd_int) ma_nil)))))
      (mss_cons (ms_par3 (i := 2) (j := 3) (l := 4) (by decide) (ma_cons (md_make T.cl_Feed T.mk_Feed L2.takes0 (fun _ _ _ _ z => z.elim) G_Feed___init__ hg (hr.mono (by decide)) (by rfl) T.g_Feed T.b_Feed___init__ (ma_cons (md_callT c_tuple (by rfl) T.m_tuple (by decide +kernel) (ma_cons (md_lock (mf_sl (md_old (xd_var (pv 1))) mp_no (mp_so (md_callO G__law_take hg (hr.mono (by decide)) (by rfl) T.g__law_take T.d__law_take.kp T.b__law_take (ma_cons (md_var (pv 0)) (ma_cons (md_old xd_int) ma_nil)))))) ma_nil)) ma_nil)) (ma_cons (md_new (mf_old (xf_lst xa_nil))) (ma_cons (md_old xd_int) ma_nil))) (fun h => ps_par3 (by rfl) sc__law_right.nd rfl rfl rfl (by decide) (by decide) (by decide) rfl rfl rfl h (by rfl)))
      (mss_cons (ms_for PassesOwn.never rfl (mi_range1 (by rfl) T.m_range (ma_cons (md_op o_add q2 (md_old xd_int) (md_callO G__law_take hg (hr.mono (by decide)) (by rfl) T.g__law_take T.d__law_take.kp T.b__law_take (ma_cons (md_var (pv 0)) (ma_cons (md_old xd_int) ma_nil)))) ma_nil)) (mg_name (i := 5) (by decide) sc__law_right.nd rfl (.inl rfl)) (mss_cons (ms_if (PW.pt (mw_and (mb_cmp (o_ne hr.units) q2 (md_var (pv 3)) (md_lock (mf_old (xf_lst xa_nil))) (nomark _)) (mw_and1 (mb_cmp (o_eq hr.units) q2 (md_callO G__law_take hg (hr.mono (by decide)) (by rfl) T.g__law_take T.d__law_take.kp T.b__law_take (ma_cons (md_var (pv 0)) (ma_cons (md_old xd_int) ma_nil))) (md_old xd_int) (nomark _))))) (mss_cons (ms_set (i := 6) (by decide) sc__law_right.nd rfl (.inl rfl) (md_mut m_pop PySem.F.slot_list_pop PySem.F.type_list_pop (md_var (pv 3)) (ma_cons (md_callO G__law_take hg (hr.mono (by decide)) (by rfl) T.g__law_take T.d__law_take.kp T.b__law_take (ma_cons (md_var (pv 0)) (ma_cons (md_callB c_len (by rfl) T.m_len (by decide +kernel) (ma_cons (md_var (pv 3)) ma_nil)) ma_nil))) ma_nil)))
      (mss_cons (ms_if (mb_cmp o_notN q2 (md_meth T.cl_Feed T.me_Feed_close_device L2.takes0 (fun _ _ _ _ z => z.elim) G_Feed_close_device hg (hr.mono (by decide)) T.b_Feed_close_device (md_var (pv 2)) (ma_cons (md_old (xd_var (pv 6))) ma_nil)) (md_old xd_non) (nomark _)) (mss_cons (ms_ret (md_old xd_bl))
      mss_nil) mss_nil)
      mss_nil)) (mss_cons (ms_set (i := 7) (by decide) sc__law_right.nd rfl (.inl rfl) (md_callB c_len (by rfl) T.m_len (by decide +kernel) (ma_cons (md_var (pv 3)) ma_nil)))
      (mss_cons (ms_if (mb_not (mb_val (md_callZ G__law_open_right hg (hr.mono (by decide)) (by rfl) T.g__law_open_right T.d__law_open_right.kp T.b__law_open_right (ma_cons (md_var (pv 2)) (ma_cons (md_var (pv 3)) (ma_cons (md_old (xd_var (pv 4))) ma_nil)))))) (mss_cons (ms_ret (md_old xd_bl))
      mss_nil) mss_nil)
      (mss_cons (ms_if (mb_old (xb_cmp o_lt q2 (xd_var (pv 7)) xd_int (nomark _))) (mss_cons (ms_par (i := 3) (j := 4) (by decide) (by decide) (ma_cons (md_new (mf_cat (md_var (pv 3)) (md_lock (mf_old (xf_lst (xa_cons (xd_var (pv 4)) xa_nil)))))) (ma_cons (md_old (xd_op o_add q2 (xd_var (pv 4)) xd_int)) ma_nil)) (fun h => ps_par (by rfl) sc__law_right.nd rfl rfl (by decide) rfl rfl h (by rfl)))
      mss_nil) mss_nil)
      mss_nil))))
      (mss_cons (ms_if (mb_cmp (o_ne hr.units) q2 (md_meth0 T.cl_Feed T.me_Feed_devices L2.takes0 (fun _ _ _ _ z => z.elim) G_Feed_devices hg (hr.mono (by decide)) T.b_Feed_devices (md_var (pv 2))) (md_callT c_tuple (by rfl) T.m_tuple (by decide +kernel) (ma_cons (md_lock (mf_callB (c_sortI rfl) (by rfl) T.m_sorted (by decide +kernel) (ma_cons (md_var (pv 3)) ma_nil))) ma_nil)) (nomark _)) (mss_cons (ms_ret (md_old xd_bl))
      mss_nil) mss_nil)
      mss_nil)))
      (mss_cons (ms_while 1000 PassesOwn.never (mb_cmp o_lt q2 (md_callB c_len (by rfl) T.m_len (by decide +kernel) (ma_cons (md_var (pv 3)) ma_nil)) (md_old xd_int) (nomark _)) (mss_cons (ms_par (i := 3) (j := 4) (by decide) (by decide) (ma_cons (md_new (mf_cat (md_var (pv 3)) (md_lock (mf_lst (ma_cons (md_meth0 T.cl_Feed T.me_Feed_open_device L2.takes0 (fun _ _ _ _ z => z.elim) G_Feed_open_device hg (hr.mono (by decide)) T.b_Feed_open_device (md_var (pv 2))) ma_nil))))) (ma_cons (md_old (xd_op o_add q2 (xd_var (pv 4)) xd_int)) ma_nil)) (fun h => ps_par (by rfl) sc__law_right.nd rfl rfl (by decide) rfl rfl h (by rfl)))
      mss_nil))
      (mss_cons (ms_if (mb_not (mb_val (md_callZ G__law_open_right hg (hr.mono (by decide)) (by rfl) T.g__law_open_right T.d__law_open_right.kp T.b__law_open_right (ma_cons (md_var (pv 2)) (ma_cons (md_var (pv 3)) (ma_cons (md_old (xd_var (pv 4))) ma_nil)))))) (mss_cons (ms_ret (md_old xd_bl))
      mss_nil) mss_nil)
      (mss_cons (ms_for PassesOwn.never rfl (mi_new (mf_callO G__law_shuffled hg (hr.mono (by decide)) (by rfl) T.g__law_shuffled T.d__law_shuffled.kp T.b__law_shuffled (ma_cons (md_var (pv 0)) (ma_cons (md_var (pv 3)) ma_nil)))) (mg_name (i := 6) (by decide) sc__law_right.nd rfl (.inl rfl)) (mss_cons (ms_expr (md_meth T.cl_Feed T.me_Feed_close_device L2.takes0 (fun _ _ _ _ z => z.elim) G_Feed_close_device hg (hr.mono (by decide)) T.b_Feed_close_device (md_var (pv 2)) (ma_cons (md_old (xd_var (pv 6))) ma_nil)))
      mss_nil))
      (mss_cons (ms_ret (md_and (md_cmp (o_eq hr.units) q2 (md_meth0 T.cl_Feed T.me_Feed_devices L2.takes0 (fun _ _ _ _ z => z.elim) G_Feed_devices hg (hr.mono (by decide)) T.b_Feed_devices (md_var (pv 2))) (md_old (xd_tup xa_nil)) (nomark _)) (md_one (md_cmp (o_eq hr.units) q2 (md_meth0 T.cl_Feed T.me_Feed_open_device L2.takes0 (fun _ _ _ _ z => z.elim) G_Feed_open_device hg (hr.mono (by decide)) T.b_Feed_open_device (md_var (pv 2))) (md_old (xd_var (pv 4))) (nomark _)))))
      mss_nil)))))))
theorem ok_law (T : Txt0 K mg f__law_take f__law_pick f__law_names f__law_shuffled f_kept_orders f_is_row f_is_version f_Feed___init__ f_prefix_length f_encode_state f_Feed_open_device f__law_opened f_union_of f_is_integer_within f_is_token f_decode_token f_Feed_require_device f_Feed_token_of f_Feed_state_of f_Feed_devices f__law_open_right f_Feed_close_device f__law_right f__law_hand f_law c_PagesError c_TooMany c_BadToken c_BadVersion c_NoDevice c_Feed i_TooMany i_BadToken i_BadVersion i_NoDevice e__law_take e__law_pick e__law_names e__law_shuffled e_kept_orders e_is_row e_is_version e_Feed___init__ e_prefix_length e_encode_state e_Feed_open_device e__law_opened e_union_of e_is_integer_within e_is_token e_decode_token e_Feed_require_device e_Feed_token_of e_Feed_state_of e_Feed_devices e__law_open_right e_Feed_close_device e__law_right e__law_hand e_law j_TooMany j_BadToken j_BadVersion j_NoDevice) (HW : HsOk P w) : FnG P w K mg base 8 f_law e_law ["_law_script"] (spM0 K F_law) := by
  have G__law_right := ok__law_right (P := P) (w := w) (base := base) T HW
  have G__law_hand := ok__law_hand (P := P) (w := w) (base := base) T
  exact okM0 T.d_law sc_law (by decide) fun cdv A outer s H E hc hg hr =>
      (mss_cons (ms_ret (md_callB (c_all rfl) (by rfl) T.m_all (by decide +kernel) (ma_cons (md_lock (mf_comp (own := [("_law_k", 1)]) (vs := [1]) rfl sc_law.nd rfl (by decide) (by decide) (mi_old (xi_range1 (by rfl) T.m_range (xa_cons (xd_callB (c_max2 rfl) (by rfl) T.m_max (by decide +kernel) (xa_cons xd_int (xa_cons (xd_callB (c_min2 rfl) (by rfl) T.m_min (by decide +kernel) (xa_cons xd_int (xa_cons (xd_callB c_len (by rfl) T.m_len (by decide +kernel) (xa_cons (xd_var (pv 0)) xa_nil)) xa_nil))) xa_nil))) xa_nil))) (blkOk_by (own := [("_law_k", 1)]) (N := n_law) (sc := defScope s_law) (by decide +kernel)) (fun _ _ _ _ _ => (mg_name (i := 1) (by decide) sc_law.nd rfl (by first | exact .inl rfl | exact .inr rfl))) (fun _ _ _ _ _ => mts_nil) (fun _ _ _ _ _ => (md_callZ G__law_right hg (hr.mono (by decide)) (by rfl) T.g__law_right T.d__law_right.kp T.b__law_right (ma_cons (md_new (mf_old (xf_call G__law_hand hg (hr.mono (by decide)) (by rfl) T.g__law_hand T.d__law_hand.kp T.b__law_hand (xa_cons (xd_var (pv 0)) (xa_cons (xd_var (pv 1)) xa_nil))))) ma_nil))))) ma_nil)))
      mss_nil)
end
end Z
namespace Z
open PySem PySem.Spec PyProof.Rows L2 Gd Q
theorem scr_of {K : PySem.W.Frag} {H : Hp} {a : Addr} {ns : List Int} (hO : Only H) (h : SqL K H a (ns.map V.int)) : ScR K H a ns := by
  rcases h with (h | ⟨o, h⟩) | h
  · rcases hO a with e | ⟨o, xs, e⟩
    · rw [e] at h
      cases h
    · rw [e] at h
      cases h
  · exact .inl ⟨o, h⟩
  · exact .inr (.inr h)
theorem law_want {P : Program} {w : World} {K : PySem.W.Frag} {H : Hp} {a : Addr} {ns : List Int} (hO : Only H) (h : SqL K H a (ns.map V.int)) (hl : ns.length ≤ 63) : @spM0 (tblW P w) K F_law [.ref a] H (fun v _ => v = .bl true) fun _ _ _ => False := by
  letI : Tbl := tblW P w
  obtain ⟨s', e⟩ := law_true hl
  refine ⟨[], [], [.d (scrD ns)], ⟨rfl, (fun i x e => nomatch e), (fun i c f d e => nomatch e), rfl, (fun i a c e => nomatch e), List.nodup_nil, ⟨fun q hq => (nomatch hq), trivial⟩⟩, .cons (.d (.scr (scr_of hO h))) .nil, ?_⟩
  rw [e]
  intro v H' α' st rv
  cases rv with
  | d im =>
    cases im
    rfl
theorem all_mk {l : PySem.W.OpenLaw} {w : World} {K : PySem.W.Frag} {h : Heap} {mg : Str → Option Value} {fa f1 f2 f3 f4 f5 f6 f7 f8 f9 f10 f11 f12 f13 f14 f15 f16 f17 f18 f19 f20 f21 f22 f23 f24 f25 : Addr} (X : K.In h) (G : h.Ns mainGlobals mg) (hfa : mg "law" = some (.ref fa))
    {od1 an1 od2 an2 od3 an3 od4 an4 od5 an5 od6 an6 od7 an7 od8 an8 od9 an9 od10 an10 od11 an11 od12 an12 od13 an13 od14 an14 od15 an15 od16 an16 od17 an17 od18 an18 od19 an19 od20 an20 od21 an21 od22 an22 od23 an23 od24 an24 od25 an25 : Option Addr} {sl1 sl2 sl3 sl4 sl5 sl6 sl7 sl8 sl9 sl10 sl11 sl12 sl13 sl14 sl15 sl16 sl17 sl18 sl19 sl20 sl21 sl22 sl23 sl24 sl25 : Array (Option Value)} {oc1 kV1 dc1 pm1 cd1 ct1 oc2 kV2 dc2 pm2 cd2 ct2 oc3 kV3 dc3 pm3 cd3 ct3 oc4 kV4 dc4 pm4 cd4 ct4 oc5 kV5 dc5 pm5 cd5 ct5 oc6 kV6 dc6 pm6 cd6 ct6 oc7 kV7 dc7 pm7 cd7 ct7 oc8 kV8 dc8 pm8 cd8 ct8 oc9 kV9 dc9 pm9 cd9 ct9 oc10 kV10 dc10 pm10 cd10 ct10 oc11 kV11 dc11 pm11 cd11 ct11 oc12 kV12 dc12 pm12 cd12 ct12 oc13 kV13 dc13 pm13 cd13 ct13 oc14 kV14 dc14 pm14 cd14 ct14 oc15 kV15 dc15 pm15 cd15 ct15 oc16 kV16 dc16 pm16 cd16 ct16 oc17 kV17 dc17 pm17 cd17 ct17 oc18 kV18 dc18 pm18 cd18 ct18 oc19 kV19 dc19 pm19 cd19 ct19 oc20 kV20 dc20 pm20 cd20 ct20 oc21 kV21 dc21 pm21 cd21 ct21 oc22 kV22 dc22 pm22 cd22 ct22 oc23 kV23 dc23 pm23 cd23 ct23 oc24 kV24 dc24 pm24 cd24 ct24 oc25 kV25 dc25 pm25 cd25 ct25 : Value}
    {c_Feed : Addr}
    (aO_Feed : PySem.W.nsIn K mainGlobals "Feed" = some (some (.ref c_Feed))) (pg_Feed : PySem.W.plainGet K c_Feed Str.empty = true) (hd_Feed : PySem.W.hasDictIn K c_Feed = true) (po_Feed : PySem.W.plainOver K c_Feed = true) (sA_Feed : PySem.W.findIn K (.ref c_Feed) "__setattr__" = some (some (.builtin "object.__setattr__"))) (mk_Feed : PySem.W.makesIn K c_Feed = true) (kO_Feed : PySem.W.keepIn K (.ref c_Feed) = true)
    (nf_Feed_current : PySem.W.findIn K (.ref c_Feed) "current" = some none)
    (nf_Feed_stored : PySem.W.findIn K (.ref c_Feed) "stored" = some none)
    (nf_Feed_tokens : PySem.W.findIn K (.ref c_Feed) "tokens" = some none)
    (nf_Feed_next_number : PySem.W.findIn K (.ref c_Feed) "next_number" = some none)
    (a1 : PySem.W.nsIn K mainGlobals "_law_take" = some (some (.ref f1))) (l1 : K.lookup f1 = some ⟨oc1, od1, .func (PySem.W.fnOf "_law_take" "_law_take" (defArgs s__law_take) (defBody s__law_take) (defScope s__law_take) .none kV1 dc1 pm1 an1 cd1 ct1), sl1⟩) (c1 : PySem.W.codeIn K cd1 "_law_take" = true) (k1 : PySem.W.keepIn K (.ref f1) = true)
    (a2 : PySem.W.nsIn K mainGlobals "_law_pick" = some (some (.ref f2))) (l2 : K.lookup f2 = some ⟨oc2, od2, .func (PySem.W.fnOf "_law_pick" "_law_pick" (defArgs s__law_pick) (defBody s__law_pick) (defScope s__law_pick) .none kV2 dc2 pm2 an2 cd2 ct2), sl2⟩) (c2 : PySem.W.codeIn K cd2 "_law_pick" = true) (k2 : PySem.W.keepIn K (.ref f2) = true)
    (a3 : PySem.W.nsIn K mainGlobals "_law_names" = some (some (.ref f3))) (l3 : K.lookup f3 = some ⟨oc3, od3, .func (PySem.W.fnOf "_law_names" "_law_names" (defArgs s__law_names) (defBody s__law_names) (defScope s__law_names) .none kV3 dc3 pm3 an3 cd3 ct3), sl3⟩) (c3 : PySem.W.codeIn K cd3 "_law_names" = true) (k3 : PySem.W.keepIn K (.ref f3) = true)
    (a4 : PySem.W.nsIn K mainGlobals "_law_shuffled" = some (some (.ref f4))) (l4 : K.lookup f4 = some ⟨oc4, od4, .func (PySem.W.fnOf "_law_shuffled" "_law_shuffled" (defArgs s__law_shuffled) (defBody s__law_shuffled) (defScope s__law_shuffled) .none kV4 dc4 pm4 an4 cd4 ct4), sl4⟩) (c4 : PySem.W.codeIn K cd4 "_law_shuffled" = true) (k4 : PySem.W.keepIn K (.ref f4) = true)
    (a5 : PySem.W.nsIn K mainGlobals "kept_orders" = some (some (.ref f5))) (l5 : K.lookup f5 = some ⟨oc5, od5, .func (PySem.W.fnOf "kept_orders" "kept_orders" (defArgs s_kept_orders) (defBody s_kept_orders) (defScope s_kept_orders) .none kV5 dc5 pm5 an5 cd5 ct5), sl5⟩) (c5 : PySem.W.codeIn K cd5 "kept_orders" = true) (k5 : PySem.W.keepIn K (.ref f5) = true)
    (a6 : PySem.W.nsIn K mainGlobals "is_row" = some (some (.ref f6))) (l6 : K.lookup f6 = some ⟨oc6, od6, .func (PySem.W.fnOf "is_row" "is_row" (defArgs s_is_row) (defBody s_is_row) (defScope s_is_row) .none kV6 dc6 pm6 an6 cd6 ct6), sl6⟩) (c6 : PySem.W.codeIn K cd6 "is_row" = true) (k6 : PySem.W.keepIn K (.ref f6) = true)
    (a7 : PySem.W.nsIn K mainGlobals "is_version" = some (some (.ref f7))) (l7 : K.lookup f7 = some ⟨oc7, od7, .func (PySem.W.fnOf "is_version" "is_version" (defArgs s_is_version) (defBody s_is_version) (defScope s_is_version) .none kV7 dc7 pm7 an7 cd7 ct7), sl7⟩) (c7 : PySem.W.codeIn K cd7 "is_version" = true) (k7 : PySem.W.keepIn K (.ref f7) = true)
    {dV8 ocT8 : Value} {T8 E8 : Addr} {odT8 : Option Addr} {nT8 : Nat} {slT8 : Array (Option Value)} (dd8 : dV8 = .ref T8)
    (a8 : PySem.W.findIn K (.ref c_Feed) "__init__" = some (some (.ref f8))) (i8 : PySem.W.isFn K (.ref f8) = true) (l8 : K.lookup f8 = some ⟨oc8, od8, .func (PySem.W.fnOf "__init__" "Feed.__init__" (defArgs s_Feed___init__) (defBody s_Feed___init__) (defScope s_Feed___init__) dV8 kV8 dc8 pm8 an8 cd8 ct8), sl8⟩) (c8 : PySem.W.codeIn K cd8 "Feed.__init__" = true) (k8 : PySem.W.keepIn K (.ref f8) = true)
    (lT8 : K.lookup T8 = some ⟨ocT8, odT8, .seq #[.ref E8] nT8, slT8⟩)
    (a9 : PySem.W.nsIn K mainGlobals "prefix_length" = some (some (.ref f9))) (l9 : K.lookup f9 = some ⟨oc9, od9, .func (PySem.W.fnOf "prefix_length" "prefix_length" (defArgs s_prefix_length) (defBody s_prefix_length) (defScope s_prefix_length) .none kV9 dc9 pm9 an9 cd9 ct9), sl9⟩) (c9 : PySem.W.codeIn K cd9 "prefix_length" = true) (k9 : PySem.W.keepIn K (.ref f9) = true)
    (a10 : PySem.W.nsIn K mainGlobals "encode_state" = some (some (.ref f10))) (l10 : K.lookup f10 = some ⟨oc10, od10, .func (PySem.W.fnOf "encode_state" "encode_state" (defArgs s_encode_state) (defBody s_encode_state) (defScope s_encode_state) .none kV10 dc10 pm10 an10 cd10 ct10), sl10⟩) (c10 : PySem.W.codeIn K cd10 "encode_state" = true) (k10 : PySem.W.keepIn K (.ref f10) = true)
    (a11 : PySem.W.findIn K (.ref c_Feed) "open_device" = some (some (.ref f11))) (i11 : PySem.W.isFn K (.ref f11) = true) (l11 : K.lookup f11 = some ⟨oc11, od11, .func (PySem.W.fnOf "open_device" "Feed.open_device" (defArgs s_Feed_open_device) (defBody s_Feed_open_device) (defScope s_Feed_open_device) .none kV11 dc11 pm11 an11 cd11 ct11), sl11⟩) (c11 : PySem.W.codeIn K cd11 "Feed.open_device" = true) (k11 : PySem.W.keepIn K (.ref f11) = true)
    (a12 : PySem.W.nsIn K mainGlobals "_law_opened" = some (some (.ref f12))) (l12 : K.lookup f12 = some ⟨oc12, od12, .func (PySem.W.fnOf "_law_opened" "_law_opened" (defArgs s__law_opened) (defBody s__law_opened) (defScope s__law_opened) .none kV12 dc12 pm12 an12 cd12 ct12), sl12⟩) (c12 : PySem.W.codeIn K cd12 "_law_opened" = true) (k12 : PySem.W.keepIn K (.ref f12) = true)
    (a13 : PySem.W.nsIn K mainGlobals "union_of" = some (some (.ref f13))) (l13 : K.lookup f13 = some ⟨oc13, od13, .func (PySem.W.fnOf "union_of" "union_of" (defArgs s_union_of) (defBody s_union_of) (defScope s_union_of) .none kV13 dc13 pm13 an13 cd13 ct13), sl13⟩) (c13 : PySem.W.codeIn K cd13 "union_of" = true) (k13 : PySem.W.keepIn K (.ref f13) = true)
    (a14 : PySem.W.nsIn K mainGlobals "is_integer_within" = some (some (.ref f14))) (l14 : K.lookup f14 = some ⟨oc14, od14, .func (PySem.W.fnOf "is_integer_within" "is_integer_within" (defArgs s_is_integer_within) (defBody s_is_integer_within) (defScope s_is_integer_within) .none kV14 dc14 pm14 an14 cd14 ct14), sl14⟩) (c14 : PySem.W.codeIn K cd14 "is_integer_within" = true) (k14 : PySem.W.keepIn K (.ref f14) = true)
    (a15 : PySem.W.nsIn K mainGlobals "is_token" = some (some (.ref f15))) (l15 : K.lookup f15 = some ⟨oc15, od15, .func (PySem.W.fnOf "is_token" "is_token" (defArgs s_is_token) (defBody s_is_token) (defScope s_is_token) .none kV15 dc15 pm15 an15 cd15 ct15), sl15⟩) (c15 : PySem.W.codeIn K cd15 "is_token" = true) (k15 : PySem.W.keepIn K (.ref f15) = true)
    (a16 : PySem.W.nsIn K mainGlobals "decode_token" = some (some (.ref f16))) (l16 : K.lookup f16 = some ⟨oc16, od16, .func (PySem.W.fnOf "decode_token" "decode_token" (defArgs s_decode_token) (defBody s_decode_token) (defScope s_decode_token) .none kV16 dc16 pm16 an16 cd16 ct16), sl16⟩) (c16 : PySem.W.codeIn K cd16 "decode_token" = true) (k16 : PySem.W.keepIn K (.ref f16) = true)
    (a17 : PySem.W.findIn K (.ref c_Feed) "require_device" = some (some (.ref f17))) (i17 : PySem.W.isFn K (.ref f17) = true) (l17 : K.lookup f17 = some ⟨oc17, od17, .func (PySem.W.fnOf "require_device" "Feed.require_device" (defArgs s_Feed_require_device) (defBody s_Feed_require_device) (defScope s_Feed_require_device) .none kV17 dc17 pm17 an17 cd17 ct17), sl17⟩) (c17 : PySem.W.codeIn K cd17 "Feed.require_device" = true) (k17 : PySem.W.keepIn K (.ref f17) = true)
    (a18 : PySem.W.findIn K (.ref c_Feed) "token_of" = some (some (.ref f18))) (i18 : PySem.W.isFn K (.ref f18) = true) (l18 : K.lookup f18 = some ⟨oc18, od18, .func (PySem.W.fnOf "token_of" "Feed.token_of" (defArgs s_Feed_token_of) (defBody s_Feed_token_of) (defScope s_Feed_token_of) .none kV18 dc18 pm18 an18 cd18 ct18), sl18⟩) (c18 : PySem.W.codeIn K cd18 "Feed.token_of" = true) (k18 : PySem.W.keepIn K (.ref f18) = true)
    (a19 : PySem.W.findIn K (.ref c_Feed) "state_of" = some (some (.ref f19))) (i19 : PySem.W.isFn K (.ref f19) = true) (l19 : K.lookup f19 = some ⟨oc19, od19, .func (PySem.W.fnOf "state_of" "Feed.state_of" (defArgs s_Feed_state_of) (defBody s_Feed_state_of) (defScope s_Feed_state_of) .none kV19 dc19 pm19 an19 cd19 ct19), sl19⟩) (c19 : PySem.W.codeIn K cd19 "Feed.state_of" = true) (k19 : PySem.W.keepIn K (.ref f19) = true)
    (a20 : PySem.W.findIn K (.ref c_Feed) "devices" = some (some (.ref f20))) (i20 : PySem.W.isFn K (.ref f20) = true) (l20 : K.lookup f20 = some ⟨oc20, od20, .func (PySem.W.fnOf "devices" "Feed.devices" (defArgs s_Feed_devices) (defBody s_Feed_devices) (defScope s_Feed_devices) .none kV20 dc20 pm20 an20 cd20 ct20), sl20⟩) (c20 : PySem.W.codeIn K cd20 "Feed.devices" = true) (k20 : PySem.W.keepIn K (.ref f20) = true)
    (a21 : PySem.W.nsIn K mainGlobals "_law_open_right" = some (some (.ref f21))) (l21 : K.lookup f21 = some ⟨oc21, od21, .func (PySem.W.fnOf "_law_open_right" "_law_open_right" (defArgs s__law_open_right) (defBody s__law_open_right) (defScope s__law_open_right) .none kV21 dc21 pm21 an21 cd21 ct21), sl21⟩) (c21 : PySem.W.codeIn K cd21 "_law_open_right" = true) (k21 : PySem.W.keepIn K (.ref f21) = true)
    (a22 : PySem.W.findIn K (.ref c_Feed) "close_device" = some (some (.ref f22))) (i22 : PySem.W.isFn K (.ref f22) = true) (l22 : K.lookup f22 = some ⟨oc22, od22, .func (PySem.W.fnOf "close_device" "Feed.close_device" (defArgs s_Feed_close_device) (defBody s_Feed_close_device) (defScope s_Feed_close_device) .none kV22 dc22 pm22 an22 cd22 ct22), sl22⟩) (c22 : PySem.W.codeIn K cd22 "Feed.close_device" = true) (k22 : PySem.W.keepIn K (.ref f22) = true)
    (a23 : PySem.W.nsIn K mainGlobals "_law_right" = some (some (.ref f23))) (l23 : K.lookup f23 = some ⟨oc23, od23, .func (PySem.W.fnOf "_law_right" "_law_right" (defArgs s__law_right) (defBody s__law_right) (defScope s__law_right) .none kV23 dc23 pm23 an23 cd23 ct23), sl23⟩) (c23 : PySem.W.codeIn K cd23 "_law_right" = true) (k23 : PySem.W.keepIn K (.ref f23) = true)
    (a24 : PySem.W.nsIn K mainGlobals "_law_hand" = some (some (.ref f24))) (l24 : K.lookup f24 = some ⟨oc24, od24, .func (PySem.W.fnOf "_law_hand" "_law_hand" (defArgs s__law_hand) (defBody s__law_hand) (defScope s__law_hand) .none kV24 dc24 pm24 an24 cd24 ct24), sl24⟩) (c24 : PySem.W.codeIn K cd24 "_law_hand" = true) (k24 : PySem.W.keepIn K (.ref f24) = true)
    (a25 : PySem.W.nsIn K mainGlobals "law" = some (some (.ref f25))) (l25 : K.lookup f25 = some ⟨oc25, od25, .func (PySem.W.fnOf "law" "law" (defArgs s_law) (defBody s_law) (defScope s_law) .none kV25 dc25 pm25 an25 cd25 ct25), sl25⟩) (c25 : PySem.W.codeIn K cd25 "law" = true) (k25 : PySem.W.keepIn K (.ref f25) = true)
    {tk1 tk2 tk3 : Tok} (u1 : PySem.W.nsIn K mainGlobals "MOST_LETTERS" = some (some (.int 8 tk1))) (u2 : PySem.W.nsIn K mainGlobals "MOST_ROWS" = some (some (.int 24 tk2))) (u3 : PySem.W.nsIn K mainGlobals "MOST_DEVICES" = some (some (.int 40 tk3)))
    {c_PagesError c_TooMany c_BadToken c_BadVersion c_NoDevice i_TooMany i_BadToken i_BadVersion i_NoDevice : Addr}
    (aC_PagesError : PySem.W.nsIn K mainGlobals "PagesError" = some (some (.ref c_PagesError)))
    (aC_TooMany : PySem.W.nsIn K mainGlobals "TooMany" = some (some (.ref c_TooMany)))
    (aC_BadToken : PySem.W.nsIn K mainGlobals "BadToken" = some (some (.ref c_BadToken)))
    (aC_BadVersion : PySem.W.nsIn K mainGlobals "BadVersion" = some (some (.ref c_BadVersion)))
    (aC_NoDevice : PySem.W.nsIn K mainGlobals "NoDevice" = some (some (.ref c_NoDevice)))
    {nm_TooMany qn_TooMany : Str} {N_TooMany : Addr} {bs_TooMany : List Value} {sn_TooMany : List Str} {sub_TooMany : List Value} {ab_TooMany : Bool} {col_TooMany : Option Bool} {dd_TooMany : Option Addr} {m0_TooMany m1_TooMany m2_TooMany m3_TooMany m5_TooMany : Option Value}
    {oc_TooMany kV_TooMany dc_TooMany pm_TooMany cd_TooMany ct_TooMany : Value} {od_TooMany an_TooMany : Option Addr} {sl_TooMany : Array (Option Value)}
    (xL_TooMany : K.lookup c_TooMany = some (excClassObj nm_TooMany qn_TooMany c_TooMany N_TooMany bs_TooMany [.ref c_PagesError, .type "ValueError", .type "Exception", .type "BaseException", .type "object"] true sn_TooMany sub_TooMany ab_TooMany col_TooMany dd_TooMany m0_TooMany m1_TooMany m2_TooMany m3_TooMany m5_TooMany "ValueError.__new__"))
    (sa_TooMany : PySem.W.findIn K (.ref c_TooMany) "__setattr__" = some (some (.builtin "object.__setattr__"))) (ga_TooMany : PySem.W.findIn K (.ref c_TooMany) "__getattribute__" = some (some (.builtin "BaseException.__getattribute__"))) (gg_TooMany : PySem.W.findIn K (.ref c_TooMany) "__getattr__" = some none) (nb_TooMany : PySem.W.findIn K (.ref c_TooMany) "most" = some none)
    (ai_TooMany : PySem.W.findIn K (.ref c_TooMany) "__init__" = some (some (.ref i_TooMany))) (ti_TooMany : PySem.W.typeIn K (.ref i_TooMany) = some (.type "function"))
    (li_TooMany : K.lookup i_TooMany = some ⟨oc_TooMany, od_TooMany, .func (PySem.W.fnOf "__init__" "TooMany.__init__" (defArgs s_i_TooMany) (defBody s_i_TooMany) (defScope s_i_TooMany) .none kV_TooMany dc_TooMany pm_TooMany an_TooMany cd_TooMany ct_TooMany), sl_TooMany⟩) (ci_TooMany : PySem.W.codeIn K cd_TooMany "TooMany.__init__" = true) (ki_TooMany : PySem.W.keepIn K (.ref i_TooMany) = true)
    (kC_TooMany : PySem.W.keepIn K (.ref c_TooMany) = true) (eC_TooMany : PySem.W.subIn K (.ref c_TooMany) (.type "BaseException") = some true) (tC_TooMany : PySem.W.typeIn K (.ref c_TooMany) = some (.type "type")) (hC_TooMany : PySem.W.hasDictIn K c_TooMany = true) (iC_TooMany : PySem.W.isClsIn K c_TooMany = true)
    (ca_TooMany : PySem.W.findIn K (.ref c_TooMany) "__class__" = some (some (.builtin "object.__class__"))) (mo_TooMany : PySem.W.mroIn K c_TooMany (.type "object") = some true)
    {nm_BadToken qn_BadToken : Str} {N_BadToken : Addr} {bs_BadToken : List Value} {sn_BadToken : List Str} {sub_BadToken : List Value} {ab_BadToken : Bool} {col_BadToken : Option Bool} {dd_BadToken : Option Addr} {m0_BadToken m1_BadToken m2_BadToken m3_BadToken m5_BadToken : Option Value}
    {oc_BadToken kV_BadToken dc_BadToken pm_BadToken cd_BadToken ct_BadToken : Value} {od_BadToken an_BadToken : Option Addr} {sl_BadToken : Array (Option Value)}
    (xL_BadToken : K.lookup c_BadToken = some (excClassObj nm_BadToken qn_BadToken c_BadToken N_BadToken bs_BadToken [.ref c_PagesError, .type "ValueError", .type "Exception", .type "BaseException", .type "object"] true sn_BadToken sub_BadToken ab_BadToken col_BadToken dd_BadToken m0_BadToken m1_BadToken m2_BadToken m3_BadToken m5_BadToken "ValueError.__new__"))
    (sa_BadToken : PySem.W.findIn K (.ref c_BadToken) "__setattr__" = some (some (.builtin "object.__setattr__"))) (ga_BadToken : PySem.W.findIn K (.ref c_BadToken) "__getattribute__" = some (some (.builtin "BaseException.__getattribute__"))) (gg_BadToken : PySem.W.findIn K (.ref c_BadToken) "__getattr__" = some none) (nb_BadToken : PySem.W.findIn K (.ref c_BadToken) "token" = some none)
    (ai_BadToken : PySem.W.findIn K (.ref c_BadToken) "__init__" = some (some (.ref i_BadToken))) (ti_BadToken : PySem.W.typeIn K (.ref i_BadToken) = some (.type "function"))
    (li_BadToken : K.lookup i_BadToken = some ⟨oc_BadToken, od_BadToken, .func (PySem.W.fnOf "__init__" "BadToken.__init__" (defArgs s_i_BadToken) (defBody s_i_BadToken) (defScope s_i_BadToken) .none kV_BadToken dc_BadToken pm_BadToken an_BadToken cd_BadToken ct_BadToken), sl_BadToken⟩) (ci_BadToken : PySem.W.codeIn K cd_BadToken "BadToken.__init__" = true) (ki_BadToken : PySem.W.keepIn K (.ref i_BadToken) = true)
    (kC_BadToken : PySem.W.keepIn K (.ref c_BadToken) = true) (eC_BadToken : PySem.W.subIn K (.ref c_BadToken) (.type "BaseException") = some true) (tC_BadToken : PySem.W.typeIn K (.ref c_BadToken) = some (.type "type")) (hC_BadToken : PySem.W.hasDictIn K c_BadToken = true) (iC_BadToken : PySem.W.isClsIn K c_BadToken = true)
    (ca_BadToken : PySem.W.findIn K (.ref c_BadToken) "__class__" = some (some (.builtin "object.__class__"))) (mo_BadToken : PySem.W.mroIn K c_BadToken (.type "object") = some true)
    {nm_BadVersion qn_BadVersion : Str} {N_BadVersion : Addr} {bs_BadVersion : List Value} {sn_BadVersion : List Str} {sub_BadVersion : List Value} {ab_BadVersion : Bool} {col_BadVersion : Option Bool} {dd_BadVersion : Option Addr} {m0_BadVersion m1_BadVersion m2_BadVersion m3_BadVersion m5_BadVersion : Option Value}
    {oc_BadVersion kV_BadVersion dc_BadVersion pm_BadVersion cd_BadVersion ct_BadVersion : Value} {od_BadVersion an_BadVersion : Option Addr} {sl_BadVersion : Array (Option Value)}
    (xL_BadVersion : K.lookup c_BadVersion = some (excClassObj nm_BadVersion qn_BadVersion c_BadVersion N_BadVersion bs_BadVersion [.ref c_PagesError, .type "ValueError", .type "Exception", .type "BaseException", .type "object"] true sn_BadVersion sub_BadVersion ab_BadVersion col_BadVersion dd_BadVersion m0_BadVersion m1_BadVersion m2_BadVersion m3_BadVersion m5_BadVersion "ValueError.__new__"))
    (sa_BadVersion : PySem.W.findIn K (.ref c_BadVersion) "__setattr__" = some (some (.builtin "object.__setattr__"))) (ga_BadVersion : PySem.W.findIn K (.ref c_BadVersion) "__getattribute__" = some (some (.builtin "BaseException.__getattribute__"))) (gg_BadVersion : PySem.W.findIn K (.ref c_BadVersion) "__getattr__" = some none) (nb_BadVersion : PySem.W.findIn K (.ref c_BadVersion) "version" = some none)
    (ai_BadVersion : PySem.W.findIn K (.ref c_BadVersion) "__init__" = some (some (.ref i_BadVersion))) (ti_BadVersion : PySem.W.typeIn K (.ref i_BadVersion) = some (.type "function"))
    (li_BadVersion : K.lookup i_BadVersion = some ⟨oc_BadVersion, od_BadVersion, .func (PySem.W.fnOf "__init__" "BadVersion.__init__" (defArgs s_i_BadVersion) (defBody s_i_BadVersion) (defScope s_i_BadVersion) .none kV_BadVersion dc_BadVersion pm_BadVersion an_BadVersion cd_BadVersion ct_BadVersion), sl_BadVersion⟩) (ci_BadVersion : PySem.W.codeIn K cd_BadVersion "BadVersion.__init__" = true) (ki_BadVersion : PySem.W.keepIn K (.ref i_BadVersion) = true)
    (kC_BadVersion : PySem.W.keepIn K (.ref c_BadVersion) = true) (eC_BadVersion : PySem.W.subIn K (.ref c_BadVersion) (.type "BaseException") = some true) (tC_BadVersion : PySem.W.typeIn K (.ref c_BadVersion) = some (.type "type")) (hC_BadVersion : PySem.W.hasDictIn K c_BadVersion = true) (iC_BadVersion : PySem.W.isClsIn K c_BadVersion = true)
    (ca_BadVersion : PySem.W.findIn K (.ref c_BadVersion) "__class__" = some (some (.builtin "object.__class__"))) (mo_BadVersion : PySem.W.mroIn K c_BadVersion (.type "object") = some true)
    {nm_NoDevice qn_NoDevice : Str} {N_NoDevice : Addr} {bs_NoDevice : List Value} {sn_NoDevice : List Str} {sub_NoDevice : List Value} {ab_NoDevice : Bool} {col_NoDevice : Option Bool} {dd_NoDevice : Option Addr} {m0_NoDevice m1_NoDevice m2_NoDevice m3_NoDevice m5_NoDevice : Option Value}
    {oc_NoDevice kV_NoDevice dc_NoDevice pm_NoDevice cd_NoDevice ct_NoDevice : Value} {od_NoDevice an_NoDevice : Option Addr} {sl_NoDevice : Array (Option Value)}
    (xL_NoDevice : K.lookup c_NoDevice = some (excClassObj nm_NoDevice qn_NoDevice c_NoDevice N_NoDevice bs_NoDevice [.ref c_PagesError, .type "ValueError", .type "Exception", .type "BaseException", .type "object"] true sn_NoDevice sub_NoDevice ab_NoDevice col_NoDevice dd_NoDevice m0_NoDevice m1_NoDevice m2_NoDevice m3_NoDevice m5_NoDevice "ValueError.__new__"))
    (sa_NoDevice : PySem.W.findIn K (.ref c_NoDevice) "__setattr__" = some (some (.builtin "object.__setattr__"))) (ga_NoDevice : PySem.W.findIn K (.ref c_NoDevice) "__getattribute__" = some (some (.builtin "BaseException.__getattribute__"))) (gg_NoDevice : PySem.W.findIn K (.ref c_NoDevice) "__getattr__" = some none) (nb_NoDevice : PySem.W.findIn K (.ref c_NoDevice) "device" = some none)
    (ai_NoDevice : PySem.W.findIn K (.ref c_NoDevice) "__init__" = some (some (.ref i_NoDevice))) (ti_NoDevice : PySem.W.typeIn K (.ref i_NoDevice) = some (.type "function"))
    (li_NoDevice : K.lookup i_NoDevice = some ⟨oc_NoDevice, od_NoDevice, .func (PySem.W.fnOf "__init__" "NoDevice.__init__" (defArgs s_i_NoDevice) (defBody s_i_NoDevice) (defScope s_i_NoDevice) .none kV_NoDevice dc_NoDevice pm_NoDevice an_NoDevice cd_NoDevice ct_NoDevice), sl_NoDevice⟩) (ci_NoDevice : PySem.W.codeIn K cd_NoDevice "NoDevice.__init__" = true) (ki_NoDevice : PySem.W.keepIn K (.ref i_NoDevice) = true)
    (kC_NoDevice : PySem.W.keepIn K (.ref c_NoDevice) = true) (eC_NoDevice : PySem.W.subIn K (.ref c_NoDevice) (.type "BaseException") = some true) (tC_NoDevice : PySem.W.typeIn K (.ref c_NoDevice) = some (.type "type")) (hC_NoDevice : PySem.W.hasDictIn K c_NoDevice = true) (iC_NoDevice : PySem.W.isClsIn K c_NoDevice = true)
    (ca_NoDevice : PySem.W.findIn K (.ref c_NoDevice) "__class__" = some (some (.builtin "object.__class__"))) (mo_NoDevice : PySem.W.mroIn K c_NoDevice (.type "object") = some true)
    (bn : PySem.W.specialIn K (.builtin "object.__class__") "__get__" = some (some (.builtin "getset_descriptor.__get__"))) (bt : PySem.W.takesIn K (.builtin "object.__class__") = some true)
    (iC_PagesError : PySem.W.isClsIn K c_PagesError = true) (tC_PagesError : PySem.W.typeIn K (.ref c_PagesError) = some (.type "type")) (eC_PagesError : PySem.W.subIn K (.ref c_PagesError) (.type "BaseException") = some true)
    (su_BadToken_NoDevice : PySem.W.subIn K (.ref c_BadToken) (.ref c_NoDevice) = some false)
    (ne_BadToken_NoDevice : (Value.ref c_BadToken == Value.ref c_NoDevice) = true → false = true)
    (su_BadToken_PagesError : PySem.W.subIn K (.ref c_BadToken) (.ref c_PagesError) = some true)
    (su_BadToken_TooMany : PySem.W.subIn K (.ref c_BadToken) (.ref c_TooMany) = some false)
    (ne_BadToken_TooMany : (Value.ref c_BadToken == Value.ref c_TooMany) = true → false = true)
    (su_BadVersion_NoDevice : PySem.W.subIn K (.ref c_BadVersion) (.ref c_NoDevice) = some false)
    (ne_BadVersion_NoDevice : (Value.ref c_BadVersion == Value.ref c_NoDevice) = true → false = true)
    (su_BadVersion_PagesError : PySem.W.subIn K (.ref c_BadVersion) (.ref c_PagesError) = some true)
    (su_BadVersion_TooMany : PySem.W.subIn K (.ref c_BadVersion) (.ref c_TooMany) = some false)
    (ne_BadVersion_TooMany : (Value.ref c_BadVersion == Value.ref c_TooMany) = true → false = true)
    (su_NoDevice_NoDevice : PySem.W.subIn K (.ref c_NoDevice) (.ref c_NoDevice) = some true)
    (ne_NoDevice_NoDevice : (Value.ref c_NoDevice == Value.ref c_NoDevice) = true → true = true)
    (su_NoDevice_PagesError : PySem.W.subIn K (.ref c_NoDevice) (.ref c_PagesError) = some true)
    (su_NoDevice_TooMany : PySem.W.subIn K (.ref c_NoDevice) (.ref c_TooMany) = some false)
    (ne_NoDevice_TooMany : (Value.ref c_NoDevice == Value.ref c_TooMany) = true → false = true)
    (su_TooMany_NoDevice : PySem.W.subIn K (.ref c_TooMany) (.ref c_NoDevice) = some false)
    (ne_TooMany_NoDevice : (Value.ref c_TooMany == Value.ref c_NoDevice) = true → false = true)
    (su_TooMany_PagesError : PySem.W.subIn K (.ref c_TooMany) (.ref c_PagesError) = some true)
    (su_TooMany_TooMany : PySem.W.subIn K (.ref c_TooMany) (.ref c_TooMany) = some true)
    (ne_TooMany_TooMany : (Value.ref c_TooMany == Value.ref c_TooMany) = true → true = true)
    (z1 : PySem.W.nsIn K mainGlobals "sum" = some none) (z2 : PySem.W.nsIn K mainGlobals "len" = some none) (z3 : PySem.W.nsIn K mainGlobals "abs" = some none) (z4 : PySem.W.nsIn K mainGlobals "int" = some none) (z5 : PySem.W.nsIn K mainGlobals "range" = some none) (z6 : PySem.W.nsIn K mainGlobals "list" = some none) (z7 : PySem.W.nsIn K mainGlobals "tuple" = some none) (z8 : PySem.W.nsIn K mainGlobals "repr" = some none) (z9 : PySem.W.nsIn K mainGlobals "max" = some none) (z10 : PySem.W.nsIn K mainGlobals "min" = some none) (z11 : PySem.W.nsIn K mainGlobals "sorted" = some none) (z12 : PySem.W.nsIn K mainGlobals "isinstance" = some none) (z13 : PySem.W.nsIn K mainGlobals "str" = some none) (z14 : PySem.W.nsIn K mainGlobals "bool" = some none) (z15 : PySem.W.nsIn K mainGlobals "all" = some none) (z16 : PySem.W.nsIn K mainGlobals "enumerate" = some none) (z17 : PySem.W.nsIn K mainGlobals "zip" = some none) (z18 : PySem.W.nsIn K mainGlobals "set" = some none) :
    ∃ fd : FuncData, (∀ (s : Shared) (v : Value), BindsTo s fd ⟨[v], []⟩ [("_law_script", v)]) ∧ ∀ base : Heap, K.In base → base.Ns mainGlobals mg → FnG l.prog w K mg base 8 fa fd ["_law_script"] (@spM0 (tblW l.prog w) K F_law) := by
  have e := hfa.symm.trans (PySem.W.mg_of X G a25)
  cases e
  have F1 := fun_mk (st := s__law_take) l1 c1 k1
  have b1 := F1.binds (ps := ["_law_hand_here", "_law_many"]) fun _ _ _ _ _ _ us hl => match us, hl with | [_, _], _ => rfl
  have F2 := fun_mk (st := s__law_pick) l2 c2 k2
  have b2 := F2.binds (ps := ["_law_hand_here", "_law_items"]) fun _ _ _ _ _ _ us hl => match us, hl with | [_, _], _ => rfl
  have F3 := fun_mk (st := s__law_names) l3 c3 k3
  have b3 := F3.binds (ps := ["_law_hand_here", "_law_count"]) fun _ _ _ _ _ _ us hl => match us, hl with | [_, _], _ => rfl
  have F4 := fun_mk (st := s__law_shuffled) l4 c4 k4
  have b4 := F4.binds (ps := ["_law_hand_here", "_law_items"]) fun _ _ _ _ _ _ us hl => match us, hl with | [_, _], _ => rfl
  have F5 := fun_mk (st := s_kept_orders) l5 c5 k5
  have b5 := F5.binds (ps := ["orders"]) fun _ _ _ _ _ _ us hl => match us, hl with | [_], _ => rfl
  have F6 := fun_mk (st := s_is_row) l6 c6 k6
  have b6 := F6.binds (ps := ["value"]) fun _ _ _ _ _ _ us hl => match us, hl with | [_], _ => rfl
  have F7 := fun_mk (st := s_is_version) l7 c7 k7
  have b7 := F7.binds (ps := ["value"]) fun _ _ _ _ _ _ us hl => match us, hl with | [_], _ => rfl
  subst dd8
  have F8 : FunV K "__init__" "Feed.__init__" s_Feed___init__ f8 _ := ⟨⟨_, _, _, _, _, _, _, _, _, _, rfl, l8, c8⟩, k8⟩
  have FD8 : FunD K "__init__" "Feed.__init__" (defArgs s_Feed___init__) (defBody s_Feed___init__) (defScope s_Feed___init__) [V.ref E8] [] f8 _ := ⟨⟨_, _, _, _, _, _, _, _, _, _, rfl, l8, c8, .inr ⟨(fun z => nomatch z), T8, _, [.ref E8], _, rfl, lT8, rfl, .cons rfl .nil⟩, .inl rfl⟩, k8⟩
  have b8 := (FD8.binds1 (ps := ["self", "version"]) 2 1 (fun z => nomatch z) rfl fun _ _ _ _ _ _ _ us its h1 h2 => match us, its, h1, h2 with | [_, _], [_], _, _ => ⟨_, rfl, rfl⟩).elim fun ds h => (show Binds K _ ["self", "version"] [] from by
    obtain ⟨v, b⟩ := h
    cases v
    exact b)
  have F9 := fun_mk (st := s_prefix_length) l9 c9 k9
  have b9 := F9.binds (ps := ["version", "live", "rows"]) fun _ _ _ _ _ _ us hl => match us, hl with | [_, _, _], _ => rfl
  have F10 := fun_mk (st := s_encode_state) l10 c10 k10
  have b10 := F10.binds (ps := ["orders", "rows"]) fun _ _ _ _ _ _ us hl => match us, hl with | [_, _], _ => rfl
  have F11 := fun_mk (st := s_Feed_open_device) l11 c11 k11
  have b11 := F11.binds (ps := ["self"]) fun _ _ _ _ _ _ us hl => match us, hl with | [_], _ => rfl
  have F12 := fun_mk (st := s__law_opened) l12 c12 k12
  have b12 := F12.binds (ps := ["_law_feed"]) fun _ _ _ _ _ _ us hl => match us, hl with | [_], _ => rfl
  have F13 := fun_mk (st := s_union_of) l13 c13 k13
  have b13 := F13.binds (ps := ["groups"]) fun _ _ _ _ _ _ us hl => match us, hl with | [_], _ => rfl
  have F14 := fun_mk (st := s_is_integer_within) l14 c14 k14
  have b14 := F14.binds (ps := ["value", "low", "high"]) fun _ _ _ _ _ _ us hl => match us, hl with | [_, _, _], _ => rfl
  have F15 := fun_mk (st := s_is_token) l15 c15 k15
  have b15 := F15.binds (ps := ["orders", "value"]) fun _ _ _ _ _ _ us hl => match us, hl with | [_, _], _ => rfl
  have F16 := fun_mk (st := s_decode_token) l16 c16 k16
  have b16 := F16.binds (ps := ["orders", "token"]) fun _ _ _ _ _ _ us hl => match us, hl with | [_, _], _ => rfl
  have F17 := fun_mk (st := s_Feed_require_device) l17 c17 k17
  have b17 := F17.binds (ps := ["self", "device"]) fun _ _ _ _ _ _ us hl => match us, hl with | [_, _], _ => rfl
  have F18 := fun_mk (st := s_Feed_token_of) l18 c18 k18
  have b18 := F18.binds (ps := ["self", "device"]) fun _ _ _ _ _ _ us hl => match us, hl with | [_, _], _ => rfl
  have F19 := fun_mk (st := s_Feed_state_of) l19 c19 k19
  have b19 := F19.binds (ps := ["self", "device"]) fun _ _ _ _ _ _ us hl => match us, hl with | [_, _], _ => rfl
  have F20 := fun_mk (st := s_Feed_devices) l20 c20 k20
  have b20 := F20.binds (ps := ["self"]) fun _ _ _ _ _ _ us hl => match us, hl with | [_], _ => rfl
  have F21 := fun_mk (st := s__law_open_right) l21 c21 k21
  have b21 := F21.binds (ps := ["_law_feed", "_law_opened_here", "_law_number"]) fun _ _ _ _ _ _ us hl => match us, hl with | [_, _, _], _ => rfl
  have F22 := fun_mk (st := s_Feed_close_device) l22 c22 k22
  have b22 := F22.binds (ps := ["self", "device"]) fun _ _ _ _ _ _ us hl => match us, hl with | [_, _], _ => rfl
  have F23 := fun_mk (st := s__law_right) l23 c23 k23
  have b23 := F23.binds (ps := ["_law_hand_here"]) fun _ _ _ _ _ _ us hl => match us, hl with | [_], _ => rfl
  have F24 := fun_mk (st := s__law_hand) l24 c24 k24
  have b24 := F24.binds (ps := ["_law_script", "_law_k"]) fun _ _ _ _ _ _ us hl => match us, hl with | [_, _], _ => rfl
  have F25 := fun_mk (st := s_law) l25 c25 k25
  have b25 := F25.binds (ps := ["_law_script"]) fun _ _ _ _ _ _ us hl => match us, hl with | [_], _ => rfl
  have X_TooMany : ExcT K mg "TooMany" "most" c_TooMany i_TooMany := ⟨PySem.W.mg_of X G aC_TooMany, aC_TooMany, ⟨⟨_, _, _, _, _, _, _, _, _, _, _, _, _, _, _, xL_TooMany, by first | rfl | decide +kernel⟩, sa_TooMany, eC_TooMany, tC_TooMany, kC_TooMany⟩, nb_TooMany, ai_TooMany, ti_TooMany, ⟨ga_TooMany, gg_TooMany, eC_TooMany, hC_TooMany⟩, iC_TooMany, ca_TooMany, mo_TooMany⟩
  have FI_TooMany := fun_mk (st := s_i_TooMany) li_TooMany ci_TooMany ki_TooMany
  have BI_TooMany := FI_TooMany.binds (ps := ["self", "most"]) fun _ _ _ _ _ _ us hl => match us, hl with | [_, _], _ => rfl
  have X_BadToken : ExcT K mg "BadToken" "token" c_BadToken i_BadToken := ⟨PySem.W.mg_of X G aC_BadToken, aC_BadToken, ⟨⟨_, _, _, _, _, _, _, _, _, _, _, _, _, _, _, xL_BadToken, by first | rfl | decide +kernel⟩, sa_BadToken, eC_BadToken, tC_BadToken, kC_BadToken⟩, nb_BadToken, ai_BadToken, ti_BadToken, ⟨ga_BadToken, gg_BadToken, eC_BadToken, hC_BadToken⟩, iC_BadToken, ca_BadToken, mo_BadToken⟩
  have FI_BadToken := fun_mk (st := s_i_BadToken) li_BadToken ci_BadToken ki_BadToken
  have BI_BadToken := FI_BadToken.binds (ps := ["self", "token"]) fun _ _ _ _ _ _ us hl => match us, hl with | [_, _], _ => rfl
  have X_BadVersion : ExcT K mg "BadVersion" "version" c_BadVersion i_BadVersion := ⟨PySem.W.mg_of X G aC_BadVersion, aC_BadVersion, ⟨⟨_, _, _, _, _, _, _, _, _, _, _, _, _, _, _, xL_BadVersion, by first | rfl | decide +kernel⟩, sa_BadVersion, eC_BadVersion, tC_BadVersion, kC_BadVersion⟩, nb_BadVersion, ai_BadVersion, ti_BadVersion, ⟨ga_BadVersion, gg_BadVersion, eC_BadVersion, hC_BadVersion⟩, iC_BadVersion, ca_BadVersion, mo_BadVersion⟩
  have FI_BadVersion := fun_mk (st := s_i_BadVersion) li_BadVersion ci_BadVersion ki_BadVersion
  have BI_BadVersion := FI_BadVersion.binds (ps := ["self", "version"]) fun _ _ _ _ _ _ us hl => match us, hl with | [_, _], _ => rfl
  have X_NoDevice : ExcT K mg "NoDevice" "device" c_NoDevice i_NoDevice := ⟨PySem.W.mg_of X G aC_NoDevice, aC_NoDevice, ⟨⟨_, _, _, _, _, _, _, _, _, _, _, _, _, _, _, xL_NoDevice, by first | rfl | decide +kernel⟩, sa_NoDevice, eC_NoDevice, tC_NoDevice, kC_NoDevice⟩, nb_NoDevice, ai_NoDevice, ti_NoDevice, ⟨ga_NoDevice, gg_NoDevice, eC_NoDevice, hC_NoDevice⟩, iC_NoDevice, ca_NoDevice, mo_NoDevice⟩
  have FI_NoDevice := fun_mk (st := s_i_NoDevice) li_NoDevice ci_NoDevice ki_NoDevice
  have BI_NoDevice := FI_NoDevice.binds (ps := ["self", "device"]) fun _ _ _ _ _ _ us hl => match us, hl with | [_, _], _ => rfl
  exact ⟨PySem.W.fnOf "law" "law" (defArgs s_law) (defBody s_law) (defScope s_law) .none kV25 dc25 pm25 an25 cd25 ct25, fun s v => .of_eq rfl, fun base _ _ => letI := tblW l.prog w; ok_law (c_PagesError := c_PagesError) (c_TooMany := c_TooMany) (c_BadToken := c_BadToken) (c_BadVersion := c_BadVersion) (c_NoDevice := c_NoDevice) (c_Feed := c_Feed) ⟨F1, b1, PySem.W.mg_of X G a1, F2, b2, PySem.W.mg_of X G a2, F3, b3, PySem.W.mg_of X G a3, F4, b4, PySem.W.mg_of X G a4, F5, b5, PySem.W.mg_of X G a5, F6, b6, PySem.W.mg_of X G a6, F7, b7, PySem.W.mg_of X G a7, F8, b8, F9, b9, PySem.W.mg_of X G a9, F10, b10, PySem.W.mg_of X G a10, F11, b11, ⟨a11, i11, k11⟩, F12, b12, PySem.W.mg_of X G a12, F13, b13, PySem.W.mg_of X G a13, F14, b14, PySem.W.mg_of X G a14, F15, b15, PySem.W.mg_of X G a15, F16, b16, PySem.W.mg_of X G a16, F17, b17, ⟨a17, i17, k17⟩, F18, b18, ⟨a18, i18, k18⟩, F19, b19, ⟨a19, i19, k19⟩, F20, b20, ⟨a20, i20, k20⟩, F21, b21, PySem.W.mg_of X G a21, F22, b22, ⟨a22, i22, k22⟩, F23, b23, PySem.W.mg_of X G a23, F24, b24, PySem.W.mg_of X G a24, F25, b25, PySem.W.mg_of X G a25, ⟨aO_Feed, ⟨pg_Feed, hd_Feed, po_Feed, sA_Feed⟩, (fun f hf => by
    simp only [List.mem_cons, List.not_mem_nil, or_false] at hf
    rcases hf with rfl | rfl | rfl | rfl
    · exact nf_Feed_current
    · exact nf_Feed_stored
    · exact nf_Feed_tokens
    · exact nf_Feed_next_number)⟩, PySem.W.mg_of X G aO_Feed, ⟨mk_Feed, a8, i8, kO_Feed⟩, PySem.W.mg_none_of X G z1, PySem.W.mg_none_of X G z2, PySem.W.mg_none_of X G z3, PySem.W.mg_none_of X G z4, PySem.W.mg_none_of X G z5, PySem.W.mg_none_of X G z6, PySem.W.mg_none_of X G z7, PySem.W.mg_none_of X G z8, PySem.W.mg_none_of X G z9, PySem.W.mg_none_of X G z10, PySem.W.mg_none_of X G z11, PySem.W.mg_none_of X G z12, PySem.W.mg_none_of X G z13, PySem.W.mg_none_of X G z14, PySem.W.mg_none_of X G z15, PySem.W.mg_none_of X G z16, PySem.W.mg_none_of X G z17, PySem.W.mg_none_of X G z18, ⟨_, PySem.W.mg_of X G u1⟩, ⟨_, PySem.W.mg_of X G u2⟩, ⟨_, PySem.W.mg_of X G u3⟩, ⟨bn, bt⟩, X_TooMany, FI_TooMany, BI_TooMany, fun _ _ _ => ok_ini FI_TooMany sc_i_TooMany rfl X_TooMany (by decide) (by decide), X_BadToken, FI_BadToken, BI_BadToken, fun _ _ _ => ok_ini FI_BadToken sc_i_BadToken rfl X_BadToken (by decide) (by decide), X_BadVersion, FI_BadVersion, BI_BadVersion, fun _ _ _ => ok_ini FI_BadVersion sc_i_BadVersion rfl X_BadVersion (by decide) (by decide), X_NoDevice, FI_NoDevice, BI_NoDevice, fun _ _ _ => ok_ini FI_NoDevice sc_i_NoDevice rfl X_NoDevice (by decide) (by decide), PySem.W.mg_of X G aC_NoDevice, PySem.W.mg_of X G aC_PagesError, PySem.W.mg_of X G aC_TooMany, exm_own eC_PagesError iC_PagesError tC_PagesError su_BadToken_PagesError, exm_own eC_PagesError iC_PagesError tC_PagesError su_BadVersion_PagesError, exm_own eC_PagesError iC_PagesError tC_PagesError su_NoDevice_PagesError, exm_own eC_PagesError iC_PagesError tC_PagesError su_TooMany_PagesError, kit_own iC_NoDevice tC_NoDevice su_BadToken_NoDevice ne_BadToken_NoDevice, kit_own iC_TooMany tC_TooMany su_BadToken_TooMany ne_BadToken_TooMany, kit_own iC_NoDevice tC_NoDevice su_BadVersion_NoDevice ne_BadVersion_NoDevice, kit_own iC_TooMany tC_TooMany su_BadVersion_TooMany ne_BadVersion_TooMany, kit_own iC_NoDevice tC_NoDevice su_NoDevice_NoDevice ne_NoDevice_NoDevice, kit_own iC_TooMany tC_TooMany su_NoDevice_TooMany ne_NoDevice_TooMany, kit_own iC_NoDevice tC_NoDevice su_TooMany_NoDevice ne_TooMany_NoDevice, kit_own iC_TooMany tC_TooMany su_TooMany_TooMany ne_TooMany_TooMany⟩ (fun _ => rfl)⟩
end Z
open PySem PySem.W PyProof.Rows
set_option maxHeartbeats 0 in
theorem PySem.Challenge.cw_movingpages_k55_devices_and_their_number_holds : PySem.Challenge.rw_movingpages_k55_devices_and_their_number.Holds := by
  w_on; o_law; k_head; (case hw => w_witness2)
  k_fill
  refine Q.walkGW (l := PySem.Challenge.rw_movingpages_k55_devices_and_their_number) (n := 63) (k := 8) (x := "_law_script") (sp := fun w K => @Q.spM0 (Q.tblW PySem.Challenge.rw_movingpages_k55_devices_and_their_number.prog w) K Z.F_law) rfl (by decide) rfl ⟨rfl, by decide, by decide⟩ (fun w h Y => PySem.W.kIn_of Y) ?F (fun _ _ _ a ns hl hO hS => Z.law_want hO hS hl)
  case F =>
    intro w mg fa h KX G hmg
    refine' Z.all_mk KX G hmg ?aO_Feed ?pg_Feed ?hd_Feed ?po_Feed ?sA_Feed ?mk_Feed ?kO_Feed ?nf_Feed_current ?nf_Feed_stored ?nf_Feed_tokens ?nf_Feed_next_number ?a1 ?l1 ?c1 ?k1 ?a2 ?l2 ?c2 ?k2 ?a3 ?l3 ?c3 ?k3 ?a4 ?l4 ?c4 ?k4 ?a5 ?l5 ?c5 ?k5 ?a6 ?l6 ?c6 ?k6 ?a7 ?l7 ?c7 ?k7 ?dd8 ?a8 ?i8 ?l8 ?c8 ?k8 ?lT8 ?a9 ?l9 ?c9 ?k9 ?a10 ?l10 ?c10 ?k10 ?a11 ?i11 ?l11 ?c11 ?k11 ?a12 ?l12 ?c12 ?k12 ?a13 ?l13 ?c13 ?k13 ?a14 ?l14 ?c14 ?k14 ?a15 ?l15 ?c15 ?k15 ?a16 ?l16 ?c16 ?k16 ?a17 ?i17 ?l17 ?c17 ?k17 ?a18 ?i18 ?l18 ?c18 ?k18 ?a19 ?i19 ?l19 ?c19 ?k19 ?a20 ?i20 ?l20 ?c20 ?k20 ?a21 ?l21 ?c21 ?k21 ?a22 ?i22 ?l22 ?c22 ?k22 ?a23 ?l23 ?c23 ?k23 ?a24 ?l24 ?c24 ?k24 ?a25 ?l25 ?c25 ?k25 ?u1 ?u2 ?u3 ?aC_PagesError ?aC_TooMany ?aC_BadToken ?aC_BadVersion ?aC_NoDevice ?xL_TooMany ?sa_TooMany ?ga_TooMany ?gg_TooMany ?nb_TooMany ?ai_TooMany ?ti_TooMany ?li_TooMany ?ci_TooMany ?ki_TooMany ?kC_TooMany ?eC_TooMany ?tC_TooMany ?hC_TooMany ?iC_TooMany ?ca_TooMany ?mo_TooMany ?xL_BadToken ?sa_BadToken ?ga_BadToken ?gg_BadToken ?nb_BadToken ?ai_BadToken ?ti_BadToken ?li_BadToken ?ci_BadToken ?ki_BadToken ?kC_BadToken ?eC_BadToken ?tC_BadToken ?hC_BadToken ?iC_BadToken ?ca_BadToken ?mo_BadToken ?xL_BadVersion ?sa_BadVersion ?ga_BadVersion ?gg_BadVersion ?nb_BadVersion ?ai_BadVersion ?ti_BadVersion ?li_BadVersion ?ci_BadVersion ?ki_BadVersion ?kC_BadVersion ?eC_BadVersion ?tC_BadVersion ?hC_BadVersion ?iC_BadVersion ?ca_BadVersion ?mo_BadVersion ?xL_NoDevice ?sa_NoDevice ?ga_NoDevice ?gg_NoDevice ?nb_NoDevice ?ai_NoDevice ?ti_NoDevice ?li_NoDevice ?ci_NoDevice ?ki_NoDevice ?kC_NoDevice ?eC_NoDevice ?tC_NoDevice ?hC_NoDevice ?iC_NoDevice ?ca_NoDevice ?mo_NoDevice ?bn ?bt ?iC_PagesError ?tC_PagesError ?eC_PagesError ?su_BadToken_NoDevice ?ne_BadToken_NoDevice ?su_BadToken_PagesError ?su_BadToken_TooMany ?ne_BadToken_TooMany ?su_BadVersion_NoDevice ?ne_BadVersion_NoDevice ?su_BadVersion_PagesError ?su_BadVersion_TooMany ?ne_BadVersion_TooMany ?su_NoDevice_NoDevice ?ne_NoDevice_NoDevice ?su_NoDevice_PagesError ?su_NoDevice_TooMany ?ne_NoDevice_TooMany ?su_TooMany_NoDevice ?ne_TooMany_NoDevice ?su_TooMany_PagesError ?su_TooMany_TooMany ?ne_TooMany_TooMany ?z1 ?z2 ?z3 ?z4 ?z5 ?z6 ?z7 ?z8 ?z9 ?z10 ?z11 ?z12 ?z13 ?z14 ?z15 ?z16 ?z17 ?z18
    (case aO_Feed => k_is)
    (case pg_Feed => k_is)
    (case hd_Feed => k_is)
    (case po_Feed => k_is)
    (case sA_Feed => k_is)
    (case mk_Feed => k_is)
    (case kO_Feed => k_is)
    (case nf_Feed_current => k_is)
    (case nf_Feed_stored => k_is)
    (case nf_Feed_tokens => k_is)
    (case nf_Feed_next_number => k_is)
    (case a1 => k_is)
    (case l1 => k_is)
    (case c1 => k_is)
    (case k1 => k_is)
    (case a2 => k_is)
    (case l2 => k_is)
    (case c2 => k_is)
    (case k2 => k_is)
    (case a3 => k_is)
    (case l3 => k_is)
    (case c3 => k_is)
    (case k3 => k_is)
    (case a4 => k_is)
    (case l4 => k_is)
    (case c4 => k_is)
    (case k4 => k_is)
    (case a5 => k_is)
    (case l5 => k_is)
    (case c5 => k_is)
    (case k5 => k_is)
    (case a6 => k_is)
    (case l6 => k_is)
    (case c6 => k_is)
    (case k6 => k_is)
    (case a7 => k_is)
    (case l7 => k_is)
    (case c7 => k_is)
    (case k7 => k_is)
    (case dd8 => rfl)
    (case a8 => k_is)
    (case i8 => k_is)
    (case l8 => k_is)
    (case c8 => k_is)
    (case k8 => k_is)
    (case lT8 => k_is)
    (case a9 => k_is)
    (case l9 => k_is)
    (case c9 => k_is)
    (case k9 => k_is)
    (case a10 => k_is)
    (case l10 => k_is)
    (case c10 => k_is)
    (case k10 => k_is)
    (case a11 => k_is)
    (case i11 => k_is)
    (case l11 => k_is)
    (case c11 => k_is)
    (case k11 => k_is)
    (case a12 => k_is)
    (case l12 => k_is)
    (case c12 => k_is)
    (case k12 => k_is)
    (case a13 => k_is)
    (case l13 => k_is)
    (case c13 => k_is)
    (case k13 => k_is)
    (case a14 => k_is)
    (case l14 => k_is)
    (case c14 => k_is)
    (case k14 => k_is)
    (case a15 => k_is)
    (case l15 => k_is)
    (case c15 => k_is)
    (case k15 => k_is)
    (case a16 => k_is)
    (case l16 => k_is)
    (case c16 => k_is)
    (case k16 => k_is)
    (case a17 => k_is)
    (case i17 => k_is)
    (case l17 => k_is)
    (case c17 => k_is)
    (case k17 => k_is)
    (case a18 => k_is)
    (case i18 => k_is)
    (case l18 => k_is)
    (case c18 => k_is)
    (case k18 => k_is)
    (case a19 => k_is)
    (case i19 => k_is)
    (case l19 => k_is)
    (case c19 => k_is)
    (case k19 => k_is)
    (case a20 => k_is)
    (case i20 => k_is)
    (case l20 => k_is)
    (case c20 => k_is)
    (case k20 => k_is)
    (case a21 => k_is)
    (case l21 => k_is)
    (case c21 => k_is)
    (case k21 => k_is)
    (case a22 => k_is)
    (case i22 => k_is)
    (case l22 => k_is)
    (case c22 => k_is)
    (case k22 => k_is)
    (case a23 => k_is)
    (case l23 => k_is)
    (case c23 => k_is)
    (case k23 => k_is)
    (case a24 => k_is)
    (case l24 => k_is)
    (case c24 => k_is)
    (case k24 => k_is)
    (case a25 => k_is)
    (case l25 => k_is)
    (case c25 => k_is)
    (case k25 => k_is)
    (case u1 => k_is)
    (case u2 => k_is)
    (case u3 => k_is)
    (case aC_PagesError => k_is)
    (case aC_TooMany => k_is)
    (case aC_BadToken => k_is)
    (case aC_BadVersion => k_is)
    (case aC_NoDevice => k_is)
    (case xL_TooMany => k_is)
    (case sa_TooMany => k_is)
    (case ga_TooMany => k_is)
    (case gg_TooMany => k_is)
    (case nb_TooMany => k_is)
    (case ai_TooMany => k_is)
    (case ti_TooMany => k_is)
    (case li_TooMany => k_is)
    (case ci_TooMany => k_is)
    (case ki_TooMany => k_is)
    (case kC_TooMany => k_is)
    (case eC_TooMany => k_is)
    (case tC_TooMany => k_is)
    (case hC_TooMany => k_is)
    (case iC_TooMany => k_is)
    (case ca_TooMany => k_is)
    (case mo_TooMany => k_is)
    (case xL_BadToken => k_is)
    (case sa_BadToken => k_is)
    (case ga_BadToken => k_is)
    (case gg_BadToken => k_is)
    (case nb_BadToken => k_is)
    (case ai_BadToken => k_is)
    (case ti_BadToken => k_is)
    (case li_BadToken => k_is)
    (case ci_BadToken => k_is)
    (case ki_BadToken => k_is)
    (case kC_BadToken => k_is)
    (case eC_BadToken => k_is)
    (case tC_BadToken => k_is)
    (case hC_BadToken => k_is)
    (case iC_BadToken => k_is)
    (case ca_BadToken => k_is)
    (case mo_BadToken => k_is)
    (case xL_BadVersion => k_is)
    (case sa_BadVersion => k_is)
    (case ga_BadVersion => k_is)
    (case gg_BadVersion => k_is)
    (case nb_BadVersion => k_is)
    (case ai_BadVersion => k_is)
    (case ti_BadVersion => k_is)
    (case li_BadVersion => k_is)
    (case ci_BadVersion => k_is)
    (case ki_BadVersion => k_is)
    (case kC_BadVersion => k_is)
    (case eC_BadVersion => k_is)
    (case tC_BadVersion => k_is)
    (case hC_BadVersion => k_is)
    (case iC_BadVersion => k_is)
    (case ca_BadVersion => k_is)
    (case mo_BadVersion => k_is)
    (case xL_NoDevice => k_is)
    (case sa_NoDevice => k_is)
    (case ga_NoDevice => k_is)
    (case gg_NoDevice => k_is)
    (case nb_NoDevice => k_is)
    (case ai_NoDevice => k_is)
    (case ti_NoDevice => k_is)
    (case li_NoDevice => k_is)
    (case ci_NoDevice => k_is)
    (case ki_NoDevice => k_is)
    (case kC_NoDevice => k_is)
    (case eC_NoDevice => k_is)
    (case tC_NoDevice => k_is)
    (case hC_NoDevice => k_is)
    (case iC_NoDevice => k_is)
    (case ca_NoDevice => k_is)
    (case mo_NoDevice => k_is)
    (case bn => k_is)
    (case bt => k_is)
    (case iC_PagesError => k_is)
    (case tC_PagesError => k_is)
    (case eC_PagesError => k_is)
    (case su_BadToken_NoDevice => first | k_is | rfl)
    (case ne_BadToken_NoDevice => first | exact fun _ => rfl | exact fun h => absurd h (by decide))
    (case su_BadToken_PagesError => first | k_is | rfl)
    (case su_BadToken_TooMany => first | k_is | rfl)
    (case ne_BadToken_TooMany => first | exact fun _ => rfl | exact fun h => absurd h (by decide))
    (case su_BadVersion_NoDevice => first | k_is | rfl)
    (case ne_BadVersion_NoDevice => first | exact fun _ => rfl | exact fun h => absurd h (by decide))
    (case su_BadVersion_PagesError => first | k_is | rfl)
    (case su_BadVersion_TooMany => first | k_is | rfl)
    (case ne_BadVersion_TooMany => first | exact fun _ => rfl | exact fun h => absurd h (by decide))
    (case su_NoDevice_NoDevice => first | k_is | rfl)
    (case ne_NoDevice_NoDevice => first | exact fun _ => rfl | exact fun h => absurd h (by decide))
    (case su_NoDevice_PagesError => first | k_is | rfl)
    (case su_NoDevice_TooMany => first | k_is | rfl)
    (case ne_NoDevice_TooMany => first | exact fun _ => rfl | exact fun h => absurd h (by decide))
    (case su_TooMany_NoDevice => first | k_is | rfl)
    (case ne_TooMany_NoDevice => first | exact fun _ => rfl | exact fun h => absurd h (by decide))
    (case su_TooMany_PagesError => first | k_is | rfl)
    (case su_TooMany_TooMany => first | k_is | rfl)
    (case ne_TooMany_TooMany => first | exact fun _ => rfl | exact fun h => absurd h (by decide))
    (case z1 => k_is)
    (case z2 => k_is)
    (case z3 => k_is)
    (case z4 => k_is)
    (case z5 => k_is)
    (case z6 => k_is)
    (case z7 => k_is)
    (case z8 => k_is)
    (case z9 => k_is)
    (case z10 => k_is)
    (case z11 => k_is)
    (case z12 => k_is)
    (case z13 => k_is)
    (case z14 => k_is)
    (case z15 => k_is)
    (case z16 => k_is)
    (case z17 => k_is)
    (case z18 => k_is)
