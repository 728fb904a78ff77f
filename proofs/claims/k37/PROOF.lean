import PyProof.Rows.All
import Wide.All
import OpenK.AllK
import Wide.FinOn
import HandS.Base
import HandS.Call
import HandS.List
import HandS.Comp
import HandS.Ends
import HandS.Words
import PyProof.ReprRoads
import PyProof.ReprReads
import HandS.Lambda
import HandS.Iter
import HandS.Walk
import HandS.Zip
import HandS.TupAny
import HandS.TupMul
import HandS.TupLe
import HandS.Text
import HandS.IsInst
import HandS.More
import PyProof.EqLayable
import PyProof.P3Eq
import PyProof.P3In
import HandS.Deep
import HandS.Wide
import PyProof.ReprLen
import HandS.SortInts
import PyProof.Rows.StrMeet
import KE.GoesMore
import KE.GoesEnum
import PyProof.Draws
import PyProof.EnumMake
import HandS.Style
import HandS.Dict
import PyProof.StrBlock2
import HandS.Strs
import PyProof.Rows.IntBool
import PyProof.NeData
import PyProof.CallStr
import PyProof.EqKinds
import HandS.SetFor
import HandS.StrMore
import HandS.Exc
import HandS.ExcInit
import HandS.ExcField
import HandS.WordsExc
import KE.KExcIs
import HandS.SetBool
import HandS.SetTxt0
import HandS.TryOnly
import KE.KLam
import PyProof.Rows.ListMul
import HandS.Sort
import KE.SortKeyHeap
import HandS.SortKw
import KE.SortUse
import KE.KDictDisplayH
import PyProof.Rows.TupDisplay
import KE.SortData
import KE.SortLaws
import HandS.Conv
import KE.KDictSum
import KE.KDictPairs
import KE.KSortAsk
import KE.KSortTup
import PyProof.DictMoreH
import PyProof.DictRoadsH
import KE.KDictZip
import PyProof.ListNew
import HandS.ListItems
import HandS.DictComp
import OpenK.KMore
import KE.DataEq
import KE.KNestM
import HandS.EndTab
import PySem.Challenge.RW_movingpages_k37_values_that_are_no_token
set_option Elab.async false
set_option linter.all false
set_option maxRecDepth 100000
set_option maxHeartbeats 4000000
/-! Promises of defs that are called while no repr is under way: then repr of data is its text. -/
namespace Gd
open PySem PySem.Spec PyProof.Rows L2
structure FnG (P : Program) (w : World) (K : PySem.W.Frag) (mg : Str → Option Value) (base : Heap) (k : Nat) (f : Addr) (fd : FuncData) (ps : List Str) (sp : Sp) : Prop where
  len : ∀ vs H Q E, sp vs H Q E → vs.length = ps.length
  go : ∀ {A : Around} {outer : List Env} {s : Shared} {H : Hp} {args : Args} {us : List Value} {vs : List V} {Q : VK} {E : XK}, A.guards = some [] → Room k A →
    Env0 P w K mg base A outer s H → BindsTo s fd args (ps.zip us) → Vals vs us → sp vs H Q E → codeAny (model P w) A (.call (.ref f) args) (CR CX0 outer P w H s Q E) s
section
variable {P : Program} {w : World} {K : PySem.W.Frag} {mg : Str → Option Value} {base : Heap} {k : Nat} {f : Addr} {fd : FuncData} {ps : List Str} {sp : Sp}
theorem FnG.up {j : Nat} (G : FnG P w K mg base j f fd ps sp) (h : j ≤ k) : FnG P w K mg base k f fd ps sp :=
  ⟨G.len, fun g r e b v q => G.go g (r.mono h) e b v q⟩
/-- a def's body, walked while no repr is under way -/
theorem okG {x qual : Str} {st : Stmt} {N : List Str} (F : Fun K x qual st f fd) (S : FnScope N ps (defScope st)) (len : ∀ vs H Q E, sp vs H Q E → vs.length = ps.length)
    (B : ∀ (cdv : Value) (A : Around) (outer : List Env) (s : Shared) (H : Hp) (vs : List V) (Q : VK) (E : XK), fd.code = cdv → A.guards = some [] → Room k (A.deeper (envOfC qual (defScope st) s.heap.objs.size f cdv)) → sp vs H Q E →
      ∃ t, PSs (cxOf CX0 P w K mg base N qual (defScope st) f cdv A outer s H E).nox (defBody st) t ∧ t { nx := fun _ H' => Q .non H', rt := Q } (start N vs) H) : FnG P w K mg base (k + 1) f fd ps sp := by
  obtain ⟨oc, od, kV, doc, pm, an, cdv, ct, osl, rfl, lk, hcd⟩ := F.ex
  refine ⟨len, fun {A outer s H args us vs Q E} g room env0 bt rel want => ?_⟩
  have kin : K.In s.heap := env0.mod.kin.keeps fun b o q => (env0.bs b o q).1
  have nol : s.heap.NoLimit := env0.mod.nolimit.keeps fun b o q => (env0.bs b o q).1
  refine codeAny_call_function room.depth (kin _ _ lk) rfl S.co S.gen rfl (PySem.W.codeRec_of kin hcd) (bt _ _ _ _ ?_)
  refine wpAny_newFunctionEnv_cells S.kind ?_ fun env ee s1 inn => ?_
  · rintro ⟨n, v⟩ hy
    refine (S.par n (List.of_mem_zip hy).1).elim Or.inl fun q => Or.inr ⟨q, ?_⟩
    exact PySem.W.cellsFrom_some _ _ _ (Or.inl q)
  subst ee
  refine ⟨nol.keeps inn.toInCall.keep, codeAny_func ?_⟩
  obtain ⟨t, ht, hq⟩ := B cdv A outer s H vs Q E rfl g (room.deeper _) want
  have I0 := inv_start (CX := CX0) (E := E) S room.hd env0 (len _ _ _ _ want) rel inn
  refine wpAny_mono (ht.nox.run [] s1 (start N vs) H _ I0 hq) (fun fl s' z => ?_) fun _ _ z => z
  cases fl with
  | ret u =>
    obtain ⟨v, σ', H', J, rv, q⟩ := z
    exact ⟨v, H', J.os, J.bare, J.base, J.hok, rv, q⟩
  | next =>
    obtain ⟨σ', H', J, q⟩ := z
    exact ⟨V.non, H', J.os, J.bare, J.base, J.hok, rfl, q⟩
  | brk => exact z.elim fun _ z => z.elim fun _ z => z.2.elim
  | cont => exact z.elim fun _ z => z.elim fun _ z => z.2.elim
end
section
variable {X : Cx} {k : Nat} {f : Addr} {fd : FuncData} {ps : List Str} {sp : Sp} {x : Str} {p pos : Pos} {e : Expr} {es : List Expr} {t : TA}
/-- f(e, ..) of such a def -/
theorem pe_callG (F : FnG X.prog X.w X.K X.mg X.base k f fd ps sp) (g : X.A.guards = some []) (room : Room k X.A) (hg : Gl X x) (hm : X.mg x = some (.ref f)) (hk : PySem.W.keepIn X.K (.ref f) = true) (hb : Binds X.K fd ps [])
    (ha : PA X (e :: es) t) (hdb : (x == ("__debug__" : Str)) = false := by decide) (he : starEach (e :: es) X.env = (false, eval e X.env) :: starEach es X.env := by rfl) (hpl : (backTo pos (starEach es X.env)).any (·.1) = false := by rfl) :
    PE X (.Call (.Name x p) (e :: es) [] pos) (tCall sp [] E0 t) := ⟨fun pins s σ H Q I h => by
  refine wpAny_Call_Name_kw (ld_glob I hg hm ?_ hdb)
  refine PySem.W.callWith_K (h₀ := X.base) I.ok.mod.kin hk (thn (ha.run pos pins s σ H _ I h) ?_) he hpl
  rintro us s1 ⟨vs, H1, I1, r, q⟩
  refine ⟨I1.kIn, ?_⟩
  have r0 : Vals (vs ++ []) (us ++ []) := r.append .nil
  have z := F.len _ _ _ _ q
  rw [r0.length] at z
  refine wpAny_call (codeAny_mono (F.go g room I1.env0 (hb s1 us I1.kIn z) r0 q) fun res s' hq => ?_)
  cases res with
  | error _ => exact False.elim hq
  | ok fl =>
    cases fl with
    | ret u => exact I1.after hq
    | next => exact False.elim hq
    | brk => exact False.elim hq
    | cont => exact False.elim hq⟩
end
/-- repr(x) of data without dicts -/
def rShow (K : PySem.W.Frag) : List V → Hp → VK → Prop := fun xs H Q => ∃ x d, xs = [x] ∧ Dp K H x d ∧ d.showable = true ∧ d.hasDict = false ∧ d.depth ≤ 60 ∧ d.shown.length ≤ sizeLine ∧ Q (.str d.shown) H
end Gd
namespace Q
open PySem PySem.Spec PyProof.Rows L2
/-- tuples and locked things stay -/
def Grow (H H' : Hp) : Prop := (∀ b xs, H b = some (.tup xs) → H' b = some (.tup xs)) ∧ (∀ b o u, H b = some (.frz o u) → H' b = some (.frz o u)) ∧ (∀ b fs, H b = some (.xd fs) → H' b = some (.xd fs)) ∧ ∀ b q, H b = some (LamX.CodeO b q) → H' b = some (LamX.CodeO b q)
theorem Grow.refl (H : Hp) : Grow H H := ⟨fun _ _ h => h, fun _ _ _ h => h, fun _ _ h => h, fun _ _ h => h⟩
theorem Grow.trans {H H1 H2 : Hp} (a : Grow H H1) (b : Grow H1 H2) : Grow H H2 := ⟨fun c xs h => b.1 c xs (a.1 c xs h), fun c o u h => b.2.1 c o u (a.2.1 c o u h), fun c fs h => b.2.2.1 c fs (a.2.2.1 c fs h), fun c p h => b.2.2.2 c p (a.2.2.2 c p h)⟩
theorem Grow.same {H H' : Hp} (s : Same H H') : Grow H H' := ⟨fun b _ h => s b _ h, fun b _ _ h => s b _ h, fun b _ h => s b _ h, fun b _ h => s b _ h⟩
/-- neither a table nor a code object -/
def NoTab : HO → Prop
  | .tbl _ => False
  | .ext φ => ∀ p q, HO.ext φ ≠ LamX.CodeO p q
  | _ => True
theorem noTab_code {h : HO} (n : NoTab h) {p : Addr} (q : Str) : h ≠ LamX.CodeO p q := fun z => by
  cases h with
  | ext φ => exact n p q z
  | _ => exact nomatch z
theorem grow_upd {H : Hp} {p : Addr} {h u : HO} (e : H p = some h) (m : Mut (some h)) (nt : ∀ q, h ≠ LamX.CodeO p q) : Grow H (upd H p u) := by
  refine ⟨fun b xs q => ?_, fun b o w q => ?_, fun b fs q => ?_, fun b w q => ?_⟩
  · rw [upd_ne fun z => ?_]
    · exact q
    · rw [z, e] at q
      cases q
      exact m
  · rw [upd_ne fun z => ?_]
    · exact q
    · rw [z, e] at q
      cases q
      exact m
  · rw [upd_ne fun z => ?_]
    · exact q
    · rw [z, e] at q
      cases q
      exact m
  · rw [upd_ne fun z => ?_]
    · exact q
    · rw [z, e] at q
      exact nt _ (Option.some.inj q)
/-- the tables of code objects that lambdas are noted in, and what else is to be known as long as things stay -/
class Tbl where
  T : List (Addr × Str)
  G : Hp → Prop
  up : ∀ H H', Grow H H' → G H → G H'
  /-- the hash of a tuple of ints and texts -/
  hs : List Key → Int
instance (priority := low) noTbl : Tbl := ⟨[], fun _ => True, fun _ _ _ _ => trivial, fun _ => 0⟩
variable [Tbl]
/-! # A layer of data: what slots hold as trees, and what a piece of the text makes of them -/
abbrev D := PyData
/-- a test that the kernel never runs -/
noncomputable def cb (p : Prop) : Bool := @decide p (Classical.propDecidable p)
theorem cb_true {p : Prop} (h : p) : cb p = true := @decide_eq_true p (Classical.propDecidable p) h
@[simp] theorem cb_T : cb True = true := cb_true trivial
theorem of_cb {p : Prop} (h : cb p = true) : p := @of_decide_eq_true p (Classical.propDecidable p) h
def keyD : Key → D
  | .inl i => .int i
  | .inr x => .str x
/-- a list that nothing can change: locked -/
def LkL (_ : PySem.W.Frag) (H : Hp) (a : Addr) (xs : List V) : Prop := ∃ o, H a = some (.frz o (.lst xs))
/-- a tuple that has no fields of its own -/
def NdT (H : Hp) (a : Addr) (xs : List V) : Prop := ∃ o : Obj, H a = some (.frz o (.tup xs)) ∧ o.dict = none
theorem NdT.sq {K : PySem.W.Frag} {H : Hp} {a : Addr} {xs : List V} (h : NdT H a xs) : SqT K H a xs := by
  obtain ⟨o, h, _⟩ := h
  exact .inl (.inr ⟨o, h⟩)
/-- the script: locked, or written -/
def ScR (K : PySem.W.Frag) (H : Hp) (a : Addr) (ns : List Int) : Prop := (∃ o, H a = some (.frz o (.lst (ns.map V.int)))) ∨ SqL K (fun _ => none) a (ns.map V.int)
theorem ScR.sq {K : PySem.W.Frag} {H : Hp} {a : Addr} {ns : List Int} (h : ScR K H a ns) : SqL K H a (ns.map V.int) := by
  rcases h with h | (h | ⟨o, h⟩) | h
  · exact .inl (.inr h)
  · cases h
  · cases h
  · exact .inr h
def scrD (ns : List Int) : D := .dict [(.none, .list (ns.map PyData.int))]
theorem LkL.sq {K : PySem.W.Frag} {H : Hp} {a : Addr} {xs : List V} (h : LkL K H a xs) : SqL K H a xs := .inl (.inr h)
mutual
inductive Im (K : PySem.W.Frag) (H : Hp) : V → D → Prop
  | non : Im K H .non .none
  | bl (b : Bool) : Im K H (.bl b) (.bool b)
  | int (i : Int) : Im K H (.int i) (.int i)
  | str (x : Str) : Im K H (.str x) (.str x)
  | tup {a : Addr} {xs : List V} {ds : List D} : NdT H a xs → ImL K H xs ds → Im K H (.ref a) (.tuple ds)
  | lst {a : Addr} {xs : List V} {ds : List D} : LkL K H a xs → ImL K H xs ds → Im K H (.ref a) (.list ds)
  | dic {a : Addr} {o : Obj} {kvs : List (Key × V)} {ds : List (D × D)} : H a = some (.frz o (.dK kvs)) → ImKV K H kvs ds → Im K H (.ref a) (.dict ds)
  | scr {a : Addr} {ns : List Int} : ScR K H a ns → Im K H (.ref a) (.dict [(.none, .list (ns.map PyData.int))])
  | prm {t : Addr} {x y : V} {a b : D} : SqT K H t [x, y] → Im K H x a → Im K H y b → Im K H (.ref t) (.dict [(.bool true, a), (.bool false, b)])
inductive ImL (K : PySem.W.Frag) (H : Hp) : List V → List D → Prop
  | nil : ImL K H [] []
  | cons {v : V} {vs : List V} {d : D} {ds : List D} : Im K H v d → ImL K H vs ds → ImL K H (v :: vs) (d :: ds)
inductive ImKV (K : PySem.W.Frag) (H : Hp) : List (Key × V) → List (D × D) → Prop
  | nil : ImKV K H [] []
  | cons {k : Key} {v : V} {r : List (Key × V)} {d : D} {ds : List (D × D)} : Im K H v d → ImKV K H r ds → ImKV K H ((k, v) :: r) ((keyD k, d) :: ds)
end
/-- the tables are in order -/
def TabOk (H : Hp) : Prop := LamX.Tabs Tbl.T H ∧ Tbl.G H
theorem TabOk.same {H H' : Hp} (s : Same H H') (t : TabOk H) : TabOk H' := ⟨LamX.Tabs.ext t.1 s, Tbl.up _ _ (Grow.same s) t.2⟩
theorem TabOk.updX {H : Hp} {p : Addr} {h o : HO} (e : H p = some h) (mu : Mut (some h)) (m1 : ∀ ps, h ≠ .tbl ps) (m2 : ∀ q, h ≠ LamX.CodeO p q) (t : TabOk H) : TabOk (L2.upd H p o) := ⟨fun q hq => by
  obtain ⟨ps, h1, h2, h3⟩ := t.1 q hq
  refine ⟨ps, ?_, h2, fun pos cv hc => ?_⟩
  · rw [upd_ne fun z => ?_]
    · exact h1
    · rw [z, e] at h1
      exact m1 _ (Option.some.inj h1)
  · obtain ⟨c, e1, e2⟩ := h3 pos cv hc
    refine ⟨c, e1, ?_⟩
    rw [upd_ne fun z => ?_]
    · exact e2
    · rw [z, e] at e2
      exact m2 _ (Option.some.inj e2), Tbl.up _ _ (grow_upd e mu m2) t.2⟩
theorem TabOk.upd {H : Hp} {p : Addr} {h o : HO} (e : H p = some h) (mu : Mut (some h)) (m : NoTab h) (t : TabOk H) : TabOk (L2.upd H p o) :=
  t.updX e mu (fun ps z => by
    rw [z] at m
    exact m) (noTab_code m)
theorem Grow.t {K : PySem.W.Frag} {H H' : Hp} (g : Grow H H') {a : Addr} {xs : List V} (h : SqT K H a xs) : SqT K H' a xs := by
  rcases h with (h | ⟨o, h⟩) | h
  · exact .inl (.inl (g.1 _ _ h))
  · exact .inl (.inr ⟨o, g.2.1 _ _ _ h⟩)
  · exact .inr h
theorem Grow.n {H H' : Hp} (g : Grow H H') {a : Addr} {xs : List V} (h : NdT H a xs) : NdT H' a xs := by
  obtain ⟨o, h, z⟩ := h
  exact ⟨o, g.2.1 _ _ _ h, z⟩
theorem Grow.l {K : PySem.W.Frag} {H H' : Hp} (g : Grow H H') {a : Addr} {xs : List V} (h : LkL K H a xs) : LkL K H' a xs := by
  obtain ⟨o, h⟩ := h
  exact ⟨o, g.2.1 _ _ _ h⟩
theorem Grow.s {K : PySem.W.Frag} {H H' : Hp} (g : Grow H H') {a : Addr} {ns : List Int} (h : ScR K H a ns) : ScR K H' a ns := by
  rcases h with ⟨o, h⟩ | h
  · exact .inl ⟨o, g.2.1 _ _ _ h⟩
  · exact .inr h
section
variable {K : PySem.W.Frag} {H H' : Hp}
mutual
theorem Im.grow (g : Grow H H') : ∀ {v : V} (d : D), Im K H v d → Im K H' v d
  | _, .none, .non => .non
  | _, .bool b, .bl _ => .bl b
  | _, .int i, .int _ => .int i
  | _, .str x, .str _ => .str x
  | _, .tuple ds, .tup h r => .tup (g.n h) (ImL.grow g ds r)
  | _, .list ds, .lst h r => .lst (g.l h) (ImL.grow g ds r)
  | _, .dict ds, .dic h r => .dic (g.2.1 _ _ _ h) (ImKV.grow g ds r)
  | _, .dict _, .scr h => .scr (g.s h)
  | _, .dict [(.bool true, a), (.bool false, b)], .prm h h1 h2 => .prm (g.t h) (Im.grow g a h1) (Im.grow g b h2)
theorem ImL.grow (g : Grow H H') : ∀ {vs : List V} (ds : List D), ImL K H vs ds → ImL K H' vs ds
  | _, [], .nil => .nil
  | _, d :: ds, .cons h r => .cons (Im.grow g d h) (ImL.grow g ds r)
theorem ImKV.grow (g : Grow H H') : ∀ {kvs : List (Key × V)} (ds : List (D × D)), ImKV K H kvs ds → ImKV K H' kvs ds
  | _, [], .nil => .nil
  | _, (_, d) :: ds, .cons h r => .cons (Im.grow g d h) (ImKV.grow g ds r)
end
theorem ImL.len : ∀ {vs : List V} {ds : List D}, ImL K H vs ds → vs.length = ds.length
  | _, _, .nil => rfl
  | _, _, .cons _ r => by rw [List.length_cons, List.length_cons, ImL.len r]
theorem ImL.append : ∀ {xs ys : List V} {ds es : List D}, ImL K H xs ds → ImL K H ys es → ImL K H (xs ++ ys) (ds ++ es)
  | _, _, _, _, .nil, s => s
  | _, _, _, _, .cons h r, s => .cons h (ImL.append r s)
theorem ImL.get : ∀ {xs : List V} {ds : List D} {i : Nat} {x : V}, ImL K H xs ds → xs[i]? = some x → ∃ d, ds[i]? = some d ∧ Im K H x d
  | _, _, 0, _, .cons h _, g => by
    cases (Option.some.inj g)
    exact ⟨_, rfl, h⟩
  | _, _, i + 1, _, .cons _ r, g => ImL.get (i := i) r g
theorem ImL.at : ∀ {xs : List V} {ds : List D} {i : Nat} {d : D}, ImL K H xs ds → ds[i]? = some d → ∃ x, xs[i]? = some x ∧ Im K H x d
  | _, _, 0, _, .cons h _, g => by
    cases (Option.some.inj g)
    exact ⟨_, rfl, h⟩
  | _, _, i + 1, _, .cons _ r, g => ImL.at (i := i) r g
theorem ImL.take : ∀ {xs : List V} {ds : List D} (n : Nat), ImL K H xs ds → ImL K H (xs.take n) (ds.take n)
  | _, _, 0, _ => .nil
  | _, _, _ + 1, .nil => .nil
  | _, _, n + 1, .cons h r => .cons h (ImL.take n r)
theorem ImL.drop : ∀ {xs : List V} {ds : List D} (n : Nat), ImL K H xs ds → ImL K H (xs.drop n) (ds.drop n)
  | _, _, 0, r => r
  | _, _, _ + 1, .nil => .nil
  | _, _, n + 1, .cons _ r => ImL.drop n r
theorem ImL.reverse : ∀ {xs : List V} {ds : List D}, ImL K H xs ds → ImL K H xs.reverse ds.reverse
  | _, _, .nil => .nil
  | _, _, .cons h r => by
    rw [List.reverse_cons, List.reverse_cons]
    exact ImL.append (ImL.reverse r) (.cons h .nil)
theorem ImL.of_strs : ∀ (ns : List Str), ImL K H (ns.map V.str) (ns.map PyData.str)
  | [] => .nil
  | n :: ns => .cons (.str n) (ImL.of_strs ns)
theorem Im.same (s : Same H H') {v : V} {d : D} (h : Im K H v d) : Im K H' v d := Im.grow (Grow.same s) d h
theorem ImL.same (s : Same H H') {vs : List V} {ds : List D} (h : ImL K H vs ds) : ImL K H' vs ds := ImL.grow (Grow.same s) ds h
end
/-- what may be read as d just now: data, or a thing of a slot's own -/
inductive Vw (K : PySem.W.Frag) (H : Hp) : V → D → Prop
  | im {v : V} {d : D} : Im K H v d → Vw K H v d
  | lst {p : Addr} {vs : List V} {ds : List D} : H p = some (.lst vs) → ImL K H vs ds → Vw K H (.ref p) (.list ds)
  | dic {p : Addr} {kvs : List (Key × V)} {ds : List (D × D)} : H p = some (.dK kvs) → ImKV K H kvs ds → Vw K H (.ref p) (.dict ds)
inductive VwL (K : PySem.W.Frag) (H : Hp) : List V → List D → Prop
  | nil : VwL K H [] []
  | cons {v : V} {vs : List V} {d : D} {ds : List D} : Vw K H v d → VwL K H vs ds → VwL K H (v :: vs) (d :: ds)
section
variable {K : PySem.W.Frag} {H : Hp} {v : V}
theorem Vw.list {ds : List D} (h : Vw K H v (.list ds)) : ∃ a xs, v = .ref a ∧ SqL K H a xs ∧ ImL K H xs ds := by
  cases h with
  | im h => cases h with
    | lst h r => exact ⟨_, _, rfl, h.sq, r⟩
  | lst h r => exact ⟨_, _, rfl, .inl (.inl h), r⟩
theorem Vw.tuple {ds : List D} (h : Vw K H v (.tuple ds)) : ∃ a xs, v = .ref a ∧ SqT K H a xs ∧ ImL K H xs ds := by
  cases h with
  | im h => cases h with
    | tup h r => exact ⟨_, _, rfl, h.sq, r⟩
theorem Vw.tupleN {ds : List D} (h : Vw K H v (.tuple ds)) : ∃ a xs, v = .ref a ∧ NdT H a xs ∧ ImL K H xs ds := by
  cases h with
  | im h => cases h with
    | tup h r => exact ⟨_, _, rfl, h, r⟩
theorem Vw.str {x : Str} (h : Vw K H v (.str x)) : v = .str x := by
  cases h with
  | im h => cases h; rfl
theorem Vw.int {i : Int} (h : Vw K H v (.int i)) : v = .int i := by
  cases h with
  | im h => cases h; rfl
theorem Vw.bl {b : Bool} (h : Vw K H v (.bool b)) : v = .bl b := by
  cases h with
  | im h => cases h; rfl
theorem Vw.non (h : Vw K H v .none) : v = .non := by
  cases h with
  | im h => cases h; rfl
end
/-- a thing of a slot's own: a list, a dict; a dict whose keys are tuples (that is never locked) -/
inductive Ob
  | lst (ds : List D)
  | dk (kvs : List (D × D))
  | dt (kvs : List (D × D))
@[simp] def Ob.d : Ob → D
  | .lst ds => .list ds
  | .dk kvs => .dict kvs
  | .dt _ => .none
/-- may it be locked -/
@[simp] def Ob.nd : Ob → Bool
  | .dt _ => false
  | _ => true
/-! ### dicts whose keys are tuples -/
/-- the dict at a holds xs: the key, where it stands, what it has -/
def TDp (hs : List Key → Int) (a : Addr) (xs : List (List Key × Addr × Value)) (h : Heap) : Prop :=
  xs.length ≤ sizeLine ∧ (a == sysModules) = false ∧ ∃ o es ep, h.get? a = some o ∧ o.ExactDict ∧ o.data = .dict es ep ∧ es.toList = xs.map (fun x => (⟨hs x.1, .ref x.2.1, x.2.2⟩ : DictEntry)) ∧ (xs.map (·.1)).Nodup
theorem td_code {hs : List Key → Int} {a : Addr} {xs : List (List Key × Addr × Value)} (p : Addr) (q : Str) : HO.ext (TDp hs a xs) ≠ LamX.CodeO p q := fun z => by
  unfold LamX.CodeO at z
  injection z with z
  have z := congrFun z ⟨Array.replicate (p + 1) { cls := .none, data := .fields #[.none, .str q 0] }, {}⟩
  have t : ∀ b : Addr, b < p + 1 → (⟨Array.replicate (p + 1) { cls := .none, data := .fields #[.none, .str q 0] }, {}⟩ : Heap).get? b = some { cls := .none, data := .fields #[.none, .str q 0] } := fun b hb => by
    unfold Heap.get?
    simp [hb]
  have f : TDp hs a xs ⟨Array.replicate (p + 1) { cls := .none, data := .fields #[.none, .str q 0] }, {}⟩ := by
    rw [z]
    exact ⟨_, _, _, t p (Nat.lt_succ_self p), rfl, rfl⟩
  obtain ⟨_, _, o, es, ep, e, _, ed, _⟩ := f
  have lt := Heap.lt_size e
  rw [Array.size_replicate] at lt
  rw [t a lt] at e
  cases e
  cases ed
inductive ImT (K : PySem.W.Frag) (H : Hp) : List (List Key × Addr × Value) → List (D × D) → Prop
  | nil : ImT K H [] []
  | cons {ks : List Key} {b : Addr} {u : Value} {v : V} {d : D} {xs : List (List Key × Addr × Value)} {ds : List (D × D)} : NdT H b (ks.map kV) → RelV v u → Im K H v d → ImT K H xs ds → ImT K H ((ks, b, u) :: xs) ((.tuple (ks.map keyD), d) :: ds)
theorem ImT.grow {K : PySem.W.Frag} {H H' : Hp} (g : Grow H H') : ∀ {xs : List (List Key × Addr × Value)} {ds : List (D × D)}, ImT K H xs ds → ImT K H' xs ds
  | _, _, .nil => .nil
  | _, _, .cons h r i t => .cons (g.n h) r (i.grow g) (ImT.grow g t)
inductive ObRh (hs : List Key → Int) (K : PySem.W.Frag) (H : Hp) : HO → Ob → Prop
  | lst {vs : List V} {ds : List D} : ImL K H vs ds → ObRh hs K H (.lst vs) (.lst ds)
  | dk {kvs : List (Key × V)} {ds : List (D × D)} : ImKV K H kvs ds → ObRh hs K H (.dK kvs) (.dk ds)
  | dt {a : Addr} {xs : List (List Key × Addr × Value)} {ds : List (D × D)} : ImT K H xs ds → ObRh hs K H (.ext (TDp hs a xs)) (.dt ds)
abbrev ObR (K : PySem.W.Frag) (H : Hp) : HO → Ob → Prop := ObRh Tbl.hs K H
theorem ObRh.grow {hs : List Key → Int} {K : PySem.W.Frag} {H H' : Hp} (g : Grow H H') {h : HO} {o : Ob} (x : ObRh hs K H h o) : ObRh hs K H' h o := by
  cases x with
  | lst r => exact .lst (r.grow g)
  | dk r => exact .dk (r.grow g)
  | dt r => exact .dt (r.grow g)
theorem ObR.grow {K : PySem.W.Frag} {H H' : Hp} (g : Grow H H') {h : HO} {o : Ob} (x : ObR K H h o) : ObR K H' h o := ObRh.grow g x
theorem ObR.noTab {K : PySem.W.Frag} {H : Hp} {h : HO} {o : Ob} (x : ObR K H h o) : NoTab h := by
  cases x with
  | lst _ => trivial
  | dk _ => trivial
  | dt _ => exact td_code
theorem ObR.no_tbl {K : PySem.W.Frag} {H : Hp} {h : HO} {o : Ob} (x : ObR K H h o) {ps : Array Value} (e : h = .tbl ps) : False := by
  subst e
  cases x
theorem ObR.mut {K : PySem.W.Frag} {H : Hp} {h : HO} {o : Ob} (x : ObR K H h o) : Mut (some h) := by
  cases x <;> trivial
inductive Sl
  | no
  | dat (d : D)
  | own (o : Ob)
  /-- a caught exception: its class, its field, what the field holds -/
  | exc (c f : Str) (d : D)
/-- a caught exception stands at a -/
def ExcA (K : PySem.W.Frag) (H : Hp) (a : Addr) (c f : Str) (d : D) : Prop :=
  ∃ (dd C : Addr) (oe : Obj) (u : HO) (v : V), H a = some (.frz oe u) ∧ oe.cls = .ref C ∧ oe.dict = some dd ∧ (∃ vs, oe.data = .fields vs) ∧ H dd = some (.xd [(f, v)]) ∧ PySem.W.nsIn K mainGlobals c = some (some (.ref C)) ∧ Im K H v d
theorem ExcA.grow {K : PySem.W.Frag} {H H' : Hp} (g : Grow H H') {a : Addr} {c f : Str} {d : D} (x : ExcA K H a c f d) : ExcA K H' a c f d := by
  obtain ⟨dd, C, oe, u, v, h1, h2, h3, h4, h5, h6, h7⟩ := x
  exact ⟨dd, C, oe, u, v, g.2.1 _ _ _ h1, h2, h3, h4, g.2.2.1 _ _ h5, h6, h7.grow g⟩
/-- a lambda that was handed in stands at a: -/
def ThkA (a : Addr) (c : Str) (d : D) : Prop := c = "" ∧ d = .dict [(.tuple [], .int ((a : Nat) : Int))]
def ExcAt (K : PySem.W.Frag) (H : Hp) (a : Addr) (c f : Str) (d : D) : Prop := ExcA K H a c f d ∨ ThkA a c d
theorem ExcAt.grow {K : PySem.W.Frag} {H H' : Hp} (g : Grow H H') {a : Addr} {c f : Str} {d : D} (x : ExcAt K H a c f d) : ExcAt K H' a c f d := by
  rcases x with x | x
  · exact .inl (x.grow g)
  · exact .inr x
theorem ExcAt.err {K : PySem.W.Frag} {H : Hp} {a : Addr} {c f : Str} {d : D} (x : ExcAt K H a c f d) (h : c ≠ "") : ExcA K H a c f d := x.elim id fun y => absurd y.1 h
abbrev Ev := List Sl
abbrev St := L2.St
def Own (σ : St) (ρ : Ev) (p : Addr) : Prop := ∃ (i : Nat) (o : Ob), ρ[i]? = some (.own o) ∧ σ[i]? = some (some (.ref p))
structure Good (K : PySem.W.Frag) (H : Hp) (σ : St) (ρ : Ev) : Prop where
  len : σ.length = ρ.length
  dat : ∀ (i : Nat) (d : D), ρ[i]? = some (.dat d) → ∃ v, σ[i]? = some (some v) ∧ Im K H v d
  own : ∀ (i : Nat) (o : Ob), ρ[i]? = some (.own o) → ∃ p h, σ[i]? = some (some (.ref p)) ∧ H p = some h ∧ ObR K H h o
  dif : ∀ (i j : Nat) (o o' : Ob) (p : Addr), ρ[i]? = some (.own o) → ρ[j]? = some (.own o') → σ[i]? = some (some (.ref p)) → σ[j]? = some (some (.ref p)) → i = j
  tab : TabOk H
  exc : ∀ (i : Nat) (c f : Str) (d : D), ρ[i]? = some (.exc c f d) → ∃ a, σ[i]? = some (some (.ref a)) ∧ ExcAt K H a c f d
theorem Good.at {K : PySem.W.Frag} {H : Hp} {σ : St} {ρ : Ev} (G : Good K H σ ρ) {p : Addr} (h : Own σ ρ p) : ∃ h o, H p = some h ∧ ObR K H h o := by
  obtain ⟨i, o, e1, e2⟩ := h
  obtain ⟨q, h, e3, e4, e5⟩ := G.own i o e1
  rw [e2] at e3
  cases e3
  exact ⟨h, o, e4, e5⟩
/-- from one state to another: what was there and is no slot's own is as it was -/
structure Stp (K : PySem.W.Frag) (n : Nat) (H : Hp) (σ : St) (ρ : Ev) (H' : Hp) (σ' : St) (ρ' : Ev) : Prop where
  good : Good K H' σ' ρ'
  par : ∀ i, i < n → σ'[i]? = σ[i]? ∧ ∀ o, ρ[i]? = some (Sl.own o) → ∃ o', ρ'[i]? = some (Sl.own o')
  kept : ∀ b o, H b = some o → ¬ Own σ ρ b → (∀ ps, o ≠ .tbl ps) → H' b = some o
  news : ∀ p, Own σ' ρ' p → Own σ ρ p ∨ H p = none
  live : ∀ b, H' b = none → H b = none
section
variable {K : PySem.W.Frag} {n : Nat} {H H1 H2 H' : Hp} {σ σ1 σ2 σ' : St} {ρ ρ1 ρ2 ρ' : Ev}
theorem Stp.refl (G : Good K H σ ρ) : Stp K n H σ ρ H σ ρ := ⟨G, fun _ _ => ⟨rfl, fun o h => ⟨o, h⟩⟩, fun _ _ h _ _ => h, fun _ h => .inl h, fun _ h => h⟩
theorem Stp.trans (a : Stp K n H σ ρ H1 σ1 ρ1) (b : Stp K n H1 σ1 ρ1 H2 σ2 ρ2) : Stp K n H σ ρ H2 σ2 ρ2 := by
  refine ⟨b.good, fun i hi => ⟨(b.par i hi).1.trans (a.par i hi).1, fun o h => ?_⟩, fun c o h nc nt => b.kept c o (a.kept c o h nc nt) (fun z => ?_) nt, fun p h => ?_, fun c h => a.live c (b.live c h)⟩
  · obtain ⟨o1, e1⟩ := (a.par i hi).2 o h
    exact (b.par i hi).2 o1 e1
  · rcases a.news c z with z | z
    · exact nc z
    · rw [h] at z
      cases z
  · rcases b.news p h with z | z
    · exact a.news p z
    · exact .inr (a.live p z)
theorem Stp.grow (G : Good K H σ ρ) (s : Stp K n H σ ρ H' σ' ρ') : Grow H H' := by
  refine ⟨fun b xs h => s.kept b _ h (fun z => ?_) (fun ps z => nomatch z), fun b o u h => s.kept b _ h (fun z => ?_) (fun ps z => nomatch z), fun b fs h => s.kept b _ h (fun z => ?_) (fun ps z => nomatch z), fun b q h => s.kept b _ h (fun z => ?_) (fun ps z => LamX.codeO_ne ps z)⟩
  · obtain ⟨h', o, e, r⟩ := G.at z
    rw [h] at e
    cases e
    cases r
  · obtain ⟨h', o', e, r⟩ := G.at z
    rw [h] at e
    cases e
    cases r
  · obtain ⟨h', o', e, r⟩ := G.at z
    rw [h] at e
    cases e
    cases r
  · obtain ⟨h', o', e, r⟩ := G.at z
    rw [h] at e
    exact noTab_code r.noTab q (Option.some.inj e).symm
theorem Good.grow (G : Good K H σ ρ) (g : Grow H H') (k : ∀ p o, Own σ ρ p → H p = some o → H' p = some o) (t : TabOk H → TabOk H') : Good K H' σ ρ := by
  refine ⟨G.len, fun i d e => ?_, fun i o e => ?_, G.dif, t G.tab, fun i c f d e => (G.exc i c f d e).elim fun a h => ⟨a, h.1, h.2.grow g⟩⟩
  · obtain ⟨v, e1, h⟩ := G.dat i d e
    exact ⟨v, e1, h.grow g⟩
  · obtain ⟨p, h, e1, e2, r⟩ := G.own i o e
    exact ⟨p, h, e1, k p h ⟨i, o, e, e1⟩ e2, r.grow g⟩
theorem Stp.same (G : Good K H σ ρ) (s : Same H H') : Stp K n H σ ρ H' σ ρ :=
  ⟨G.grow (Grow.same s) (fun p o _ e => s p o e) (TabOk.same s), fun _ _ => ⟨rfl, fun o h => ⟨o, h⟩⟩, fun b o h _ _ => s b o h, fun _ h => .inl h, fun b h => s.free h⟩
end
/-- what a piece gives: nothing that is known, a value, an error -/
inductive Rt (α : Type)
  | no
  | ok (a : α) (ρ : Ev)
  | ex (c : Str) (d : D) (ρ : Ev)
@[simp] def Rt.bind {α β : Type} : Rt α → (α → Ev → Rt β) → Rt β
  | .no, _ => .no
  | .ok a ρ, k => k a ρ
  | .ex c d ρ, _ => .ex c d ρ
abbrev Mo (α : Type) := Ev → Rt α
/-- a value: data, or what a slot has of its own -/
inductive R
  | d (x : D)
  | v (i : Nat)
@[simp] def Sl.ob : Sl → Option D
  | .own (.lst ds) => some (.list ds)
  | .own (.dk kvs) => some (.dict kvs)
  | _ => none
@[simp] def look (ρ : Ev) : R → Option D
  | .d x => some x
  | .v i => ρ[i]?.bind Sl.ob
inductive RR (K : PySem.W.Frag) (H : Hp) (σ : St) : V → R → Prop
  | d {v : V} {x : D} : Im K H v x → RR K H σ v (.d x)
  | v {v : V} {i : Nat} : σ[i]? = some (some v) → RR K H σ v (.v i)
inductive RRs (K : PySem.W.Frag) (H : Hp) (σ : St) : List V → List R → Prop
  | nil : RRs K H σ [] []
  | cons {v : V} {vs : List V} {r : R} {rs : List R} : RR K H σ v r → RRs K H σ vs rs → RRs K H σ (v :: vs) (r :: rs)
abbrev XW := Str → D → St → Hp → Prop
def Aft {α : Type} (K : PySem.W.Frag) (n : Nat) (W : XW) (H : Hp) (σ : St) (ρ : Ev) (r : Rt α) (Q : α → Ev → Hp → Prop) : Prop := match r with
  | .no => False
  | .ok a ρ' => ∀ H', Stp K n H σ ρ H' σ ρ' → Q a ρ' H'
  | .ex c d ρ' => ∀ H', Stp K n H σ ρ H' σ ρ' → W c d σ H'
section
variable {α β : Type} {K : PySem.W.Frag} {n : Nat} {W : XW} {H H' : Hp} {σ : St} {ρ : Ev}
theorem RR.grow (g : Grow H H') {v : V} {r : R} (x : RR K H σ v r) : RR K H' σ v r := by
  cases x with
  | d h => exact .d (h.grow g)
  | v h => exact .v h
theorem RRs.grow (g : Grow H H') : ∀ {vs : List V} {rs : List R}, RRs K H σ vs rs → RRs K H' σ vs rs
  | _, _, .nil => .nil
  | _, _, .cons h r => .cons (h.grow g) (RRs.grow g r)
theorem RRs.len : ∀ {vs : List V} {rs : List R}, RRs K H σ vs rs → vs.length = rs.length
  | _, _, .nil => rfl
  | _, _, .cons _ r => by rw [List.length_cons, List.length_cons, RRs.len r]
theorem RR.see (G : Good K H σ ρ) {v : V} {r : R} {d : D} (x : RR K H σ v r) (h : look ρ r = some d) : Vw K H v d := by
  cases x with
  | d y =>
    cases h
    exact .im y
  | @v i y =>
    have h : ρ[i]?.bind Sl.ob = some d := h
    cases e : ρ[i]? with
    | none =>
      rw [e] at h
      cases h
    | some s =>
      rw [e] at h
      cases s with
      | own o =>
        obtain ⟨p, ho, e1, e2, r⟩ := G.own i o e
        rw [y] at e1
        cases e1
        cases r with
        | lst r =>
          cases h
          exact .lst e2 r
        | dk r =>
          cases h
          exact .dic e2 r
        | dt r => cases h
      | no => cases h
      | exc _ _ _ => cases h
      | dat _ => cases h
theorem Aft.mono {r : Rt α} {Q Q' : α → Ev → Hp → Prop} (h : Aft K n W H σ ρ r Q) (q : ∀ a ρ' H', Stp K n H σ ρ H' σ ρ' → Q a ρ' H' → Q' a ρ' H') : Aft K n W H σ ρ r Q' := by
  cases r with
  | no => exact h
  | ok a ρ' => exact fun H' s => q a ρ' H' s (h H' s)
  | ex c d ρ' => exact h
theorem Aft.bind {m : Rt α} {k : α → Ev → Rt β} {Q : β → Ev → Hp → Prop} (h : Aft K n W H σ ρ (m.bind k) Q) : Aft K n W H σ ρ m fun a ρ1 H1 => Aft K n W H1 σ ρ1 (k a ρ1) Q := by
  cases m with
  | no => exact h
  | ok a ρ1 =>
    intro H1 s1
    have h : Aft K n W H σ ρ (k a ρ1) Q := h
    show Aft K n W H1 σ ρ1 (k a ρ1) Q
    generalize k a ρ1 = r at h
    cases r with
    | no => exact h
    | ok b ρ2 => exact fun H2 s2 => h H2 (s1.trans s2)
    | ex c d ρ2 => exact fun H2 s2 => h H2 (s1.trans s2)
  | ex c d ρ1 => exact h
theorem Aft.ok {a : α} {Q : α → Ev → Hp → Prop} (G : Good K H σ ρ) (h : Aft K n W H σ ρ (.ok a ρ) Q) : Q a ρ H := h H (Stp.refl G)
end
/-- the readings -/
def tX (K : PySem.W.Frag) (n : Nat) (W : XW) (m : Mo R) : TE := fun σ H Q => ∃ ρ, Good K H σ ρ ∧ Aft K n W H σ ρ (m ρ) fun r _ H' => ∀ v, RR K H' σ v r → Q v H'
def tXs (K : PySem.W.Frag) (n : Nat) (W : XW) (m : Mo (List R)) : TA := fun σ H Q => ∃ ρ, Good K H σ ρ ∧ Aft K n W H σ ρ (m ρ) fun rs _ H' => ∀ vs, RRs K H' σ vs rs → Q vs H'
def tXb (K : PySem.W.Frag) (n : Nat) (W : XW) (m : Mo Bool) : TT := fun σ H Q => ∃ ρ, Good K H σ ρ ∧ Aft K n W H σ ρ (m ρ) fun b _ H' => Q b H'
abbrev XD (X : Cx) (n : Nat) (W : XW) (e : Expr) (m : Mo R) : Prop := PE X e (tX X.K n W m)
abbrev XA (X : Cx) (n : Nat) (W : XW) (es : List Expr) (m : Mo (List R)) : Prop := PA X es (tXs X.K n W m)
abbrev XB (X : Cx) (n : Nat) (W : XW) (e : Expr) (m : Mo Bool) : Prop := PT X e (tXb X.K n W m)
section
variable {X : Cx} {n : Nat} {W : XW}
theorem weakE {e : Expr} {t t' : TE} (h : PE X e t) (q : ∀ σ H Q, t' σ H Q → t σ H Q) : PE X e t' := ⟨fun pins s σ H Q I z => h.run pins s σ H Q I (q σ H Q z)⟩
theorem weakA {e : List Expr} {t t' : TA} (h : PA X e t) (q : ∀ σ H Q, t' σ H Q → t σ H Q) : PA X e t' := ⟨fun pos pins s σ H Q I z => h.run pos pins s σ H Q I (q σ H Q z)⟩
theorem weakT {e : Expr} {t t' : TT} (h : PT X e t) (q : ∀ σ H Q, t' σ H Q → t σ H Q) : PT X e t' := ⟨fun pins s σ H Q I z => h.run pins s σ H Q I (q σ H Q z)⟩
theorem weakW {e : Expr} {t t' : TT} (h : PW X e t) (q : ∀ σ H Q, t' σ H Q → t σ H Q) : PW X e t' := ⟨fun wh pins s σ H Q I z => h.run wh pins s σ H Q I (q σ H Q z)⟩
/-- what an operation on data gives -/
@[simp] def lift (o : Option D) : Mo R := fun ρ => match o with
  | some d => .ok (.d d) ρ
  | none => .no
theorem Aft.out {K : PySem.W.Frag} {H : Hp} {σ : St} {ρ : Ev} {o : Option D} {Q : VK} (G : Good K H σ ρ) (h : Aft K n W H σ ρ (lift o ρ) fun r _ H' => ∀ v, RR K H' σ v r → Q v H') :
    ∃ d, o = some d ∧ ∀ v H', Same H H' → Im K H' v d → Q v H' := by
  cases o with
  | none => exact h.elim
  | some d => exact ⟨d, rfl, fun v H' s i => h H' (Stp.same G s) v (.d i)⟩
/-! ### names, constants -/
@[simp] def eVar (i : Nat) : Mo R := fun ρ => match ρ[i]? with
  | some (.dat d) => .ok (.d d) ρ
  | some (.own _) => .ok (.v i) ρ
  | _ => .no
theorem xd_var {i : Nat} {x : Str} {pos : Pos} (h : PE X (.Name x pos) (tVar i)) : XD X n W (.Name x pos) (eVar i) := weakE h fun σ H Q ⟨ρ, G, h⟩ => by
  unfold eVar at h
  split at h
  · next d e =>
    obtain ⟨v, e1, im⟩ := G.dat i d e
    exact ⟨v, e1, Aft.ok G h v (.d im)⟩
  · next o e =>
    obtain ⟨p, ho, e1, _⟩ := G.own i o e
    exact ⟨_, e1, Aft.ok G h _ (.v e1)⟩
  · exact h.elim
@[simp] def eC (d : D) : Mo R := fun ρ => .ok (.d d) ρ
theorem xd_c {e : Expr} {v : V} {d : D} (h : PE X e (tC v)) (i : ∀ H, Im X.K H v d) : XD X n W e (eC d) := weakE h fun σ H Q ⟨ρ, G, h⟩ => Aft.ok G h v (.d (i H))
theorem xd_int {i : Int} {j pos} : XD X n W (.Constant (.int i) j pos) (eC (.int i)) := xd_c pe_int fun _ => .int i
theorem xd_bl {b : Bool} {j pos} : XD X n W (.Constant (.bool b) j pos) (eC (.bool b)) := xd_c pe_bl fun _ => .bl b
theorem xd_non {j pos} : XD X n W (.Constant .none j pos) (eC .none) := xd_c pe_non fun _ => .non
theorem xd_str {x : Str} {j pos} : XD X n W (.Constant (.str x) j pos) (eC (.str x)) := xd_c pe_str fun _ => .str x
/-! ### arguments -/
@[simp] def eNil : Mo (List R) := fun ρ => .ok [] ρ
@[simp] def eCons (m : Mo R) (r : Mo (List R)) : Mo (List R) := fun ρ => (m ρ).bind fun x ρ1 => (r ρ1).bind fun xs ρ2 => .ok (x :: xs) ρ2
theorem xa_nil : XA X n W [] eNil := weakA pa_nil fun σ H Q ⟨ρ, G, h⟩ => Aft.ok G h [] .nil
theorem xa_cons {e : Expr} {es : List Expr} {m : Mo R} {r : Mo (List R)} (he : XD X n W e m) (hr : XA X n W es r) (hs : starEach (e :: es) X.env = (false, eval e X.env) :: starEach es X.env := by rfl) : XA X n W (e :: es) (eCons m r) :=
  weakA (pa_cons he hr hs) fun σ H Q ⟨ρ, G, h⟩ => ⟨ρ, G, (Aft.bind h).mono fun x ρ1 H1 s1 h1 v rv => ⟨ρ1, s1.good, (Aft.bind h1).mono fun xs ρ2 H2 s2 h2 vs rvs => Aft.ok s2.good h2 (v :: vs) (.cons (rv.grow (s2.grow s1.good)) rvs)⟩⟩
@[simp] def looks (ρ : Ev) : List R → Option (List D)
  | [] => some []
  | r :: rs => match look ρ r, looks ρ rs with
    | some d, some ds => some (d :: ds)
    | _, _ => none
theorem RRs.see {K : PySem.W.Frag} {H : Hp} {σ : St} {ρ : Ev} (G : Good K H σ ρ) : ∀ {vs : List V} {rs : List R} {ds : List D}, RRs K H σ vs rs → looks ρ rs = some ds → VwL K H vs ds
  | _, _, _, .nil, h => by
    cases h
    exact .nil
  | _, _, _, .cons x xs, h => by
    unfold looks at h
    split at h
    · next e1 e2 =>
      cases h
      exact .cons (x.see G e1) (RRs.see G xs e2)
    · cases h
/-! ### operations on values -/
def Op2 (K : PySem.W.Frag) (r : R2) (F : D → D → Option D) : Prop := ∀ x y a b d H Q, Vw K H x a → Vw K H y b → F a b = some d → (∀ v H', Same H H' → Im K H' v d → Q v H') → r x y H Q
def Op1 (K : PySem.W.Frag) (r : V → Hp → VK → Prop) (F : D → Option D) : Prop := ∀ x a d H Q, Vw K H x a → F a = some d → (∀ v H', Same H H' → Im K H' v d → Q v H') → r x H Q
def OpN (K : PySem.W.Frag) (r : List V → Hp → VK → Prop) (F : List D → Option D) : Prop := ∀ xs as d H Q, VwL K H xs as → F as = some d → (∀ v H', Same H H' → Im K H' v d → Q v H') → r xs H Q
@[simp] def F2 (F : D → D → Option D) (ρ : Ev) (a b : R) : Option D := match look ρ a, look ρ b with
  | some x, some y => F x y
  | _, _ => none
@[simp] def e2 (F : D → D → Option D) (f g : Mo R) : Mo R := fun ρ => (f ρ).bind fun a ρ1 => (g ρ1).bind fun b ρ2 => lift (F2 F ρ2 a b) ρ2
@[simp] def e1 (F : D → Option D) (f : Mo R) : Mo R := fun ρ => (f ρ).bind fun a ρ1 => lift ((look ρ1 a).bind F) ρ1
@[simp] def eN (F : List D → Option D) (f : Mo (List R)) : Mo R := fun ρ => (f ρ).bind fun a ρ1 => lift ((looks ρ1 a).bind F) ρ1
theorem op2_run {r : R2} {F : D → D → Option D} {f g : Mo R} (hF : Op2 X.K r F) (σ : St) (H : Hp) (Q : VK) (h : tX X.K n W (e2 F f g) σ H Q) : tX X.K n W f σ H fun x H1 => tX X.K n W g σ H1 fun y H2 => r x y H2 Q := by
  obtain ⟨ρ, G, h⟩ := h
  refine ⟨ρ, G, (Aft.bind h).mono fun a ρ1 H1 s1 h1 v rv => ⟨ρ1, s1.good, (Aft.bind h1).mono fun b ρ2 H2 s2 h2 u ru => ?_⟩⟩
  obtain ⟨d, e, q⟩ := Aft.out s2.good h2
  unfold F2 at e
  split at e
  · next x y ex ey => exact hF v u x y d H2 Q ((rv.grow (s2.grow s1.good)).see s2.good ex) (ru.see s2.good ey) e q
  · cases e
theorem op1_run {r : V → Hp → VK → Prop} {F : D → Option D} {f : Mo R} (hF : Op1 X.K r F) (σ : St) (H : Hp) (Q : VK) (h : tX X.K n W (e1 F f) σ H Q) : tX X.K n W f σ H fun x H1 => r x H1 Q := by
  obtain ⟨ρ, G, h⟩ := h
  refine ⟨ρ, G, (Aft.bind h).mono fun a ρ1 H1 s1 h1 v rv => ?_⟩
  obtain ⟨d, e, q⟩ := Aft.out s1.good h1
  cases ea : look ρ1 a with
  | none =>
    rw [ea] at e
    cases e
  | some x =>
    rw [ea] at e
    exact hF v x d H1 Q (rv.see s1.good ea) e q
theorem opN_run {r : List V → Hp → VK → Prop} {F : List D → Option D} {f : Mo (List R)} (hF : OpN X.K r F) (σ : St) (H : Hp) (Q : VK) (h : tX X.K n W (eN F f) σ H Q) : tXs X.K n W f σ H fun xs H1 => r xs H1 Q := by
  obtain ⟨ρ, G, h⟩ := h
  refine ⟨ρ, G, (Aft.bind h).mono fun a ρ1 H1 s1 h1 vs rvs => ?_⟩
  obtain ⟨d, e, q⟩ := Aft.out s1.good h1
  cases ea : looks ρ1 a with
  | none =>
    rw [ea] at e
    cases e
  | some x =>
    rw [ea] at e
    exact hF vs x d H1 Q (rvs.see s1.good ea) e q
theorem xd_op {a b : Expr} {op : Operator} {pos : Pos} {r : R2} {F : D → D → Option D} {f g : Mo R} (ho : OpR X (binaryOp op) r) (hF : Op2 X.K r F) (ha : XD X n W a f) (hb : XD X n W b g) : XD X n W (.BinOp a op b pos) (e2 F f g) := weakE (pe_op ho ha hb) (op2_run hF)
theorem xd_cmp {a b : Expr} {op : CmpOp} {pos : Pos} {r : R2} {F : D → D → Option D} {f g : Mo R} (ho : OpR X (compareOp op) r) (hF : Op2 X.K r F) (ha : XD X n W a f) (hb : XD X n W b g) (hm : behindInMarks op b = false) : XD X n W (.Compare a [op] [b] pos) (e2 F f g) := weakE (pe_cmpR ho ha hb hm) (op2_run hF)
theorem xd_un {a : Expr} {op : UnaryOp} {pos : Pos} {r : V → Hp → VK → Prop} {F : D → Option D} {f : Mo R} (ho : UnR X (unaryOp op) r) (hF : Op1 X.K r F) (ha : XD X n W a f) : XD X n W (.UnaryOp op a pos) (e1 F f) := weakE (pe_un ho ha) (op1_run hF)
/-! ### truth -/
@[simp] def asB (m : Mo R) : Mo Bool := fun ρ => (m ρ).bind fun r ρ1 => match look ρ1 r with
  | some (.bool b) => .ok b ρ1
  | _ => .no
theorem asB_run {f : Mo R} {σ : St} {H : Hp} {Q : Bool → Hp → Prop} (h : tXb X.K n W (asB f) σ H Q) : tX X.K n W f σ H fun x H1 => ∃ c, x = .bl c ∧ Q c H1 := by
  obtain ⟨ρ, G, h⟩ := h
  refine ⟨ρ, G, (Aft.bind h).mono fun a ρ1 H1 s1 h1 v rv => ?_⟩
  split at h1
  · next b e =>
    have := rv.see s1.good e
    exact ⟨b, this.bl, Aft.ok s1.good h1⟩
  · exact h1.elim
theorem xb_cmp {a b : Expr} {op : CmpOp} {pos : Pos} {r : R2} {F : D → D → Option D} {f g : Mo R} (ho : OpR X (compareOp op) r) (hF : Op2 X.K r F) (ha : XD X n W a f) (hb : XD X n W b g) (hm : behindInMarks op b = false) : XB X n W (.Compare a [op] [b] pos) (asB (e2 F f g)) :=
  weakT (pt_cmpR ho ha hb hm) fun σ H Q h => op2_run hF σ H _ (asB_run h)
theorem xb_val {e : Expr} {f : Mo R} (h : XD X n W e f) (he : ∀ whole, isTrue e X.env whole = (do let v ← whole; standAt e.pos; holding [v] (truthy v)) := by intro _; rfl) : XB X n W e (asB f) := weakT (pt_val h he) fun σ H Q h => asB_run h
@[simp] def bNot (f : Mo Bool) : Mo Bool := fun ρ => (f ρ).bind fun b ρ1 => .ok (!b) ρ1
@[simp] def bAnd (f g : Mo Bool) : Mo Bool := fun ρ => (f ρ).bind fun b ρ1 => if b = true then g ρ1 else .ok false ρ1
@[simp] def bOr (f g : Mo Bool) : Mo Bool := fun ρ => (f ρ).bind fun b ρ1 => if b = true then .ok true ρ1 else g ρ1
theorem xb_not {a : Expr} {pos : Pos} {f : Mo Bool} (h : XB X n W a f) : XB X n W (.UnaryOp .Not a pos) (bNot f) := weakT (pt_not h) fun σ H Q ⟨ρ, G, h⟩ => ⟨ρ, G, (Aft.bind h).mono fun b ρ1 H1 s1 h1 => Aft.ok s1.good h1⟩
abbrev XWb (X : Cx) (n : Nat) (W : XW) (e : Expr) (m : Mo Bool) : Prop := PW X e (tXb X.K n W m)
theorem and_run {f g : Mo Bool} {σ : St} {H : Hp} {Q : Bool → Hp → Prop} (h : tXb X.K n W (bAnd f g) σ H Q) : tAnd (tXb X.K n W f) (tXb X.K n W g) σ H Q := by
  obtain ⟨ρ, G, h⟩ := h
  refine ⟨ρ, G, (Aft.bind h).mono fun b ρ1 H1 s1 h1 => ?_⟩
  cases b with
  | true => exact iteT ⟨ρ1, s1.good, h1⟩
  | false => exact iteF (Aft.ok s1.good h1)
theorem or_run {f g : Mo Bool} {σ : St} {H : Hp} {Q : Bool → Hp → Prop} (h : tXb X.K n W (bOr f g) σ H Q) : tOr (tXb X.K n W f) (tXb X.K n W g) σ H Q := by
  obtain ⟨ρ, G, h⟩ := h
  refine ⟨ρ, G, (Aft.bind h).mono fun b ρ1 H1 s1 h1 => ?_⟩
  cases b with
  | true => exact iteT (Aft.ok s1.good h1)
  | false => exact iteF ⟨ρ1, s1.good, h1⟩
theorem xw_and1 {a : Expr} {pos : Pos} {f : Mo Bool} (h : XB X n W a f) : XWb X n W (.BoolOp .And [a] pos) f := pw_and1 h
theorem xw_or1 {a : Expr} {pos : Pos} {f : Mo Bool} (h : XB X n W a f) : XWb X n W (.BoolOp .Or [a] pos) f := pw_or1 h
theorem xw_and {a b : Expr} {rest : List Expr} {pos : Pos} {f g : Mo Bool} (ha : XB X n W a f) (hb : XWb X n W (.BoolOp .And (b :: rest) pos) g) : XWb X n W (.BoolOp .And (a :: b :: rest) pos) (bAnd f g) := weakW (pw_and ha hb) fun _ _ _ h => and_run h
theorem xw_or {a b : Expr} {rest : List Expr} {pos : Pos} {f g : Mo Bool} (ha : XB X n W a f) (hb : XWb X n W (.BoolOp .Or (b :: rest) pos) g) : XWb X n W (.BoolOp .Or (a :: b :: rest) pos) (bOr f g) := weakW (pw_or ha hb) fun _ _ _ h => or_run h
@[simp] def eIf (c : Mo Bool) (f g : Mo R) : Mo R := fun ρ => (c ρ).bind fun b ρ1 => if b = true then f ρ1 else g ρ1
theorem xd_if {c a b : Expr} {pos : Pos} {fc : Mo Bool} {f g : Mo R} (hc : XB X n W c fc) (ha : XD X n W a f) (hb : XD X n W b g) : XD X n W (.IfExp c a b pos) (eIf fc f g) := weakE (pe_ifExp hc ha hb) fun σ H Q ⟨ρ, G, h⟩ => by
  refine ⟨ρ, G, (Aft.bind h).mono fun k ρ1 H1 s1 h1 => ?_⟩
  cases k with
  | true => exact iteT ⟨ρ1, s1.good, h1⟩
  | false => exact iteF ⟨ρ1, s1.good, h1⟩
/-- x and y, x or y, not x as values, of bools -/
@[simp] def eAnd (f g : Mo R) : Mo R := fun ρ => (f ρ).bind fun r ρ1 => match look ρ1 r with
  | some (.bool b) => if b = true then g ρ1 else .ok (.d (.bool false)) ρ1
  | _ => .no
@[simp] def eOr (f g : Mo R) : Mo R := fun ρ => (f ρ).bind fun r ρ1 => match look ρ1 r with
  | some (.bool b) => if b = true then .ok (.d (.bool true)) ρ1 else g ρ1
  | _ => .no
theorem xd_and {a b : Expr} {rest : List Expr} {pos : Pos} {f g : Mo R} (ha : XD X n W a f) (hb : XD X n W (.BoolOp .And (b :: rest) pos) g) : XD X n W (.BoolOp .And (a :: b :: rest) pos) (eAnd f g) := weakE (pe_and ha hb) fun σ H Q ⟨ρ, G, h⟩ => by
  refine ⟨ρ, G, (Aft.bind h).mono fun r ρ1 H1 s1 h1 v rv => ?_⟩
  split at h1
  · next b e =>
    refine ⟨b, (rv.see s1.good e).bl, ?_⟩
    cases b with
    | true => exact iteT ⟨ρ1, s1.good, h1⟩
    | false => exact iteF (Aft.ok s1.good h1 _ (.d (.bl false)))
  · exact h1.elim
theorem xd_one {a : Expr} {op} {pos : Pos} {f : Mo R} (h : XD X n W a f) : XD X n W (.BoolOp op [a] pos) f := pe_one h
@[simp] def notD : D → Option D
  | .bool b => some (.bool (!b))
  | _ => none
end
end Q
namespace Q
open PySem PySem.Spec PyProof.Rows L2
variable [Tbl]
theorem set_at {α : Type} {l : List α} {i : Nat} {a : α} (h : i < l.length) : (l.set i a)[i]? = some a := by
  rw [List.getElem?_set, if_pos rfl, if_pos h]
theorem set_ne {α : Type} {l : List α} {i j : Nat} {a : α} (h : i ≠ j) : (l.set i a)[j]? = l[j]? := by
  rw [List.getElem?_set, if_neg h]
section
variable {K : PySem.W.Frag} {n : Nat} {H H1 H2 H' : Hp} {σ σ1 σ2 σ' : St} {ρ ρ1 ρ2 ρ' : Ev}
theorem Own.set {i : Nat} {v : Option V} {d : D} {p : Addr} (h : Own (σ.set i v) (ρ.set i (.dat d)) p) (hi : i < ρ.length) : Own σ ρ p := by
  obtain ⟨j, o, e1, e2⟩ := h
  by_cases e : i = j
  · subst e
    rw [set_at hi] at e1
    cases e1
  · rw [set_ne e] at e1 e2
    exact ⟨j, o, e1, e2⟩
theorem Good.set_dat (G : Good K H σ ρ) {i : Nat} (hi : i < ρ.length) {v : V} {d : D} (h : Im K H v d) : Good K H (σ.set i (some v)) (ρ.set i (.dat d)) := by
  have his : i < σ.length := by rw [G.len]; exact hi
  refine ⟨by rw [List.length_set, List.length_set, G.len], fun j e hj => ?_, fun j o hj => ?_, fun j k o o' p h1 h2 h3 h4 => ?_, G.tab, fun j c f e hj => ?_⟩
  · by_cases q : i = j
    · subst q
      rw [set_at hi] at hj
      cases hj
      exact ⟨v, set_at his, h⟩
    · rw [set_ne q] at hj ⊢
      exact G.dat j e hj
  · by_cases q : i = j
    · subst q
      rw [set_at hi] at hj
      cases hj
    · rw [set_ne q] at hj ⊢
      exact G.own j o hj
  · have nj : i ≠ j := fun q => by
      subst q
      rw [set_at hi] at h1
      cases h1
    have nk : i ≠ k := fun q => by
      subst q
      rw [set_at hi] at h2
      cases h2
    rw [set_ne nj] at h1 h3
    rw [set_ne nk] at h2 h4
    exact G.dif j k o o' p h1 h2 h3 h4
  · by_cases q : i = j
    · subst q
      rw [set_at hi] at hj
      cases hj
    · rw [set_ne q] at hj ⊢
      exact G.exc j c f e hj
theorem Stp.set_dat (s : Stp K n H σ ρ H' σ' ρ') {i : Nat} (hn : n ≤ i) (hi : i < ρ'.length) {v : V} {d : D} (h : Im K H' v d) : Stp K n H σ ρ H' (σ'.set i (some v)) (ρ'.set i (.dat d)) :=
  ⟨s.good.set_dat hi h, fun j hj => by
    have ne : i ≠ j := by omega
    rw [set_ne ne, set_ne ne]
    exact s.par j hj, s.kept, fun p h => s.news p (h.set hi), s.live⟩
theorem Good.set_own (G : Good K H σ ρ) {i : Nat} (hi : i < ρ.length) {p : Addr} {h : HO} {o : Ob} (e : H p = some h) (r : ObR K H h o) (no : ¬ Own σ ρ p) : Good K H (σ.set i (some (.ref p))) (ρ.set i (.own o)) := by
  have his : i < σ.length := by rw [G.len]; exact hi
  refine ⟨by rw [List.length_set, List.length_set, G.len], fun j d hj => ?_, fun j o' hj => ?_, fun j k o1 o2 q h1 h2 h3 h4 => ?_, G.tab, fun j c f e hj => ?_⟩
  · by_cases q : i = j
    · subst q
      rw [set_at hi] at hj
      cases hj
    · rw [set_ne q] at hj ⊢
      exact G.dat j d hj
  · by_cases q : i = j
    · subst q
      rw [set_at hi] at hj
      cases hj
      exact ⟨p, h, set_at his, e, r⟩
    · rw [set_ne q] at hj ⊢
      exact G.own j o' hj
  · by_cases qj : i = j
    · by_cases qk : i = k
      · exact qj.symm.trans qk
      · subst qj
        rw [set_at his] at h3
        cases h3
        rw [set_ne qk] at h2 h4
        exact absurd ⟨k, o2, h2, h4⟩ no
    · by_cases qk : i = k
      · subst qk
        rw [set_at his] at h4
        cases h4
        rw [set_ne qj] at h1 h3
        exact absurd ⟨j, o1, h1, h3⟩ no
      · rw [set_ne qj] at h1 h3
        rw [set_ne qk] at h2 h4
        exact G.dif j k o1 o2 q h1 h2 h3 h4
  · by_cases q : i = j
    · subst q
      rw [set_at hi] at hj
      cases hj
    · rw [set_ne q] at hj ⊢
      exact G.exc j c f e hj
theorem Stp.set_own (s : Stp K n H σ ρ H' σ' ρ') {i : Nat} (hn : n ≤ i) (hi : i < ρ'.length) {p : Addr} {h : HO} {o : Ob} (e : H' p = some h) (r : ObR K H' h o) (no : ¬ Own σ' ρ' p) (nw : Own σ ρ p ∨ H p = none) :
    Stp K n H σ ρ H' (σ'.set i (some (.ref p))) (ρ'.set i (.own o)) := by
  refine ⟨s.good.set_own hi e r no, fun j hj => ?_, s.kept, fun q h => ?_, s.live⟩
  · have ne : i ≠ j := by omega
    rw [set_ne ne, set_ne ne]
    exact s.par j hj
  · obtain ⟨j, o1, e1, e2⟩ := h
    by_cases z : i = j
    · subst z
      rw [set_at (by rw [s.good.len]; exact hi)] at e2
      cases e2
      exact nw
    · rw [set_ne z] at e1 e2
      exact s.news q ⟨j, o1, e1, e2⟩
theorem live_upd {p : Addr} {h u : HO} (e : H p = some h) : ∀ b, upd H p u b = none → H b = none := fun b hb => by
  by_cases z : b = p
  · rw [z, upd_same] at hb
    cases hb
  · rw [upd_ne z] at hb
    exact hb
/-- what a slot has of its own is changed -/
theorem Stp.write (G : Good K H σ ρ) {i : Nat} {o o' : Ob} {p : Addr} {h h' : HO} (ei : ρ[i]? = some (.own o)) (es : σ[i]? = some (some (.ref p))) (e : H p = some h) (r : ObR K H h o) (r' : ObR K H h' o') : Stp K n H σ ρ (upd H p h') σ (ρ.set i (.own o')) := by
  have hi : i < ρ.length := (List.getElem?_eq_some_iff.mp ei).1
  have g : Grow H (upd H p h') := grow_upd e r.mut (noTab_code r.noTab)
  have ow : ∀ q, Own σ (ρ.set i (.own o')) q → Own σ ρ q := fun q hq => by
    obtain ⟨j, o1, e1, e2⟩ := hq
    by_cases z : i = j
    · subst z
      exact ⟨i, o, ei, e2⟩
    · rw [set_ne z] at e1
      exact ⟨j, o1, e1, e2⟩
  refine ⟨⟨by rw [List.length_set, G.len], fun j d hj => ?_, fun j o1 hj => ?_, fun j k o1 o2 q h1 h2 h3 h4 => ?_, TabOk.upd e r.mut r.noTab G.tab, fun j c f d hj => ?_⟩, fun j hj => ⟨rfl, fun o1 hj => ?_⟩, fun b u eb nb _ => ?_, fun q hq => .inl (ow q hq), live_upd e⟩
  · by_cases z : i = j
    · subst z
      rw [set_at hi] at hj
      cases hj
    · rw [set_ne z] at hj
      obtain ⟨v, e1, im⟩ := G.dat j d hj
      exact ⟨v, e1, im.grow g⟩
  · by_cases z : i = j
    · subst z
      rw [set_at hi] at hj
      cases hj
      exact ⟨p, h', es, upd_same, r'.grow g⟩
    · rw [set_ne z] at hj
      obtain ⟨q, u, e1, e2, r2⟩ := G.own j o1 hj
      have : q ≠ p := fun w => by
        subst w
        exact z (G.dif i j o o1 q ei hj es e1)
      exact ⟨q, u, e1, by rw [upd_ne this]; exact e2, r2.grow g⟩
  · have get : ∀ {j : Nat} {o1 : Ob}, (ρ.set i (.own o'))[j]? = some (.own o1) → ∃ o2, ρ[j]? = some (.own o2) := fun {j o1} hj => by
      by_cases z : i = j
      · subst z
        exact ⟨o, ei⟩
      · rw [set_ne z] at hj
        exact ⟨o1, hj⟩
    obtain ⟨a, ha⟩ := get h1
    obtain ⟨b, hb⟩ := get h2
    exact G.dif j k a b q ha hb h3 h4
  · by_cases z : i = j
    · subst z
      rw [set_at hi] at hj
      cases hj
    · rw [set_ne z] at hj
      exact (G.exc j c f d hj).elim fun a h => ⟨a, h.1, h.2.grow g⟩
  · by_cases z : i = j
    · subst z
      exact ⟨o', set_at hi⟩
    · rw [set_ne z]
      exact ⟨o1, hj⟩
  · rw [upd_ne fun z => nb ?_]
    · exact eb
    · rw [z]
      exact ⟨i, o, ei, es⟩
/-- it is locked: data from now on -/
theorem Stp.lock (G : Good K H σ ρ) {i : Nat} (hn : n ≤ i) {o : Ob} {p : Addr} {h : HO} {ob : Obj} (ei : ρ[i]? = some (.own o)) (es : σ[i]? = some (some (.ref p))) (e : H p = some h) (r : ObR K H h o) (nd : o.nd = true) :
    Stp K n H σ ρ (upd H p (.frz ob h)) σ (ρ.set i (.dat o.d)) ∧ Im K (upd H p (.frz ob h)) (.ref p) o.d := by
  have hi : i < ρ.length := (List.getElem?_eq_some_iff.mp ei).1
  have g : Grow H (upd H p (.frz ob h)) := grow_upd e r.mut (noTab_code r.noTab)
  have im : Im K (upd H p (.frz ob h)) (.ref p) o.d := by
    cases r with
    | lst r => exact .lst ⟨ob, upd_same⟩ (r.grow g)
    | dk r => exact .dic upd_same (r.grow g)
    | dt _ => cases nd
  have ow : ∀ q, Own σ (ρ.set i (.dat o.d)) q → Own σ ρ q ∧ q ≠ p := fun q hq => by
    obtain ⟨j, o1, e1, e2⟩ := hq
    by_cases z : i = j
    · subst z
      rw [set_at hi] at e1
      cases e1
    · rw [set_ne z] at e1
      exact ⟨⟨j, o1, e1, e2⟩, fun w => by
        subst w
        exact z (G.dif i j o o1 q ei e1 es e2)⟩
  refine ⟨⟨⟨by rw [List.length_set, G.len], fun j d hj => ?_, fun j o1 hj => ?_, fun j k o1 o2 q h1 h2 h3 h4 => ?_, TabOk.upd e r.mut r.noTab G.tab, fun j c f d hj => ?_⟩, fun j hj => ?_, fun b u eb nb _ => ?_, fun q hq => .inl (ow q hq).1, live_upd e⟩, im⟩
  · by_cases z : i = j
    · subst z
      rw [set_at hi] at hj
      cases hj
      exact ⟨_, es, im⟩
    · rw [set_ne z] at hj
      obtain ⟨v, e1, im⟩ := G.dat j d hj
      exact ⟨v, e1, im.grow g⟩
  · by_cases z : i = j
    · subst z
      rw [set_at hi] at hj
      cases hj
    · have hj0 := hj
      rw [set_ne z] at hj
      obtain ⟨q, u, e1, e2, r2⟩ := G.own j o1 hj
      exact ⟨q, u, e1, by rw [upd_ne (ow q ⟨j, o1, hj0, e1⟩).2]; exact e2, r2.grow g⟩
  · have nj : i ≠ j := fun q => by
      subst q
      rw [set_at hi] at h1
      cases h1
    have nk : i ≠ k := fun q => by
      subst q
      rw [set_at hi] at h2
      cases h2
    rw [set_ne nj] at h1
    rw [set_ne nk] at h2
    exact G.dif j k o1 o2 q h1 h2 h3 h4
  · by_cases z : i = j
    · subst z
      rw [set_at hi] at hj
      cases hj
    · rw [set_ne z] at hj
      exact (G.exc j c f d hj).elim fun a h => ⟨a, h.1, h.2.grow g⟩
  · have ne : i ≠ j := by omega
    rw [set_ne ne]
    exact ⟨rfl, fun o h => ⟨o, h⟩⟩
  · rw [upd_ne fun z => nb ?_]
    · exact eb
    · rw [z]
      exact ⟨i, o, ei, es⟩
end
/-! ### new things -/
def tF (K : PySem.W.Frag) (n : Nat) (W : XW) (m : Mo Ob) : TE := fun σ H Q => ∃ ρ, Good K H σ ρ ∧ Aft K n W H σ ρ (m ρ) fun o ρ' H' => ∀ p h, H p = none → H' p = some h → ObR K H' h o → ¬ Own σ ρ' p → Q (.ref p) H'
abbrev XF (X : Cx) (n : Nat) (W : XW) (e : Expr) (m : Mo Ob) : Prop := PE X e (tF X.K n W m)
/-- a thing is locked at once -/
def tFrz (te : TE) : TE := fun σ H Q => te σ H fun x H1 => ∃ d u, x = .ref d ∧ H1 d = some u ∧ Mut (some u) ∧ ∀ od, Q x (upd H1 d (.frz od u))
theorem pe_frz {X : Cx} {e : Expr} {te : TE} (he : PE X e te) : PE X e (tFrz te) := by
  refine ⟨fun pins s σ H Q I h => thn (he.run pins s σ H _ I h) ?_⟩
  rintro v s1 ⟨x, H1, I1, r, d, u, rfl, hd, mu, q⟩
  obtain ⟨od, I2⟩ := I1.lock hd mu
  exact ⟨.ref d, _, I2, r, q od⟩
section
variable {X : Cx} {n : Nat} {W : XW}
@[simp] def Ob.lk : Ob → Ev → Rt R
  | .lst ds, ρ => .ok (.d (.list ds)) ρ
  | .dk kvs, ρ => .ok (.d (.dict kvs)) ρ
  | .dt _, _ => .no
theorem lk_aft {K : PySem.W.Frag} {W : XW} {H : Hp} {σ : St} {ρ ρ1 : Ev} {o : Ob} {Q : R → Ev → Hp → Prop} (h : Aft K n W H σ ρ (o.lk ρ1) Q) : o.nd = true ∧ ∀ H', Stp K n H σ ρ H' σ ρ1 → Q (.d o.d) ρ1 H' := by
  cases o with
  | dt _ => exact h.elim
  | _ => exact ⟨rfl, h⟩
@[simp] def eLock (m : Mo Ob) : Mo R := fun ρ => (m ρ).bind fun o ρ1 => o.lk ρ1
theorem lock_new {K : PySem.W.Frag} {H H' : Hp} {σ : St} {ρ ρ' : Ev} {p : Addr} {h : HO} {o : Ob} {ob : Obj} (s : Stp K n H σ ρ H' σ ρ') (np : H p = none) (e : H' p = some h) (r : ObR K H' h o) (no : ¬ Own σ ρ' p) (nd : o.nd = true) :
    Stp K n H σ ρ (upd H' p (.frz ob h)) σ ρ' ∧ Im K (upd H' p (.frz ob h)) (.ref p) o.d := by
  have g : Grow H' (upd H' p (.frz ob h)) := grow_upd e r.mut (noTab_code r.noTab)
  have im : Im K (upd H' p (.frz ob h)) (.ref p) o.d := by
    cases r with
    | lst r => exact .lst ⟨ob, upd_same⟩ (r.grow g)
    | dk r => exact .dic upd_same (r.grow g)
    | dt _ => cases nd
  have gd : Good K (upd H' p (.frz ob h)) σ ρ' := s.good.grow g (fun q u hq eq => by
    rw [upd_ne fun z => no (by rw [← z]; exact hq)]
    exact eq) (TabOk.upd e r.mut r.noTab)
  refine ⟨⟨gd, s.par, fun b u eb nb nt => ?_, s.news, fun b hb => s.live b (live_upd e b hb)⟩, im⟩
  rw [upd_ne (ne_of_none eb np)]
  exact s.kept b u eb nb nt
theorem xd_lock {e : Expr} {m : Mo Ob} (he : XF X n W e m) : XD X n W e (eLock m) := weakE (pe_frz he) fun σ H Q ⟨ρ, G, h⟩ => by
  refine ⟨ρ, G, ?_⟩
  unfold eLock at h
  generalize m ρ = r at h
  cases r with
  | no => exact h
  | ex c d ρ' => exact h
  | ok o ρ' =>
    intro H' s p ho np e r no
    obtain ⟨nd, h⟩ := lk_aft h
    refine ⟨p, ho, rfl, e, r.mut, fun od => ?_⟩
    obtain ⟨s2, im⟩ := lock_new (ob := od) s np e r no nd
    exact h _ s2 _ (.d im)
/-- a name whose thing is locked -/
@[simp] def eVarL (i : Nat) : Mo R := fun ρ => match ρ[i]? with
  | some (.own o) => o.lk (ρ.set i (.dat o.d))
  | _ => .no
/-! ### tuples, lists -/
@[simp] def datas : List R → Option (List D)
  | [] => some []
  | .d x :: rs => (datas rs).map (x :: ·)
  | .v _ :: _ => none
theorem RRs.datas {K : PySem.W.Frag} {H : Hp} {σ : St} : ∀ {vs : List V} {rs : List R} {ds : List D}, RRs K H σ vs rs → datas rs = some ds → ImL K H vs ds
  | _, _, _, .nil, h => by
    cases h
    exact .nil
  | _, .d x :: rs, ds, .cons (.d y) ys, h => by
    have h : (Q.datas rs).map (x :: ·) = some ds := h
    cases e : Q.datas rs with
    | none =>
      rw [e] at h
      cases h
    | some es =>
      rw [e] at h
      cases h
      exact .cons y (RRs.datas ys e)
  | _, .v _ :: _, _, .cons (.v _) _, h => by cases h
theorem same_upd {H : Hp} {p : Addr} {o : HO} (h : H p = none) : Same H (upd H p o) := fun b u e => by
  rw [upd_ne (ne_of_none e h)]
  exact e
/-- a new tuple -/
theorem new_tup {pins : List (Addr × Obj)} {σ : L2.St} {H : Hp} {s : Shared} {xs : List V} {its : List Value} {Q : VK} (I : Inv X pins σ H s) (hz : xs.length ≤ sizeLine) (r : Vals xs its) (q : ∀ p o, H p = none → o.dict = none → Q (.ref p) (upd H p (.frz o (.tup xs)))) :
    ∃ x H', Inv X pins σ H' { s with heap := s.heap.push { cls := .type "tuple", data := .seq its.toArray } } ∧ RelV x (.ref s.heap.objs.size) ∧ Q x H' :=
  have hn : H s.heap.objs.size = none := I.hok.fresh (Nat.le_refl _)
  have ok : ObjOk X.prog X.w (upd H s.heap.objs.size (.frz { cls := .type "tuple", data := .seq its.toArray } (.tup xs))) (s.heap.push { cls := .type "tuple", data := .seq its.toArray }) s.heap.objs.size (.frz { cls := .type "tuple", data := .seq its.toArray } (.tup xs)) :=
    ⟨Heap.get?_push_size _ rfl, hz, its, r, ⟨_, Heap.get?_push_size _ rfl, rfl, _, rfl⟩⟩
  ⟨.ref s.heap.objs.size, _, I.laid (t' := s.toks) (fun b u e => Heap.get?_push_of_some _ e) (Nat.le_refl _) ok, rfl, q _ _ hn rfl⟩
def tTupN (t : TA) : TE := fun σ H Q => t σ H fun xs H1 => xs.length ≤ sizeLine ∧ ∀ p o, H1 p = none → o.dict = none → Q (.ref p) (upd H1 p (.frz o (.tup xs)))
theorem pe_tupN {es : List Expr} {x1} {pos : Pos} {t : TA} (h : PA X es t) : PE X (.Tuple es x1 pos) (tTupN t) := by
  refine ⟨fun pins s σ H Q I hq => ?_⟩
  refine wpAny_Tuple_spliced (thn (h.run pos pins s σ H _ I hq) fun us s1 ⟨xs, H1, I1, r, z, q⟩ => ⟨?_, new_tup I1 z r q⟩)
  rw [← r.length]
  exact z
def short (ds : List D) : Option (List D) := if ds.length ≤ sizeLine then some ds else none
@[simp] def eTup (m : Mo (List R)) : Mo R := fun ρ => (m ρ).bind fun rs ρ1 => lift ((datas rs).bind fun ds => (short ds).map .tuple) ρ1
theorem xd_tup {es : List Expr} {x1} {pos : Pos} {m : Mo (List R)} (h : XA X n W es m) : XD X n W (.Tuple es x1 pos) (eTup m) := weakE (pe_tupN h) fun σ H Q ⟨ρ, G, h⟩ => by
  refine ⟨ρ, G, (Aft.bind h).mono fun rs ρ1 H1 s1 h1 vs rvs => ?_⟩
  obtain ⟨d, e, q⟩ := Aft.out s1.good h1
  cases ed : datas rs with
  | none =>
    rw [ed] at e
    cases e
  | some ds =>
    rw [ed] at e
    have e : (short ds).map PyData.tuple = some d := e
    unfold short at e
    split at e
    · next le =>
      cases e
      have im := rvs.datas ed
      refine ⟨by rw [im.len]; exact le, fun p o hp ho => q _ _ (same_upd hp) (.tup ⟨o, upd_same, ho⟩ (im.same (same_upd hp)))⟩
    · cases e
@[simp] def fLst (m : Mo (List R)) : Mo Ob := fun ρ => (m ρ).bind fun rs ρ1 => match (datas rs).bind short with
  | some ds => .ok (.lst ds) ρ1
  | none => .no
theorem new_own {K : PySem.W.Frag} {H : Hp} {σ : St} {ρ : Ev} {p : Addr} (G : Good K H σ ρ) (h : H p = none) : ¬ Own σ ρ p := fun z => by
  obtain ⟨u, o, e, _⟩ := G.at z
  rw [h] at e
  cases e
theorem xf_lst {es : List Expr} {pos : Pos} {m : Mo (List R)} (h : XA X n W es m) : XF X n W (.List es pos) (fLst m) := weakE (pe_lst h) fun σ H Q ⟨ρ, G, h⟩ => by
  refine ⟨ρ, G, (Aft.bind h).mono fun rs ρ1 H1 s1 h1 vs rvs => ?_⟩
  split at h1
  · next ds e =>
    cases ed : datas rs with
    | none =>
      rw [ed] at e
      cases e
    | some es =>
      rw [ed] at e
      have e : short es = some ds := e
      unfold short at e
      split at e
      · next le =>
        cases e
        have im := rvs.datas ed
        refine ⟨by rw [im.len]; exact le, fun p hp => ?_⟩
        exact h1 _ (Stp.same s1.good (same_upd hp)) p _ (s1.live p hp) upd_same (.lst (im.same (same_upd hp))) (new_own s1.good hp)
      · cases e
  · exact h1.elim
end
end Q
namespace Q
open PySem PySem.Spec PyProof.Rows L2
variable [Tbl]
/-! ### statements -/
inductive Out
  | nx
  | bk
  | ct
  | rt (r : R)
  | rf (o : Ob)
def AftS (K : PySem.W.Frag) (n : Nat) (W : XW) (E : Ends) (H : Hp) (σ : St) (ρ : Ev) (r : Rt Out) : Prop := match r with
  | .no => False
  | .ok .nx ρ' => ∀ σ' H', Stp K n H σ ρ H' σ' ρ' → E.nx σ' H'
  | .ok .bk ρ' => ∀ σ' H', Stp K n H σ ρ H' σ' ρ' → E.bk σ' H'
  | .ok .ct ρ' => ∀ σ' H', Stp K n H σ ρ H' σ' ρ' → E.ct σ' H'
  | .ok (.rt r) ρ' => ∀ v σ' H', Stp K n H σ ρ H' σ' ρ' → RR K H' σ' v r → E.rt v H'
  | .ok (.rf o) ρ' => ∀ p h σ' H', Stp K n H σ ρ H' σ' ρ' → H p = none → H' p = some h → ObR K H' h o → ¬ Own σ' ρ' p → E.rt (.ref p) H'
  | .ex c d ρ' => ∀ σ' H', Stp K n H σ ρ H' σ' ρ' → W c d σ' H'
def tS (K : PySem.W.Frag) (n : Nat) (W : XW) (m : Mo Out) : TS := fun E σ H => ∃ ρ, Good K H σ ρ ∧ AftS K n W E H σ ρ (m ρ)
abbrev XS (X : Cx) (n : Nat) (W : XW) (s : Stmt) (m : Mo Out) : Prop := PS X s (tS X.K n W m)
abbrev XSs (X : Cx) (n : Nat) (W : XW) (s : List Stmt) (m : Mo Out) : Prop := PSs X s (tS X.K n W m)
section
variable {K : PySem.W.Frag} {n : Nat} {W : XW} {E : Ends} {H H1 : Hp} {σ σ1 : St} {ρ ρ1 : Ev}
/-- from a later state on -/
theorem AftS.on {r : Rt Out} (s : Stp K n H σ ρ H1 σ1 ρ1) (h : AftS K n W E H σ ρ r) : AftS K n W E H1 σ1 ρ1 r := by
  cases r with
  | no => exact h
  | ex c d ρ' => exact fun σ' H' s' => h σ' H' (s.trans s')
  | ok o ρ' => cases o with
    | nx => exact fun σ' H' s' => h σ' H' (s.trans s')
    | bk => exact fun σ' H' s' => h σ' H' (s.trans s')
    | ct => exact fun σ' H' s' => h σ' H' (s.trans s')
    | rt r => exact fun v σ' H' s' => h v σ' H' (s.trans s')
    | rf o => exact fun p u σ' H' s' np => h p u σ' H' (s.trans s') (s.live p np)
/-- an expression, then what follows -/
theorem AftS.bind {α : Type} {m : Rt α} {k : α → Ev → Rt Out} (h : AftS K n W E H σ ρ (m.bind k)) : Aft K n W H σ ρ m fun a ρ1 H1 => AftS K n W E H1 σ ρ1 (k a ρ1) := by
  cases m with
  | no => exact h
  | ok a ρ1 => exact fun H1 s1 => AftS.on s1 h
  | ex c d ρ1 => exact fun H1 s1 => h σ H1 s1
theorem AftS.bind' {α : Type} {m : Rt α} {k : α → Ev → Rt Out} (st : Stp K n H σ ρ H1 σ1 ρ1) (h : AftS K n W E H σ ρ (m.bind k)) : Aft K n W H1 σ1 ρ1 m fun a ρ2 _ => AftS K n W E H σ ρ (k a ρ2) := by
  cases m with
  | no => exact h
  | ok a ρ2 => exact fun H2 s2 => h
  | ex c d ρ2 => exact fun H2 s2 => h σ1 H2 (st.trans s2)
end
section
variable {X : Cx} {n : Nat} {W : XW}
theorem weakS {e : Stmt} {t t' : TS} (h : PS X e t) (q : ∀ E σ H, t' E σ H → t E σ H) : PS X e t' := ⟨fun pins s σ H E I z => h.run pins s σ H E I (q E σ H z)⟩
theorem weakSs {e : List Stmt} {t t' : TS} (h : PSs X e t) (q : ∀ E σ H, t' E σ H → t E σ H) : PSs X e t' := ⟨fun pins s σ H E I z => h.run pins s σ H E I (q E σ H z)⟩
@[simp] def bNil : Mo Out := fun ρ => .ok .nx ρ
@[simp] def bSeq (f g : Mo Out) : Mo Out := fun ρ => (f ρ).bind fun o ρ1 => match o with
  | .nx => g ρ1
  | o => .ok o ρ1
theorem xss_nil : XSs X n W [] bNil := weakSs pss_nil fun E σ H ⟨ρ, G, h⟩ => h σ H (Stp.refl G)
theorem seq_run {f g : Mo Out} {E : Ends} {σ : St} {H : Hp} (h : tS X.K n W (bSeq f g) E σ H) : tSeq (tS X.K n W f) (tS X.K n W g) E σ H := by
  obtain ⟨ρ, G, h⟩ := h
  refine ⟨ρ, G, ?_⟩
  unfold bSeq at h
  generalize f ρ = r at h
  cases r with
  | no => exact h
  | ex c d ρ' => exact h
  | ok o ρ' => cases o with
    | nx => exact fun σ' H' s => ⟨ρ', s.good, AftS.on s h⟩
    | bk => exact h
    | ct => exact h
    | rt r => exact h
    | rf o => exact h
theorem xss_cons {st : Stmt} {rest : List Stmt} {f g : Mo Out} (h1 : XS X n W st f) (h2 : XSs X n W rest g) : XSs X n W (st :: rest) (bSeq f g) := weakSs (pss_cons h1 h2) fun _ _ _ h => seq_run h
def bBrk : Mo Out := fun ρ => .ok .bk ρ
def bCnt : Mo Out := fun ρ => .ok .ct ρ
@[simp] def bEx (f : Mo R) : Mo Out := fun ρ => (f ρ).bind fun _ ρ1 => .ok .nx ρ1
theorem xs_expr {e : Expr} {pos : Pos} {f : Mo R} (he : XD X n W e f) (hs : swapsWith e none pos.line X.env = pure false := by rfl) : XS X n W (.Expr e pos) (bEx f) := weakS (ps_expr he hs) fun E σ H ⟨ρ, G, h⟩ =>
  ⟨ρ, G, (AftS.bind h).mono fun a ρ1 H1 s1 h1 v rv => h1 σ H1 (Stp.refl s1.good)⟩
@[simp] def bRet (f : Mo R) : Mo Out := fun ρ => (f ρ).bind fun r ρ1 => .ok (.rt r) ρ1
theorem xs_ret {e : Expr} {pos : Pos} {f : Mo R} (he : XD X n W e f) : XS X n W (.Return (some e) pos) (bRet f) := weakS (ps_ret he) fun E σ H ⟨ρ, G, h⟩ =>
  ⟨ρ, G, (AftS.bind h).mono fun a ρ1 H1 s1 h1 v rv => h1 v σ H1 (Stp.refl s1.good) rv⟩
@[simp] def bRetF (f : Mo Ob) : Mo Out := fun ρ => (f ρ).bind fun o ρ1 => .ok (.rf o) ρ1
theorem xs_retF {e : Expr} {pos : Pos} {f : Mo Ob} (he : XF X n W e f) : XS X n W (.Return (some e) pos) (bRetF f) := weakS (ps_ret he) fun E σ H ⟨ρ, G, h⟩ => by
  refine ⟨ρ, G, ?_⟩
  unfold bRetF at h
  generalize f ρ = r at h
  cases r with
  | no => exact h
  | ex c d ρ' => exact fun H' s => h σ H' s
  | ok o ρ1 => exact fun H1 s1 p u np e r no => h p u σ H1 s1 np e r no
@[simp] def bIf (c : Mo Bool) (f g : Mo Out) : Mo Out := fun ρ => (c ρ).bind fun b ρ1 => if b = true then f ρ1 else g ρ1
theorem xs_if {c : Expr} {a b : List Stmt} {pos : Pos} {fc : Mo Bool} {f g : Mo Out} (hc : XB X n W c fc) (ha : XSs X n W a f) (hb : XSs X n W b g) : XS X n W (.If c a b pos) (bIf fc f g) := weakS (ps_if hc ha hb) fun E σ H ⟨ρ, G, h⟩ => by
  refine ⟨ρ, G, (AftS.bind h).mono fun k ρ1 H1 s1 h1 => ?_⟩
  cases k with
  | true => exact iteT ⟨ρ1, s1.good, h1⟩
  | false => exact iteF ⟨ρ1, s1.good, h1⟩
/-! ### stores -/
@[simp] def put (i : Nat) (s : Sl) (ρ : Ev) : Option Ev := if i < ρ.length then some (ρ.set i s) else none
@[simp] def nxt : Option Ev → Rt Out
  | some ρ => .ok .nx ρ
  | none => .no
@[simp] def bSet (i : Nat) (f : Mo R) : Mo Out := fun ρ => (f ρ).bind fun r ρ1 => match r with
  | .d x => nxt (put i (.dat x) ρ1)
  | .v _ => .no
theorem AftS.nxt {K : PySem.W.Frag} {E : Ends} {H : Hp} {σ : St} {ρ : Ev} {o : Option Ev} (h : AftS K n W E H σ ρ (nxt o)) : ∃ ρ', o = some ρ' ∧ ∀ σ' H', Stp K n H σ ρ H' σ' ρ' → E.nx σ' H' := by
  cases o with
  | none => exact h.elim
  | some ρ' => exact ⟨ρ', rfl, h⟩
theorem put_some {i : Nat} {s : Sl} {ρ ρ' : Ev} (h : put i s ρ = some ρ') : i < ρ.length ∧ ρ' = ρ.set i s := by
  unfold put at h
  split at h
  · next le =>
    cases h
    exact ⟨le, rfl⟩
  · cases h
theorem xs_set {i : Nat} {x : Str} {e : Expr} {pos pos' : Pos} {f : Mo R} (hn : n ≤ i) (hN : X.N.Nodup) (hi : X.N[i]? = some x) (hx : Loc X.env.scope x) (he : XD X n W e f) (hs : swapsWith e (some (.Name x pos')) pos.line X.env = pure false := by rfl) (hf : X.fn x = true ∨ X.env.scope.names.lookup x = some .local := by first | exact .inl rfl | exact .inr rfl | assumption) :
    XS X n W (.Assign [.Name x pos'] e pos) (bSet i f) := weakS (ps_set hN hi hx he hs hf) fun E σ H ⟨ρ, G, h⟩ => by
  refine ⟨ρ, G, (AftS.bind h).mono fun r ρ1 H1 s1 h1 v rv => ?_⟩
  cases rv with
  | d im =>
    obtain ⟨ρ2, e2, q⟩ := AftS.nxt h1
    obtain ⟨le, rfl⟩ := put_some e2
    exact q _ _ ((Stp.refl s1.good).set_dat hn le im)
  | v _ => exact h1.elim
@[simp] def bSetF (i : Nat) (f : Mo Ob) : Mo Out := fun ρ => (f ρ).bind fun o ρ1 => nxt (put i (.own o) ρ1)
theorem setF_run {i : Nat} {f : Mo Ob} {E : Ends} {σ : St} {H : Hp} (hn : n ≤ i) (h : tS X.K n W (bSetF i f) E σ H) : tF X.K n W f σ H fun v H1 => E.nx (σ.set i (some v)) H1 := by
  obtain ⟨ρ, G, h⟩ := h
  refine ⟨ρ, G, ?_⟩
  unfold bSetF at h
  generalize f ρ = r at h
  cases r with
  | no => exact h
  | ex c d ρ' => exact fun H' s => h σ H' s
  | ok o ρ1 =>
    intro H1 s1 p u np e r no
    obtain ⟨ρ2, e2, q⟩ := AftS.nxt h
    obtain ⟨le, rfl⟩ := put_some e2
    exact q _ _ (s1.set_own hn le e r no (.inr np))
theorem xs_setF {i : Nat} {x : Str} {e : Expr} {pos pos' : Pos} {f : Mo Ob} (hn : n ≤ i) (hN : X.N.Nodup) (hi : X.N[i]? = some x) (hx : Loc X.env.scope x) (he : XF X n W e f) (hs : swapsWith e (some (.Name x pos')) pos.line X.env = pure false := by rfl) (hf : X.fn x = true ∨ X.env.scope.names.lookup x = some .local := by first | exact .inl rfl | exact .inr rfl | assumption) :
    XS X n W (.Assign [.Name x pos'] e pos) (bSetF i f) := weakS (ps_set hN hi hx he hs hf) fun E σ H h => setF_run hn h
/-! ### targets -/
abbrev Tg := D → Ev → Option Ev
abbrev Tgs := List D → Ev → Option Ev
def AftG (K : PySem.W.Frag) (n : Nat) (is : List Nat) (H : Hp) (σ : St) (ρ : Ev) (r : Option Ev) (Q : St → Hp → Prop) : Prop := ∃ ρ', r = some ρ' ∧ ∀ σ' H', Stp K n H σ ρ H' σ' ρ' → (∀ j, j ∉ is → σ'[j]? = σ[j]?) → σ'.length = σ.length → Q σ' H'
def tG (K : PySem.W.Frag) (n : Nat) (is : List Nat) (m : Tg) : TG := fun v σ H Q => ∃ ρ d, Good K H σ ρ ∧ Im K H v d ∧ AftG K n is H σ ρ (m d ρ) Q
def tGs (K : PySem.W.Frag) (n : Nat) (is : List Nat) (m : Tgs) : TGs := fun vs σ H Q => ∃ ρ ds, Good K H σ ρ ∧ ImL K H vs ds ∧ AftG K n is H σ ρ (m ds ρ) Q
abbrev XG (X : Cx) (n : Nat) (is : List Nat) (t : Expr) (m : Tg) : Prop := PG X t (tG X.K n is m)
abbrev XGs (X : Cx) (n : Nat) (is : List Nat) (t : List Expr) (m : Tgs) : Prop := PGs X t (tGs X.K n is m)
theorem weakG {e : Expr} {t t' : TG} (h : PG X e t) (q : ∀ v σ H Q, t' v σ H Q → t v σ H Q) : PG X e t' := ⟨fun pins s σ H v u Q I r z => h.run pins s σ H v u Q I r (q v σ H Q z)⟩
theorem weakGs {e : List Expr} {t t' : TGs} (h : PGs X e t) (q : ∀ v σ H Q, t' v σ H Q → t v σ H Q) : PGs X e t' := ⟨fun pins s σ H v u Q I r z => h.run pins s σ H v u Q I r (q v σ H Q z)⟩
@[simp] def gN (i : Nat) : Tg := fun d ρ => put i (.dat d) ρ
theorem xg_name {i : Nat} {x : Str} {pos : Pos} (hn : n ≤ i) (hN : X.N.Nodup) (hi : X.N[i]? = some x) (hx : Loc X.env.scope x) (hf : X.fn x = true ∨ X.env.scope.names.lookup x = some .local := by first | exact .inl rfl | exact .inr rfl | assumption) : XG X n [i] (.Name x pos) (gN i) :=
  weakG (pg_name hN hi hx hf) fun v σ H Q ⟨ρ, d, G, im, ρ', e, h⟩ => by
    obtain ⟨le, rfl⟩ := put_some e
    exact h _ _ ((Stp.refl G).set_dat hn le im) (fun j hj => set_ne fun z => hj (by rw [z]; exact List.mem_singleton.mpr rfl)) List.length_set
@[simp] def gsNil : Tgs := fun ds ρ => match ds with
  | [] => some ρ
  | _ => none
@[simp] def gsCons (f : Tg) (g : Tgs) : Tgs := fun ds ρ => match ds with
  | d :: r => (f d ρ).bind fun ρ1 => g r ρ1
  | [] => none
theorem xgs_nil : XGs X n [] [] gsNil := weakGs pgs_nil fun vs σ H Q ⟨ρ, ds, G, im, ρ', e, h⟩ => by
  cases im with
  | nil =>
    cases e
    exact ⟨rfl, h _ _ (Stp.refl G) (fun _ _ => rfl) rfl⟩
  | cons _ _ => cases e
end
end Q
namespace Q
open PySem PySem.Spec PyProof.Rows L2
variable [Tbl]
section
variable {X : Cx} {n : Nat} {W : XW}
theorem xgs_cons {e : Expr} {es : List Expr} {i1 i2 : List Nat} {f : Tg} {g : Tgs} (h1 : XG X n i1 e f) (h2 : XGs X n i2 es g) (hs : (assignEach (e :: es) X.env).map (·.2) = assign e X.env :: (assignEach es X.env).map (·.2) := by rfl) : XGs X n (i1 ++ i2) (e :: es) (gsCons f g) :=
  weakGs (pgs_cons h1 h2 hs) fun vs σ H Q ⟨ρ, ds, G, im, ρ2, e, h⟩ => by
    cases im with
    | nil => cases e
    | @cons v vs d ds im r =>
      have e : (f d ρ).bind (fun ρ1 => g ds ρ1) = some ρ2 := e
      cases e1 : f d ρ with
      | none =>
        rw [e1] at e
        cases e
      | some ρ1 =>
        rw [e1] at e
        exact ⟨v, vs, rfl, ρ, d, G, im, ρ1, e1, fun σ1 H1 s1 n1 l1 => ⟨ρ1, ds, s1.good, r.grow (s1.grow G), ρ2, e, fun σ2 H2 s2 n2 l2 => h σ2 H2 (s1.trans s2) (fun j hj => (n2 j fun z => hj (List.mem_append_right _ z)).trans (n1 j fun z => hj (List.mem_append_left _ z))) (l2.trans l1)⟩⟩
@[simp] def gT (c : Nat) (g : Tgs) : Tg := fun d ρ => match d with
  | .tuple ds => if ds.length = c then g ds ρ else none
  | .dict [(.bool true, a), (.bool false, b)] => if c = 2 then g [a, b] ρ else none
  | _ => none
theorem xg_tup {es : List Expr} {k c : Nat} {is : List Nat} {pos : Pos} {g : Tgs} (hc : X.calm = true) (h : XGs X n is es g) (hn : (assignEach es X.env).length = c := by rfl) (hst : (assignEach es X.env).findIdx? (·.1) = none := by rfl) : XG X n is (.Tuple es k pos) (gT c g) :=
  weakG (pg_tup hc h hn hst) fun v σ H Q ⟨ρ, d, G, im, ρ', e, h⟩ => by
    cases im with
    | @tup a xs ds hs r =>
      have e : (if ds.length = c then g ds ρ else none) = some ρ' := e
      split at e
      · next le => exact ⟨_, _, rfl, hs.sq, by rw [r.len]; exact le, ρ, ds, G, r, ρ', e, h⟩
      · cases e
    | @prm t x y a b hs h1 h2 =>
      have e : (if c = 2 then g [a, b] ρ else none) = some ρ' := e
      split at e
      · next le =>
        subst le
        exact ⟨_, _, rfl, hs, rfl, ρ, [a, b], G, .cons h1 (.cons h2 .nil), ρ', e, h⟩
      · cases e
    | scr _ => cases e
    | dic _ r =>
      cases r with
      | nil => cases e
      | @cons k _ _ _ _ _ r => cases k <;> cases e
    | _ => cases e
@[simp] def bAsg (f : Mo R) (g : Tg) : Mo Out := fun ρ => (f ρ).bind fun r ρ1 => match r with
  | .d x => nxt (g x ρ1)
  | .v _ => .no
theorem xs_asg {tg e : Expr} {is : List Nat} {pos : Pos} {f : Mo R} {g : Tg} (he : XD X n W e f) (hg : XG X n is tg g) (hs : swapsWithSole [tg] e pos.line X.env = pure false := by rfl) (hw : swappedStores [tg] e X.env = pure none := by rfl)
    (h1 : (assignEach [tg] X.env).map (·.2) = [assign tg X.env] := by rfl) : XS X n W (.Assign [tg] e pos) (bAsg f g) := weakS (ps_asg he hg hs hw h1) fun E σ H ⟨ρ, G, h⟩ => by
  refine ⟨ρ, G, (AftS.bind h).mono fun r ρ1 H1 s1 h1 v rv => ?_⟩
  cases rv with
  | v _ => exact h1.elim
  | @d x im =>
    obtain ⟨ρ2, e2, q⟩ := AftS.nxt h1
    exact ⟨ρ1, x, s1.good, im, ρ2, e2, fun σ' H' s _ _ => q σ' H' s⟩
/-! ### a, b = x, y -/
/-- a value of either kind, to be stored -/
inductive M1
  | dd (m : Mo R)
  | ff (m : Mo Ob)
abbrev tM (K : PySem.W.Frag) (n : Nat) (W : XW) : M1 → TE
  | .dd m => tX K n W m
  | .ff m => tF K n W m
abbrev XM (X : Cx) (n : Nat) (W : XW) (e : Expr) (m : M1) : Prop := PE X e (tM X.K n W m)
@[simp] def runM : M1 → Ev → Rt Sl
  | .dd m, ρ => (m ρ).bind fun r ρ1 => match r with
    | .d x => .ok (.dat x) ρ1
    | .v _ => .no
  | .ff m, ρ => (m ρ).bind fun o ρ1 => .ok (.own o) ρ1
/-- what a value to be stored is: data, or new -/
inductive SR (K : PySem.W.Frag) (H0 H : Hp) (σ : St) (ρ : Ev) : V → Sl → Prop
  | dat {v : V} {d : D} : Im K H v d → SR K H0 H σ ρ v (.dat d)
  | own {p : Addr} {h : HO} {o : Ob} : H0 p = none → H p = some h → ObR K H h o → ¬ Own σ ρ p → SR K H0 H σ ρ (.ref p) (.own o)
theorem runM_run {K : PySem.W.Frag} {m : M1} {H H0 : Hp} {σ : St} {ρ ρ0 : Ev} {E : Ends} {k : Sl → Ev → Rt Out} {Q : VK} (st : Stp K n H0 σ ρ0 H σ ρ) (h : AftS K n W E H0 σ ρ0 ((runM m ρ).bind k))
    (q : ∀ v s ρ1 H1, Stp K n H σ ρ H1 σ ρ1 → SR K H H1 σ ρ1 v s → AftS K n W E H0 σ ρ0 (k s ρ1) → Q v H1) : tM K n W m σ H Q := by
  cases m with
  | dd m =>
    refine ⟨ρ, st.good, ?_⟩
    unfold runM at h
    dsimp only at h
    generalize m ρ = z at h
    cases z with
    | no => exact h
    | ex c e ρ' => exact fun H1 s => h σ H1 (st.trans s)
    | ok r ρ1 =>
      intro H1 s1 v rv
      cases rv with
      | v _ => exact h.elim
      | @d x im => exact q v (.dat x) ρ1 H1 s1 (.dat im) h
  | ff m =>
    refine ⟨ρ, st.good, ?_⟩
    unfold runM at h
    dsimp only at h
    generalize m ρ = z at h
    cases z with
    | no => exact h
    | ex c e ρ' => exact fun H1 s => h σ H1 (st.trans s)
    | ok o ρ1 => exact fun H1 s1 p u np e r no => q _ (.own o) ρ1 H1 s1 (.own np e r no) h
theorem SR.on {K : PySem.W.Frag} {H0 H1 H2 : Hp} {σ : St} {ρ1 ρ2 : Ev} {v : V} {s : Sl} (r : SR K H0 H1 σ ρ1 v s) (G : Good K H1 σ ρ1) (st : Stp K n H1 σ ρ1 H2 σ ρ2) : SR K H0 H2 σ ρ2 v s := by
  cases r with
  | dat im => exact .dat (im.grow (st.grow G))
  | own np e r no =>
    refine .own np (st.kept _ _ e no fun ps z => r.no_tbl z) (r.grow (st.grow G)) fun z => ?_
    rcases st.news _ z with z | z
    · exact no z
    · rw [e] at z
      cases z
theorem Stp.set_sr {K : PySem.W.Frag} {H H' H0 : Hp} {σ σ' : St} {ρ ρ' : Ev} {v : V} {s : Sl} (st : Stp K n H σ ρ H' σ' ρ') {i : Nat} (hn : n ≤ i) (hi : i < ρ'.length) (r : SR K H0 H' σ' ρ' v s) (h0 : ∀ p, H0 p = none → Own σ ρ p ∨ H p = none) :
    Stp K n H σ ρ H' (σ'.set i (some v)) (ρ'.set i s) := by
  cases r with
  | dat im => exact st.set_dat hn hi im
  | own np e r no => exact st.set_own hn hi e r no (h0 _ np)
@[simp] def bPar (i j : Nat) (a b : M1) : Mo Out := fun ρ => (runM a ρ).bind fun s ρ1 => (runM b ρ1).bind fun t ρ2 => nxt ((put i s ρ2).bind (put j t))
theorem xs_par {i j : Nat} {x y : Str} {a b : Expr} {ma mb : M1} {px py pt pos : Pos} {kt k2 pt2} (hni : n ≤ i) (hnj : n ≤ j) (hc : X.calm = true) (hN : X.N.Nodup) (hi : X.N[i]? = some x) (hj : X.N[j]? = some y) (hij : i ≠ j)
    (hx : X.env.scope.names.lookup x = some .local) (hy : X.env.scope.names.lookup y = some .local) (ha : XM X n W a ma) (hb : XM X n W b mb)
    (go : ∀ {ta : TA}, PA X [a, b] ta → PS X (.Assign [.Tuple [.Name x px, .Name y py] kt pt] (.Tuple [a, b] k2 pt2) pos) (tPar i j ta)) (s1 : starEach [a, b] X.env = (false, eval a X.env) :: starEach [b] X.env := by rfl) (s2 : starEach [b] X.env = (false, eval b X.env) :: starEach [] X.env := by rfl) :
    XS X n W (.Assign [.Tuple [.Name x px, .Name y py] kt pt] (.Tuple [a, b] k2 pt2) pos) (bPar i j ma mb) := weakS (go (pa_cons ha (pa_cons hb pa_nil s2) s1)) fun E σ H ⟨ρ, G, h⟩ => by
  refine runM_run (Stp.refl G) h fun v s ρ1 H1 s1 r1 h1 => ?_
  refine runM_run s1 h1 fun u t ρ2 H2 s2 r2 h2 => ?_
  refine ⟨v, u, rfl, ?_⟩
  obtain ⟨ρ4, e4, h4⟩ := AftS.nxt h2
  cases e3 : put i s ρ2 with
  | none =>
    rw [e3] at e4
    cases e4
  | some ρ3 =>
  rw [e3] at e4
  have e4 : put j t ρ3 = some ρ4 := e4
  obtain ⟨l1, rfl⟩ := put_some e3
  obtain ⟨l2, rfl⟩ := put_some e4
  have st := (s1.trans s2).set_sr hni l1 (r1.on s1.good s2) fun p hp => .inr hp
  refine h4 _ _ (st.set_sr hnj l2 (H0 := H1) ?_ fun p hp => .inr (s1.live p hp))
  cases r2 with
  | dat im => exact .dat im
  | @own q h o nq e r no =>
    refine .own nq e r fun z => ?_
    obtain ⟨k, o1, e1, e2⟩ := z
    by_cases w : i = k
    · subst w
      rw [set_at (by rw [s2.good.len]; exact l1)] at e2
      cases e2
      rw [set_at l1] at e1
      cases e1
      cases r1 with
      | own _ e3 _ _ =>
        rw [nq] at e3
        cases e3
    · rw [set_ne w] at e1 e2
      exact no ⟨k, o1, e1, e2⟩
end
end Q
namespace Q
open PySem PySem.Spec PyProof.Rows L2
variable [Tbl]
/-! ### what is walked -/
/-- the walk gives ds, one after another, as long as tuples and locked things stay -/
def Wk (K : PySem.W.Frag) (H1 : Hp) (ds : List D) (J : It) : Prop := Walk J ds.length (fun H => Grow H1 H) fun i H x H' => Same H H' ∧ ∃ d, ds[i]? = some d ∧ Im K H' x d
def tI (K : PySem.W.Frag) (n : Nat) (W : XW) (m : Mo (List D)) : TI := fun σ H R => ∃ ρ, Good K H σ ρ ∧ Aft K n W H σ ρ (m ρ) fun ds _ H' => ∀ J, Wk K H' ds J → R J H'
abbrev XI (X : Cx) (n : Nat) (W : XW) (tg e : Expr) (m : Mo (List D)) : Prop := PI X tg e (tI X.K n W m)
section
variable {X : Cx} {n : Nat} {W : XW} {tg : Expr}
theorem weakI {e : Expr} {t t' : TI} (h : PI X tg e t) (q : ∀ σ H Q, t' σ H Q → t σ H Q) : PI X tg e t' := ⟨fun pins s σ H Q I z => h.run pins s σ H Q I (q σ H Q z)⟩
theorem PI.or {e : Expr} {t t' : TI} (h : PI X tg e t) (h' : PI X tg e t') : PI X tg e fun σ H R => t σ H R ∨ t' σ H R := ⟨fun pins s σ H R I z => z.elim (h.run pins s σ H R I) (h'.run pins s σ H R I)⟩
def sign (c : Nat) : D := .str ⟨#[c]⟩
@[simp] def iterD : D → Option (List D)
  | .tuple ds => some ds
  | .list ds => some ds
  | .str x => some (x.cps.toList.map sign)
  | .dict [(.none, _)] => none
  | .dict ((.bool _, _) :: _) => none
  | .dict kvs => some (kvs.map Prod.fst)
  | _ => none
@[simp] def iSeq (f : Mo R) : Mo (List D) := fun ρ => (f ρ).bind fun r ρ1 => match r with
  | .d x => match iterD x with
    | some ds => .ok ds ρ1
    | none => .no
  | .v _ => .no
theorem wk_list {K : PySem.W.Frag} {H : Hp} {a : Addr} {xs : List V} {ds : List D} (h : LkL K H a xs) (r : ImL K H xs ds) : Wk K H ds (Itl K a) := by
  have w := walk_list (K := K) (a := a) (xs := xs)
  rw [r.len] at w
  refine w.mono (fun H' g => (g.l h).sq) fun i H1 x H2 hi g y => ?_
  obtain ⟨rfl, e⟩ := y
  obtain ⟨d, e2, im⟩ := r.get e
  exact ⟨Same.refl _, d, e2, im.grow g⟩
theorem wk_tup {K : PySem.W.Frag} {H : Hp} {a : Addr} {xs : List V} {ds : List D} (h : SqT K H a xs) (r : ImL K H xs ds) : Wk K H ds (Itt K a) := by
  have w := walk_tup (K := K) (a := a) (xs := xs)
  rw [r.len] at w
  refine w.mono (fun H' g => g.t h) fun i H1 x H2 hi g y => ?_
  obtain ⟨rfl, e⟩ := y
  obtain ⟨d, e2, im⟩ := r.get e
  exact ⟨Same.refl _, d, e2, im.grow g⟩
theorem wk_str {K : PySem.W.Frag} {H : Hp} {z : Str} : Wk K H (z.cps.toList.map sign) (Its z) := by
  have w := walk_str (z := z)
  have e : z.cps.size = (z.cps.toList.map sign).length := by rw [List.length_map, Array.length_toList]
  rw [e] at w
  refine w.mono (fun H' g => trivial) fun i H1 x H2 hi g y => ?_
  obtain ⟨rfl, c, e, rfl⟩ := y
  refine ⟨Same.refl _, sign c, ?_, .str _⟩
  rw [List.getElem?_map, Array.getElem?_toList, e]
  rfl
theorem ImKV.key {K : PySem.W.Frag} {H : Hp} : ∀ {kvs : List (Key × V)} {ds : List (D × D)} {i : Nat} {k : Key} {v : V}, ImKV K H kvs ds → kvs[i]? = some (k, v) → ∃ d, ds[i]? = some (keyD k, d) ∧ Im K H v d
  | _, _, 0, k, v, .cons h _, g => by
    cases (Option.some.inj g)
    exact ⟨_, rfl, h⟩
  | _, _, i + 1, k, v, .cons _ r, g => ImKV.key (i := i) r g
theorem ImKV.len {K : PySem.W.Frag} {H : Hp} : ∀ {kvs : List (Key × V)} {ds : List (D × D)}, ImKV K H kvs ds → kvs.length = ds.length
  | _, _, .nil => rfl
  | _, _, .cons _ r => by rw [List.length_cons, List.length_cons, ImKV.len r]
theorem im_key {K : PySem.W.Frag} {H : Hp} (k : Key) : Im K H (kV k) (keyD k) := by
  cases k with
  | inl i => exact .int i
  | inr x => exact .str x
theorem wk_keys {K : PySem.W.Frag} {H : Hp} {a : Addr} {o : Obj} {kvs : List (Key × V)} {ds : List (D × D)} (h : H a = some (.frz o (.dK kvs))) (r : ImKV K H kvs ds) : Wk K H (ds.map Prod.fst) (Itk a o kvs) := by
  have w := walk_keys (d := a) (o := o) (kvs := kvs)
  have e : kvs.length = (ds.map Prod.fst).length := by rw [List.length_map, r.len]
  rw [e] at w
  refine w.mono (fun H' g => g.2.1 _ _ _ h) fun i H1 x H2 hi g y => ?_
  obtain ⟨rfl, k, v, e, rfl⟩ := y
  obtain ⟨d, e2, _⟩ := r.key e
  refine ⟨Same.refl _, keyD k, ?_, im_key k⟩
  rw [List.getElem?_map, e2]
  rfl
theorem xi_seq {e : Expr} {f : Mo R} (h : XD X n W e f) : XI X n W tg e (iSeq f) := weakI (PI.or (PI.or (pi_list h) (pi_tup h)) (PI.or (pi_str h) (pi_keys h))) fun σ H Q ⟨ρ, G, h⟩ => by
  unfold iSeq at h
  cases e : f ρ with
  | no =>
    rw [e] at h
    exact h.elim
  | ex c d ρ' =>
    refine .inl (.inl ⟨ρ, G, ?_⟩)
    rw [e] at h ⊢
    exact h
  | ok r ρ1 =>
    rw [e] at h
    cases r with
    | v _ => exact h.elim
    | d x =>
      cases x with
      | list ds =>
        refine .inl (.inl ⟨ρ, G, ?_⟩)
        rw [e]
        intro H1 s1 v rv
        cases rv with
        | d im => cases im with
          | lst h1 h2 => exact ⟨_, rfl, ⟨_, h1.sq⟩, h H1 s1 _ (wk_list h1 h2)⟩
      | tuple ds =>
        refine .inl (.inr ⟨ρ, G, ?_⟩)
        rw [e]
        intro H1 s1 v rv
        cases rv with
        | d im => cases im with
          | tup h1 h2 => exact ⟨_, rfl, ⟨_, h1.sq⟩, h H1 s1 _ (wk_tup h1.sq h2)⟩
      | str z =>
        refine .inr (.inl ⟨ρ, G, ?_⟩)
        rw [e]
        intro H1 s1 v rv
        cases rv with
        | d im => cases im with
          | str _ => exact ⟨z, rfl, h H1 s1 _ wk_str⟩
      | dict kvs =>
        refine .inr (.inr ⟨ρ, G, ?_⟩)
        rw [e]
        intro H1 s1 v rv
        cases rv with
        | d im => cases im with
          | scr _ => exact h.elim
          | prm _ _ _ => exact h.elim
          | @dic a o ks ds h1 h2 =>
            refine ⟨_, _, rfl, .inl ⟨_, h1, ?_⟩⟩
            have ei : iterD (.dict kvs) = some (kvs.map Prod.fst) := by
              cases h2 with
              | nil => rfl
              | @cons k _ _ _ _ _ r => cases k <;> rfl
            have h : Aft X.K n W H σ ρ (match iterD (.dict kvs) with
              | some ds => Rt.ok ds ρ1
              | none => .no) fun ds _ H' => ∀ J, Wk X.K H' ds J → Q J H' := h
            rw [ei] at h
            exact h H1 s1 _ (wk_keys h1 h2)
      | none => exact h.elim
      | bool _ => exact h.elim
      | int _ => exact h.elim
/-! ### range -/
def rngD (lo : Int) (k : Nat) : List D := (List.range k).map fun i => .int (lo + (i : Nat))
noncomputable def small (i : Int) : Bool := cb (-(2 ^ 62) ≤ i ∧ i < 2 ^ 62)
noncomputable def range1D : List D → Option (List D)
  | [.int j] => if small j = true then some (rngD 0 j.toNat) else none
  | _ => none
noncomputable def range2D : List D → Option (List D)
  | [.int i, .int j] => if small i = true ∧ small j = true then some (rngD i (j - i).toNat) else none
  | _ => none
@[simp] def outL : Option (List D) → Mo (List D)
  | some ds, ρ => .ok ds ρ
  | none, _ => .no
theorem Aft.outL {K : PySem.W.Frag} {n : Nat} {W : XW} {H : Hp} {σ : St} {ρ ρ1 : Ev} {o : Option (List D)} {Q : List D → Ev → Hp → Prop} (h : Aft K n W H σ ρ (outL o ρ1) Q) : ∃ ds, o = some ds ∧ Aft K n W H σ ρ (.ok ds ρ1) Q := by
  cases o with
  | none => exact h.elim
  | some ds => exact ⟨ds, rfl, h⟩
@[simp] def iN (F : List D → Option (List D)) (f : Mo (List R)) : Mo (List D) := fun ρ => (f ρ).bind fun rs ρ1 => outL ((datas rs).bind F) ρ1
theorem wk_range {K : PySem.W.Frag} {H : Hp} {lo : Int} {k : Nat} : Wk K H (rngD lo k) (Itr lo k) := by
  have w := walk_range (lo := lo) (n := k)
  have e : k = (rngD lo k).length := by unfold rngD; rw [List.length_map, List.length_range]
  have w2 : Walk (Itr lo k) (rngD lo k).length (fun _ => True) (YFn fun i => .int (lo + i)) := by rw [← e]; exact w
  refine w2.mono (fun H' g => trivial) fun i H1 x H2 hi g y => ?_
  obtain ⟨rfl, rfl⟩ := y
  refine ⟨Same.refl _, .int (lo + (i : Nat)), ?_, .int _⟩
  unfold rngD at hi ⊢
  rw [List.length_map, List.length_range] at hi
  rw [List.getElem?_map, List.getElem?_range hi]
  rfl
theorem xi_range1 {a : Expr} {p pos : Pos} {f : Mo (List R)} (hg : Gl X "range") (hm : X.mg "range" = none) (ha : XA X n W [a] f) (hs : starEach [a] X.env = [(false, eval a X.env)] := by rfl) : XI X n W tg (.Call (.Name "range" p) [a] [] pos) (iN range1D f) :=
  weakI (pi_range1 hg hm ha hs) fun σ H Q ⟨ρ, G, h⟩ => by
    refine ⟨ρ, G, (Aft.bind h).mono fun rs ρ1 H1 s1 h1 vs rvs => ?_⟩
    obtain ⟨ds, e, h1⟩ := h1.outL
    · cases ed : datas rs with
      | none =>
        rw [ed] at e
        cases e
      | some es =>
        rw [ed] at e
        have e : range1D es = some ds := e
        unfold range1D at e
        split at e
        · next j _ =>
          split at e
          · next le =>
            cases e
            have im := rvs.datas ed
            cases im with
            | cons i1 r => cases r; cases i1; exact ⟨j, rfl, (of_cb le).1, (of_cb le).2, Aft.ok s1.good h1 _ wk_range⟩
          · cases e
        · cases e
/-! ### for -/
def loopD (g : Tg) (b : Mo Out) : List D → Mo Out
  | [], ρ => .ok .nx ρ
  | d :: ds, ρ => match g d ρ with
    | none => .no
    | some ρ1 => (b ρ1).bind fun o ρ2 => match o with
      | .nx => loopD g b ds ρ2
      | .ct => loopD g b ds ρ2
      | .bk => .ok .nx ρ2
      | .rt r => .ok (.rt r) ρ2
      | .rf r => .ok (.rf r) ρ2
@[simp] def bFor (it : Mo (List D)) (g : Tg) (b : Mo Out) : Mo Out := fun ρ => (it ρ).bind fun ds ρ1 => loopD g b ds ρ1
theorem xs_for {iter : Expr} {body : List Stmt} {is : List Nat} {pos : Pos} {it : Mo (List D)} {g : Tg} {b : Mo Out} (hp : PassesOwn (model X.prog X.w) X.A X.env X.xe) (hc : X.calm = true) (hi : XI X n W tg iter it) (hg : XG X n is tg g) (hb : XSs X n W body b)
    (hs : ∀ x, foldedSetIterable iter X.env x = pure x := by intro _; rfl) : XS X n W (.For tg iter body [] pos) (bFor it g b) := weakS (ps_for hp hc hi hg hb hs) fun E σ H ⟨ρ, G, h⟩ => by
  refine ⟨ρ, G, (AftS.bind h).mono fun ds ρ1 H1 s1 h1 J wk => ?_⟩
  refine for_it wk (fun i σ' H' => ∃ ρ', Stp X.K n H1 σ ρ1 H' σ' ρ' ∧ AftS X.K n W E H1 σ ρ1 (loopD g b (ds.drop i) ρ')) ⟨ρ1, Stp.refl s1.good, h1⟩ (fun i σ' H' _ ⟨ρ', st, _⟩ => st.grow s1.good) (fun i x σ' H' H2 hi hP hY => ?_) (fun σ' H' ⟨ρ', st, h'⟩ => ?_)
  · obtain ⟨ρ', st, h'⟩ := hP
    obtain ⟨sm, d, ed, im⟩ := hY
    have es : ds.drop i = d :: ds.drop (i + 1) := by
      have lt : i < ds.length := hi
      rw [List.drop_eq_getElem_cons lt]
      rw [List.getElem?_eq_getElem lt] at ed
      rw [Option.some.inj ed]
    rw [es] at h'
    have st2 := st.trans (Stp.same st.good sm)
    unfold loopD at h'
    cases eg : g d ρ' with
    | none =>
      rw [eg] at h'
      exact h'.elim
    | some ρ2 =>
      rw [eg] at h'
      refine ⟨ρ', d, st2.good, im, ρ2, eg, fun σ3 H3 s3 _ _ => ⟨ρ2, s3.good, ?_⟩⟩
      have st3 := st2.trans s3
      dsimp only at h'
      generalize b ρ2 = z at h'
      cases z with
      | no => exact h'
      | ex c e ρ3 => exact fun σ4 H4 s4 => h' σ4 H4 (st3.trans s4)
      | ok o ρ3 => cases o with
        | nx => exact fun σ4 H4 s4 => ⟨ρ3, st3.trans s4, h'⟩
        | ct => exact fun σ4 H4 s4 => ⟨ρ3, st3.trans s4, h'⟩
        | bk => exact fun σ4 H4 s4 => h' σ4 H4 (st3.trans s4)
        | rt r => exact fun v σ4 H4 s4 rv => h' v σ4 H4 (st3.trans s4) rv
        | rf o => exact fun p u σ4 H4 s4 np => h' p u σ4 H4 (st3.trans s4) (st3.live p np)
  · rw [List.drop_length] at h'
    exact h' σ' H' st
/-! ### while -/
def whileD (c : Mo Bool) (b : Mo Out) : Nat → Mo Out
  | 0, _ => .no
  | k + 1, ρ => (c ρ).bind fun t ρ1 => if t = true then (b ρ1).bind fun o ρ2 => match o with
      | .nx => whileD c b k ρ2
      | .ct => whileD c b k ρ2
      | .bk => .ok .nx ρ2
      | .rt r => .ok (.rt r) ρ2
      | .rf r => .ok (.rf r) ρ2
    else .ok .nx ρ1
theorem xs_while {c : Expr} {body : List Stmt} {pos : Pos} {fc : Mo Bool} {b : Mo Out} (k : Nat) (hp : PassesOwn (model X.prog X.w) X.A X.env X.xe) (hc : XB X n W c fc) (hb : XSs X n W body b) : XS X n W (.While c body [] pos) (whileD fc b k) := weakS (ps_while hp hc hb) fun E σ H ⟨ρ, G, h⟩ => by
  refine ⟨fun m σ' H' => ∃ ρ', Stp X.K n H σ ρ H' σ' ρ' ∧ AftS X.K n W E H σ ρ (whileD fc b m ρ'), ⟨k, ρ, Stp.refl G, h⟩, fun m σ' H' hW => ?_⟩
  obtain ⟨ρ', st, h'⟩ := hW
  cases m with
  | zero => exact h'.elim
  | succ m =>
    refine ⟨ρ', st.good, (AftS.bind' st h').mono fun t ρ1 H1 s1 h1 => ?_⟩
    have st1 := st.trans s1
    cases t with
    | false => exact iteF (h1 σ' H1 st1)
    | true =>
      refine iteT ⟨fun σ2 H2 => ∃ ρ2, Stp X.K n H σ ρ H2 σ2 ρ2 ∧ AftS X.K n W E H σ ρ (whileD fc b m ρ2), fun σ2 H2 w2 => ⟨m, Nat.lt_succ_self m, w2⟩, ρ1, s1.good, ?_⟩
      have h1 : AftS X.K n W E H σ ρ ((b ρ1).bind fun o ρ2 => match o with
        | .nx => whileD fc b m ρ2
        | .ct => whileD fc b m ρ2
        | .bk => .ok .nx ρ2
        | .rt r => .ok (.rt r) ρ2
        | .rf r => .ok (.rf r) ρ2) := h1
      generalize b ρ1 = z at h1
      cases z with
      | no => exact h1
      | ex c e ρ3 => exact fun σ4 H4 s4 => h1 σ4 H4 (st1.trans s4)
      | ok o ρ3 => cases o with
        | nx => exact fun σ4 H4 s4 => ⟨ρ3, st1.trans s4, h1⟩
        | ct => exact fun σ4 H4 s4 => ⟨ρ3, st1.trans s4, h1⟩
        | bk => exact fun σ4 H4 s4 => h1 σ4 H4 (st1.trans s4)
        | rt r => exact fun v σ4 H4 s4 rv => h1 v σ4 H4 (st1.trans s4) rv
        | rf o => exact fun p u σ4 H4 s4 np => h1 p u σ4 H4 (st1.trans s4) (st1.live p np)
end
end Q
namespace Q
open PySem PySem.Spec PyProof.Rows L2
variable [Tbl]
/-! ### comprehensions -/
@[simp] def wipeE (ρ : Ev) : List Nat → Ev
  | [] => ρ
  | v :: vs => (wipeE ρ vs).set v .no
@[simp] def mixE (ρ0 ρ : Ev) : List Nat → Ev
  | [] => ρ
  | v :: vs => (mixE ρ0 ρ vs).set v (ρ0.getD v .no)
theorem wipeE_len (ρ : Ev) : ∀ vs, (wipeE ρ vs).length = ρ.length
  | [] => rfl
  | v :: vs => by
    show ((wipeE ρ vs).set v .no).length = _
    rw [List.length_set, wipeE_len ρ vs]
theorem mixE_len (ρ0 ρ : Ev) : ∀ vs, (mixE ρ0 ρ vs).length = ρ.length
  | [] => rfl
  | v :: vs => by
    show ((mixE ρ0 ρ vs).set v _).length = _
    rw [List.length_set, mixE_len ρ0 ρ vs]
theorem wipe_in {σ : St} {j : Nat} : ∀ {vs : List Nat}, j ∈ vs → j < σ.length → (wipe σ vs)[j]? = some none
  | v :: vs, h, lt => by
    show ((wipe σ vs).set v none)[j]? = some none
    by_cases e : v = j
    · subst e
      exact set_at (by rw [wipe_length]; exact lt)
    · rw [set_ne e]
      refine wipe_in ?_ lt
      rcases List.mem_cons.mp h with z | z
      · exact absurd z.symm e
      · exact z
theorem wipe_out {σ : St} {j : Nat} : ∀ {vs : List Nat}, j ∉ vs → (wipe σ vs)[j]? = σ[j]?
  | [], _ => rfl
  | v :: vs, h => by
    show ((wipe σ vs).set v none)[j]? = _
    rw [set_ne fun e => h (by rw [e]; exact List.mem_cons_self)]
    exact wipe_out fun z => h (List.mem_cons_of_mem _ z)
theorem wipeE_in {ρ : Ev} {j : Nat} : ∀ {vs : List Nat}, j ∈ vs → j < ρ.length → (wipeE ρ vs)[j]? = some .no
  | v :: vs, h, lt => by
    show ((wipeE ρ vs).set v .no)[j]? = some .no
    by_cases e : v = j
    · subst e
      exact set_at (by rw [wipeE_len]; exact lt)
    · rw [set_ne e]
      refine wipeE_in ?_ lt
      rcases List.mem_cons.mp h with z | z
      · exact absurd z.symm e
      · exact z
theorem wipeE_out {ρ : Ev} {j : Nat} : ∀ {vs : List Nat}, j ∉ vs → (wipeE ρ vs)[j]? = ρ[j]?
  | [], _ => rfl
  | v :: vs, h => by
    show ((wipeE ρ vs).set v .no)[j]? = _
    rw [set_ne fun e => h (by rw [e]; exact List.mem_cons_self)]
    exact wipeE_out fun z => h (List.mem_cons_of_mem _ z)
theorem wipeE_some {ρ : Ev} {j : Nat} {vs : List Nat} {s : Sl} (h : (wipeE ρ vs)[j]? = some s) (ne : s ≠ .no) : j ∉ vs ∧ ρ[j]? = some s := by
  have lt : j < ρ.length := by
    have := (List.getElem?_eq_some_iff.mp h).1
    rw [wipeE_len] at this
    exact this
  by_cases z : j ∈ vs
  · rw [wipeE_in z lt] at h
    cases h
    exact absurd rfl ne
  · rw [wipeE_out z] at h
    exact ⟨z, h⟩
theorem mixE_in {ρ0 ρ : Ev} {j : Nat} (l0 : ρ0.length = ρ.length) : ∀ {vs : List Nat}, j ∈ vs → j < ρ.length → (mixE ρ0 ρ vs)[j]? = ρ0[j]?
  | v :: vs, h, lt => by
    show ((mixE ρ0 ρ vs).set v _)[j]? = _
    by_cases e : v = j
    · subst e
      rw [set_at (by rw [mixE_len]; exact lt), List.getD_eq_getElem?_getD, List.getElem?_eq_getElem (by omega)]
      rfl
    · rw [set_ne e]
      refine mixE_in l0 ?_ lt
      rcases List.mem_cons.mp h with z | z
      · exact absurd z.symm e
      · exact z
theorem mixE_out {ρ0 ρ : Ev} {j : Nat} : ∀ {vs : List Nat}, j ∉ vs → (mixE ρ0 ρ vs)[j]? = ρ[j]?
  | [], _ => rfl
  | v :: vs, h => by
    show ((mixE ρ0 ρ vs).set v _)[j]? = _
    rw [set_ne fun e => h (by rw [e]; exact List.mem_cons_self)]
    exact mixE_out fun z => h (List.mem_cons_of_mem _ z)
theorem wipe_eq {σ σ2 : St} {vs : List Nat} (l : σ2.length = σ.length) (h : ∀ j, j ∉ vs → σ2[j]? = (wipe σ vs)[j]?) : wipe σ2 vs = wipe σ vs := by
  apply List.ext_getElem?
  intro j
  by_cases z : j ∈ vs
  · by_cases lt : j < σ.length
    · rw [wipe_in z lt, wipe_in z (by omega)]
    · rw [List.getElem?_eq_none (by rw [wipe_length]; omega), List.getElem?_eq_none (by rw [wipe_length]; omega)]
  · rw [wipe_out z, h j z]
section
variable {K : PySem.W.Frag} {n : Nat} {H H1 H2 H' : Hp} {σ σ1 σ2 σ' : St} {ρ ρ1 ρ2 ρ' : Ev} {vs : List Nat}
theorem Own.wipe {p : Addr} (h : Own (wipe σ vs) (wipeE ρ vs) p) : Own σ ρ p := by
  obtain ⟨i, o, e1, e2⟩ := h
  obtain ⟨ni, e3⟩ := wipeE_some e1 (fun z => nomatch z)
  rw [wipe_out ni] at e2
  exact ⟨i, o, e3, e2⟩
theorem Good.wipe (G : Good K H σ ρ) (vs : List Nat) : Good K H (wipe σ vs) (wipeE ρ vs) := by
  refine ⟨by rw [wipe_length, wipeE_len, G.len], fun i d h => ?_, fun i o h => ?_, fun i j o o' p h1 h2 h3 h4 => ?_, G.tab, fun i c f d h => ?_⟩
  · obtain ⟨ni, e⟩ := wipeE_some h (fun z => nomatch z)
    rw [wipe_out ni]
    exact G.dat i d e
  · obtain ⟨ni, e⟩ := wipeE_some h (fun z => nomatch z)
    rw [wipe_out ni]
    exact G.own i o e
  · obtain ⟨ni, e1⟩ := wipeE_some h1 (fun z => nomatch z)
    obtain ⟨nj, e2⟩ := wipeE_some h2 (fun z => nomatch z)
    rw [wipe_out ni] at h3
    rw [wipe_out nj] at h4
    exact G.dif i j o o' p e1 e2 h3 h4
  · obtain ⟨ni, e⟩ := wipeE_some h (fun z => nomatch z)
    rw [wipe_out ni]
    exact G.exc i c f d e
theorem Stp.wiped (s : Stp K n H σ ρ H' σ' ρ') (hv : ∀ v ∈ vs, n ≤ v) : Stp K n H σ ρ H' (wipe σ' vs) (wipeE ρ' vs) := by
  refine ⟨s.good.wipe vs, fun i hi => ?_, s.kept, fun p h => s.news p h.wipe, s.live⟩
  have ni : i ∉ vs := fun z => by
    have := hv i z
    omega
  rw [wipe_out ni, wipeE_out ni]
  exact s.par i hi
/-- behind a comprehension: its own names are as they were ahead -/
theorem Stp.mixed (G : Good K H σ ρ) (hv : ∀ v ∈ vs, n ≤ v) (ho : ∀ v ∈ vs, ∀ o, ρ[v]? ≠ some (.own o)) (s : Stp K n H (wipe σ vs) (wipeE ρ vs) H' (wipe σ vs) ρ') : Stp K n H σ ρ H' σ (mixE ρ ρ' vs) := by
  have l : ρ.length = ρ'.length := by
    have := s.good.len
    rw [wipe_length, G.len] at this
    exact this
  have g := s.grow (G.wipe vs)
  have own : ∀ i o, (mixE ρ ρ' vs)[i]? = some (.own o) → i ∉ vs ∧ ρ'[i]? = some (.own o) := fun i o h => by
    by_cases z : i ∈ vs
    · rw [mixE_in l z (by have := (List.getElem?_eq_some_iff.mp h).1; rw [mixE_len] at this; exact this)] at h
      exact absurd h (ho i z o)
    · rw [mixE_out z] at h
      exact ⟨z, h⟩
  have own2 : ∀ p, Own σ (mixE ρ ρ' vs) p → Own (wipe σ vs) ρ' p := fun p h => by
    obtain ⟨i, o, e1, e2⟩ := h
    obtain ⟨z, e3⟩ := own i o e1
    exact ⟨i, o, e3, by rw [wipe_out z]; exact e2⟩
  have ow3 : ∀ p, Own σ ρ p → Own (wipe σ vs) (wipeE ρ vs) p := fun p h => by
    obtain ⟨i, o, e1, e2⟩ := h
    have z : i ∉ vs := fun z => ho i z o e1
    exact ⟨i, o, by rw [wipeE_out z]; exact e1, by rw [wipe_out z]; exact e2⟩
  refine ⟨⟨by rw [mixE_len, ← l, G.len], fun i d h => ?_, fun i o h => ?_, fun i j o o' p h1 h2 h3 h4 => ?_, s.good.tab, fun i c f d h => ?_⟩, fun i hi => ⟨rfl, fun o h => ?_⟩, fun b o h nb => s.kept b o h fun z => nb z.wipe, fun p h => ?_, s.live⟩
  · by_cases z : i ∈ vs
    · rw [mixE_in l z (by have := (List.getElem?_eq_some_iff.mp h).1; rw [mixE_len] at this; exact this)] at h
      obtain ⟨v, e, im⟩ := G.dat i d h
      exact ⟨v, e, im.grow g⟩
    · rw [mixE_out z] at h
      obtain ⟨v, e, im⟩ := s.good.dat i d h
      rw [wipe_out z] at e
      exact ⟨v, e, im⟩
  · obtain ⟨z, e⟩ := own i o h
    obtain ⟨p, u, e1, e2⟩ := s.good.own i o e
    rw [wipe_out z] at e1
    exact ⟨p, u, e1, e2⟩
  · obtain ⟨z1, e1⟩ := own i o h1
    obtain ⟨z2, e2⟩ := own j o' h2
    exact s.good.dif i j o o' p e1 e2 (by rw [wipe_out z1]; exact h3) (by rw [wipe_out z2]; exact h4)
  · by_cases z : i ∈ vs
    · rw [mixE_in l z (by have := (List.getElem?_eq_some_iff.mp h).1; rw [mixE_len] at this; exact this)] at h
      exact (G.exc i c f d h).elim fun a q => ⟨a, q.1, q.2.grow g⟩
    · rw [mixE_out z] at h
      obtain ⟨v, e, im⟩ := s.good.exc i c f d h
      rw [wipe_out z] at e
      exact ⟨v, e, im⟩
  · have z : i ∉ vs := fun z => by
      have := hv i z
      omega
    rw [mixE_out z]
    exact (s.par i hi).2 o (by rw [wipeE_out z]; exact h)
  · rcases s.news p (own2 p h) with z | z
    · exact .inl z.wipe
    · exact .inr z
/-- a thing beside the slots is changed -/
theorem Stp.beside (s : Stp K n H σ ρ H' σ' ρ') {p : Addr} {h u : HO} (np : H p = none) (e : H' p = some h) (m : Mut (some h)) (nt : NoTab h) (no : ¬ Own σ' ρ' p) : Stp K n H σ ρ (upd H' p u) σ' ρ' := by
  refine ⟨s.good.grow (grow_upd e m (noTab_code nt)) (fun q o hq eq => ?_) (TabOk.upd e m nt), s.par, fun b o eb nb nt => ?_, s.news, fun b hb => s.live b (live_upd e b hb)⟩
  · rw [upd_ne fun z => no (by rw [← z]; exact hq)]
    exact eq
  · rw [upd_ne (ne_of_none eb np)]
    exact s.kept b o eb nb nt
end
abbrev W0 : XW := fun _ _ _ _ => False
@[simp] def Rt.bnd {α β : Type} : Rt α → (α → Ev → Rt β) → Rt β
  | .ok a ρ, k => k a ρ
  | _, _ => .no
def compD (g : Tg) (t : Mo Bool) (e : Mo R) (vs : List Nat) : List D → Mo (List D)
  | [], ρ => .ok [] ρ
  | d :: ds, ρ => match g d ρ with
    | none => .no
    | some ρ1 => (t ρ1).bnd fun b ρ2 => if b = true then (e ρ2).bnd fun r ρ3 => match r with
        | .d x => (compD g t e vs ds (wipeE ρ3 vs)).bnd fun xs ρ4 => .ok (x :: xs) ρ4
        | .v _ => .no
      else compD g t e vs ds (wipeE ρ2 vs)
@[simp] def noOwn (ρ : Ev) : List Nat → Bool
  | [] => true
  | v :: vs => (match ρ[v]? with
    | some (.own _) => false
    | _ => true) && noOwn ρ vs
theorem noOwn_at {ρ : Ev} : ∀ {vs : List Nat}, noOwn ρ vs = true → ∀ v ∈ vs, ∀ o, ρ[v]? ≠ some (.own o)
  | v :: vs, h, w, hw, o, e => by
    have h : ((match ρ[v]? with
      | some (.own _) => false
      | _ => true) && noOwn ρ vs) = true := h
    rw [Bool.and_eq_true] at h
    rcases List.mem_cons.mp hw with z | z
    · rw [← z, e] at h
      exact absurd h.1 Bool.false_ne_true
    · exact noOwn_at h.2 w z o e
@[simp] def fComp (it : Mo (List D)) (g : Tg) (t : Mo Bool) (e : Mo R) (vs : List Nat) : Mo Ob := fun ρ => (it ρ).bind fun ds ρ1 => if ds.length ≤ sizeLine ∧ noOwn ρ1 vs = true then (compD g t e vs ds (wipeE ρ1 vs)).bnd fun xs ρ2 => .ok (.lst xs) (mixE ρ1 ρ2 vs) else .no
@[simp] def bYes : Mo Bool := fun ρ => .ok true ρ
theorem xts_nil {X : Cx} {n : Nat} {W : XW} : PTs X [] (tXb X.K n W bYes) := ⟨fun pins s σ H Q I ⟨ρ, G, h⟩ => (pts_nil (X := X)).run pins s σ H Q I (Aft.ok G h)⟩
theorem xts_one {X : Cx} {n : Nat} {W : XW} {c : Expr} {f : Mo Bool} (h : XB X n W c f) : PTs X [c] (tXb X.K n W f) := pts_one h
section
variable {X : Cx} {n : Nat} {W : XW} {tg : Expr}
theorem comp_run {K : PySem.W.Frag} {is vs : List Nat} {it : Mo (List D)} {g : Tg} {t : Mo Bool} {e : Mo R} (his : ∀ i ∈ is, i ∈ vs) (hn : ∀ v ∈ vs, n ≤ v) (σ : St) (H : Hp) (Q : VK) (h : tF K n W (fComp it g t e vs) σ H Q) : tLc (tI K n W it) (tG K n is g) (tXb K n W0 t) (tX K n W0 e) vs σ H Q := by
  obtain ⟨ρ, G, h⟩ := h
  refine ⟨ρ, G, (Aft.bind h).mono fun ds ρ1 H1 s1 h1 J wk D hD => ?_⟩
  split at h1
  case isFalse => exact h1.elim
  case isTrue hc =>
  obtain ⟨hl, hno⟩ := hc
  have sD := same_upd (o := .lst []) hD
  have no1 : ¬ Own (wipe σ vs) (wipeE ρ1 vs) D := fun z => new_own s1.good hD z.wipe
  have stD : Stp K n H1 (wipe σ vs) (wipeE ρ1 vs) (upd H1 D (.lst [])) (wipe σ vs) (wipeE ρ1 vs) := Stp.same (s1.good.wipe vs) sD
  refine lc_it wk (fun i H' => ∃ ρ' acc ads, Stp K n H1 (wipe σ vs) (wipeE ρ1 vs) H' (wipe σ vs) ρ' ∧ H' D = some (.lst acc) ∧ ImL K H' acc ads ∧ acc.length ≤ i ∧ ¬ Own (wipe σ vs) ρ' D ∧
      ∃ xs ρ2, compD g t e vs (ds.drop i) ρ' = .ok xs ρ2 ∧ compD g t e vs ds (wipeE ρ1 vs) = .ok (ads ++ xs) ρ2) ?_ (fun i H' _ hP => ?_) (fun i x H' H2 hi hP hY => ?_) (fun H' hP => ?_)
  · cases ec : compD g t e vs ds (wipeE ρ1 vs) with
    | no =>
      rw [ec] at h1
      exact h1.elim
    | ex c d ρ' =>
      rw [ec] at h1
      exact h1.elim
    | ok xs ρ2 => exact ⟨_, [], [], stD, upd_same, .nil, Nat.le_refl _, no1, xs, ρ2, ec, rfl⟩
  · obtain ⟨ρ', acc, ads, st, _⟩ := hP
    exact st.grow (s1.good.wipe vs)
  · obtain ⟨ρ', acc, ads, st, eD, im, la, no, xs, ρ2, ec, et⟩ := hP
    obtain ⟨sm, d, ed, imx⟩ := hY
    have lt : i < ds.length := hi
    have es : ds.drop i = d :: ds.drop (i + 1) := by
      rw [List.drop_eq_getElem_cons lt]
      rw [List.getElem?_eq_getElem lt] at ed
      rw [Option.some.inj ed]
    rw [es] at ec
    have st2 := st.trans (Stp.same st.good sm)
    have eD2 := sm _ _ eD
    have im2 := im.same sm
    -- D is kept by a step
    have keep : ∀ {Ha Hb : Hp} {σa σb : St} {ρa ρb : Ev}, Good K Ha σa ρa → Ha D = some (.lst acc) → ¬ Own σa ρa D → Stp K n Ha σa ρa Hb σb ρb → Hb D = some (.lst acc) ∧ ¬ Own σb ρb D := fun {Ha Hb σa σb ρa ρb} G e no s => by
      refine ⟨s.kept _ _ e no (fun ps z => nomatch z), fun z => ?_⟩
      rcases s.news _ z with z | z
      · exact no z
      · rw [e] at z
        cases z
    unfold compD at ec
    cases eg : g d ρ' with
    | none =>
      rw [eg] at ec
      cases ec
    | some ρ3 =>
      rw [eg] at ec
      refine ⟨ρ', d, st2.good, imx, ρ3, eg, fun σ3 H3 s3 nj l3 => ?_⟩
      have l3 : σ3.length = σ.length := by rw [l3, wipe_length]
      have ew : wipe σ3 vs = wipe σ vs := wipe_eq l3 fun j hj => nj j fun z => hj (his j z)
      refine ⟨ew, ρ3, s3.good, ?_⟩
      obtain ⟨eD3, no3⟩ := keep st2.good eD2 no s3
      have im3 := im2.grow (s3.grow st2.good)
      have st3 := st2.trans s3
      dsimp only at ec
      cases ett : t ρ3 with
      | no =>
        rw [ett] at ec
        cases ec
      | ex c e ρ4 =>
        rw [ett] at ec
        cases ec
      | ok b ρ4 =>
        rw [ett] at ec
        intro H4 s4
        obtain ⟨eD4, no4⟩ := keep s3.good eD3 no3 s4
        have im4 := im3.grow (s4.grow s3.good)
        have st4 := st3.trans s4
        cases b with
        | false =>
          refine iteF ⟨wipeE ρ4 vs, acc, ads, ?_, eD4, im4, by omega, fun z => ?_, xs, ρ2, ec, et⟩
          · have := st4.wiped (vs := vs) hn
            rw [ew] at this
            exact this
          · rw [← ew] at z
            exact no4 z.wipe
        | true =>
          refine iteT ⟨ρ4, s4.good, ?_⟩
          have ec : (e ρ4).bnd (fun r ρ3 => match r with
            | .d x => (compD g t e vs (ds.drop (i + 1)) (wipeE ρ3 vs)).bnd fun xs ρ4 => .ok (x :: xs) ρ4
            | .v _ => .no) = .ok xs ρ2 := ec
          cases ee : e ρ4 with
          | no =>
            rw [ee] at ec
            cases ec
          | ex c f ρ5 =>
            rw [ee] at ec
            cases ec
          | ok r ρ5 =>
            rw [ee] at ec
            intro H5 s5 v rv
            obtain ⟨eD5, no5⟩ := keep s4.good eD4 no4 s5
            have im5 := im4.grow (s5.grow s4.good)
            have st5 := st4.trans s5
            cases rv with
            | v _ => cases ec
            | @d x imv =>
              have ec : (compD g t e vs (ds.drop (i + 1)) (wipeE ρ5 vs)).bnd (fun xs ρ4 => .ok (x :: xs) ρ4) = .ok xs ρ2 := ec
              cases er : compD g t e vs (ds.drop (i + 1)) (wipeE ρ5 vs) with
              | no =>
                rw [er] at ec
                cases ec
              | ex c f ρ6 =>
                rw [er] at ec
                cases ec
              | ok ys ρ6 =>
                rw [er] at ec
                cases ec
                have gu : Grow H5 (upd H5 D (.lst (acc ++ [v]))) := grow_upd eD5 trivial (noTab_code (h := .lst _) trivial)
                refine ⟨acc, eD5, by omega, wipeE ρ5 vs, acc ++ [v], ads ++ [x], ?_, upd_same, (im5.append (.cons imv .nil)).grow gu, by rw [List.length_append]; show acc.length + 1 ≤ _; omega, fun z => ?_, ys, ρ2, er, by rw [et, List.append_assoc]; rfl⟩
                · have := (st5.beside (u := .lst (acc ++ [v])) hD eD5 trivial trivial no5).wiped (vs := vs) hn
                  rw [ew] at this
                  exact this
                · rw [← ew] at z
                  exact no5 z.wipe
  · obtain ⟨ρ', acc, ads, st, eD, im, la, no, xs, ρ2, ec, et⟩ := hP
    rw [List.drop_length] at ec
    cases ec
    rw [List.append_nil] at et
    rw [et] at h1
    have stF := Stp.mixed s1.good hn (noOwn_at hno) st
    refine h1 H' stF D _ (s1.live D hD) eD (.lst im) fun z => ?_
    obtain ⟨j, o, e1, e2⟩ := z
    by_cases w : j ∈ vs
    · have l : ρ1.length = ρ'.length := by
        have a := s1.good.len
        have b := st.good.len
        rw [wipe_length] at b
        omega
      rw [mixE_in l w (by have := (List.getElem?_eq_some_iff.mp e1).1; rw [mixE_len] at this; exact this)] at e1
      exact noOwn_at hno j w o e1
    · rw [mixE_out w] at e1
      exact no ⟨j, o, e1, by rw [wipe_out w]; exact e2⟩
theorem xf_comp {elt iter : Expr} {ifs : List Expr} {scope : Scope} {own : List (Str × Nat)} {is vs : List Nat} {pos : Pos} {it : Mo (List D)} {g : Tg} {t : Mo Bool} {e : Mo R} (hc : X.calm = true) (hN : X.N.Nodup) (hv : vs = own.map (·.2)) (his : ∀ i ∈ is, i ∈ vs) (hn : ∀ v ∈ vs, n ≤ v)
    (hi : XI X n W tg iter it) (ok : BlkOk X.N X.env.scope scope own)
    (hg : ∀ (s : Shared) (H : Hp) (C : Addr) (cl : List (Str × Addr)) (fp : List Addr), PG (X.blk s H scope (compEnvC scope cl C X.env) fp) tg (tG X.K n is g)) (ht : ∀ (s : Shared) (H : Hp) (C : Addr) (cl : List (Str × Addr)) (fp : List Addr), PTs (X.blk s H scope (compEnvC scope cl C X.env) fp) ifs (tXb X.K n W0 t))
    (he : ∀ (s : Shared) (H : Hp) (C : Addr) (cl : List (Str × Addr)) (fp : List Addr), PE (X.blk s H scope (compEnvC scope cl C X.env) fp) elt (tX X.K n W0 e)) (hs : ∀ x, foldedSetIterable iter X.env x = pure x := by intro _; rfl) :
    XF X n W (.ListComp elt [⟨tg, iter, ifs, 0⟩] scope pos) (fComp it g t e vs) := by
  subst hv
  exact weakE (pe_lc hc hN hi ok hg ht he hs) (comp_run his hn)
/-- a thing is locked behind a statement -/
def tSFrz (t : TS) : TS := fun E σ H => t { E with nx := fun σ' H' => ∃ p u, H' p = some u ∧ Mut (some u) ∧ ∀ od, E.nx σ' (upd H' p (.frz od u)) } σ H
theorem ps_frz {st : Stmt} {t : TS} (h : PS X st t) : PS X st (tSFrz t) := by
  refine ⟨fun pins s σ H E I hw => thn (h.run pins s σ H _ I hw) fun f s1 q => ?_⟩
  cases f with
  | next =>
    obtain ⟨σ', H', I', p, u, e, mu, q⟩ := q
    obtain ⟨od, I2⟩ := I'.lock e mu
    exact ⟨σ', _, I2, q od⟩
  | brk => exact q
  | cont => exact q
  | ret u => exact q
theorem setD_run {i : Nat} {m : Mo Ob} {E : Ends} {σ : St} {H : Hp} (hn : n ≤ i) (h : tS X.K n W (bSet i (eLock m)) E σ H) : tF X.K n W m σ H fun v H1 => ∃ p u, H1 p = some u ∧ Mut (some u) ∧ ∀ od, E.nx (σ.set i (some v)) (upd H1 p (.frz od u)) := by
  obtain ⟨ρ, G, h⟩ := h
  refine ⟨ρ, G, ?_⟩
  unfold bSet eLock at h
  generalize m ρ = r at h
  cases r with
  | no => exact h
  | ex c d ρ' => exact fun H' s => h σ H' s
  | ok o ρ1 =>
    intro H1 s1 p u np e r no
    have nd : o.nd = true := by
      cases o with
      | dt _ => exact h.elim
      | _ => rfl
    have h : AftS X.K n W E H σ ρ (nxt (put i (.dat o.d) ρ1)) := by
      cases o with
      | dt _ => cases nd
      | _ => exact h
    refine ⟨p, u, e, r.mut, fun od => ?_⟩
    obtain ⟨s2, im⟩ := lock_new (ob := od) s1 np e r no nd
    obtain ⟨ρ2, e2, q⟩ := AftS.nxt h
    obtain ⟨le, rfl⟩ := put_some e2
    exact q _ _ (s2.set_dat hn le im)
theorem xs_setLcD {i : Nat} {y : Str} {py : Pos} {elt iter : Expr} {ifs : List Expr} {scope : Scope} {own : List (Str × Nat)} {is vs : List Nat} {pos spos : Pos} {it : Mo (List D)} {g : Tg} {t : Mo Bool} {e : Mo R} (hni : n ≤ i) (hy : X.N[i]? = some y) (hyl : X.env.scope.names.lookup y = some .local)
    (hsw : swapsWith (.ListComp elt [⟨tg, iter, ifs, 0⟩] scope pos) (some (.Name y py)) spos.line X.env = pure true) (hc : X.calm = true) (hN : X.N.Nodup) (hv : vs = own.map (·.2)) (his : ∀ i ∈ is, i ∈ vs) (hn : ∀ v ∈ vs, n ≤ v)
    (hi : XI X n W tg iter it) (ok : BlkOk X.N X.env.scope scope own)
    (hg : ∀ (s : Shared) (H : Hp) (C : Addr) (cl : List (Str × Addr)) (fp : List Addr), PG (X.blk s H scope (compEnvC scope cl C X.env) fp) tg (tG X.K n is g)) (ht : ∀ (s : Shared) (H : Hp) (C : Addr) (cl : List (Str × Addr)) (fp : List Addr), PTs (X.blk s H scope (compEnvC scope cl C X.env) fp) ifs (tXb X.K n W0 t))
    (he : ∀ (s : Shared) (H : Hp) (C : Addr) (cl : List (Str × Addr)) (fp : List Addr), PE (X.blk s H scope (compEnvC scope cl C X.env) fp) elt (tX X.K n W0 e)) (hs : ∀ x, foldedSetIterable iter X.env x = pure x := by intro _; rfl) :
    XS X n W (.Assign [.Name y py] (.ListComp elt [⟨tg, iter, ifs, 0⟩] scope pos) spos) (bSet i (eLock (fComp it g t e vs))) := by
  subst hv
  exact weakS (ps_frz (ps_setLc hc hN hy hyl hsw hi ok hg ht he hs)) fun E σ H h => comp_run his hn σ H _ (setD_run hni h)
end
end Q
namespace Q
open PySem PySem.Spec PyProof.Rows L2 Gd
variable [Tbl]
/-! ### defs -/
abbrev Fn := List Sl → Rt Sl
def spD (K : PySem.W.Frag) (F : Fn) : Sp := fun vs H Q _ => ∃ as s as', Good K H (vs.map some) as ∧ F as = .ok s as' ∧ ∀ v H', Stp K vs.length H (vs.map some) as H' (vs.map some) as' → SR K H H' (vs.map some) as' v s → Q v H'
@[simp] def fin (n : Nat) (ρ : Ev) : Out → Rt Sl
  | .nx => .ok (.dat .none) (ρ.take n)
  | .rt (.d x) => .ok (.dat x) (ρ.take n)
  | .rt (.v i) => if n ≤ i then match ρ[i]? with
      | some (.own o) => .ok (.own o) (ρ.take n)
      | _ => .no
    else .no
  | .rf o => .ok (.own o) (ρ.take n)
  | _ => .no
@[simp] def fnOf (n N : Nat) (b : Mo Out) : Fn := fun as => if as.length = n then (b (as ++ List.replicate (N - n) .no)).bnd fun o ρ => fin n ρ o else .no
section
variable {K : PySem.W.Frag} {n : Nat} {H H' : Hp} {σ σ' : St} {ρ ρ' : Ev}
theorem Good.pad (G : Good K H σ ρ) (m : Nat) : Good K H (σ ++ List.replicate m none) (ρ ++ List.replicate m .no) := by
  have get : ∀ {i : Nat} {s : Sl}, (ρ ++ List.replicate m Sl.no)[i]? = some s → s ≠ .no → i < ρ.length ∧ ρ[i]? = some s := fun {i s} h ne => by
    by_cases lt : i < ρ.length
    · rw [List.getElem?_append_left lt] at h
      exact ⟨lt, h⟩
    · rw [List.getElem?_append_right (by omega)] at h
      have := List.mem_of_getElem? h
      exact absurd (List.mem_replicate.mp this).2 ne
  have sg : ∀ {i : Nat}, i < ρ.length → (σ ++ List.replicate m none)[i]? = σ[i]? := fun {i} lt => List.getElem?_append_left (by rw [G.len]; exact lt)
  refine ⟨by rw [List.length_append, List.length_append, List.length_replicate, List.length_replicate, G.len], fun i d h => ?_, fun i o h => ?_, fun i j o o' p h1 h2 h3 h4 => ?_, G.tab, fun i c f d h => ?_⟩
  · obtain ⟨lt, e⟩ := get h (fun z => nomatch z)
    rw [sg lt]
    exact G.dat i d e
  · obtain ⟨lt, e⟩ := get h (fun z => nomatch z)
    rw [sg lt]
    exact G.own i o e
  · obtain ⟨l1, e1⟩ := get h1 (fun z => nomatch z)
    obtain ⟨l2, e2⟩ := get h2 (fun z => nomatch z)
    rw [sg l1] at h3
    rw [sg l2] at h4
    exact G.dif i j o o' p e1 e2 h3 h4
  · obtain ⟨lt, e⟩ := get h (fun z => nomatch z)
    rw [sg lt]
    exact G.exc i c f d e
theorem Own.pad {m : Nat} {p : Addr} (l : σ.length = ρ.length) (h : Own (σ ++ List.replicate m none) (ρ ++ List.replicate m .no) p) : Own σ ρ p := by
  obtain ⟨i, o, e1, e2⟩ := h
  by_cases lt : i < ρ.length
  · rw [List.getElem?_append_left lt] at e1
    rw [List.getElem?_append_left (by omega)] at e2
    exact ⟨i, o, e1, e2⟩
  · rw [List.getElem?_append_right (by omega)] at e1
    cases (List.mem_replicate.mp (List.mem_of_getElem? e1)).2
theorem take_some {α : Type} {l : List α} {n i : Nat} {a : α} (h : (l.take n)[i]? = some a) : i < n ∧ l[i]? = some a := by
  have lt : i < n := by
    have := (List.getElem?_eq_some_iff.mp h).1
    rw [List.length_take] at this
    omega
  rw [List.getElem?_take_of_lt lt] at h
  exact ⟨lt, h⟩
/-- a body's steps, seen by the caller -/
theorem Stp.unpad {m : Nat} (G : Good K H σ ρ) (ln : ρ.length = n) (s : Stp K n H (σ ++ List.replicate m none) (ρ ++ List.replicate m .no) H' σ' ρ') (l' : n ≤ ρ'.length) : Stp K n H σ ρ H' σ (ρ'.take n) := by
  have sg : ∀ {i : Nat}, i < n → σ'[i]? = σ[i]? := fun {i} lt => ((s.par i lt).1).trans (List.getElem?_append_left (by rw [G.len, ln]; exact lt))
  have ow : ∀ p, Own σ (ρ'.take n) p → Own σ' ρ' p := fun p h => by
    obtain ⟨i, o, e1, e2⟩ := h
    obtain ⟨lt, e⟩ := take_some e1
    exact ⟨i, o, e, by rw [sg lt]; exact e2⟩
  have op : ∀ p, Own σ ρ p → Own (σ ++ List.replicate m none) (ρ ++ List.replicate m .no) p := fun p h => by
    obtain ⟨i, o, e1, e2⟩ := h
    have lt := (List.getElem?_eq_some_iff.mp e1).1
    exact ⟨i, o, by rw [List.getElem?_append_left lt]; exact e1, by rw [List.getElem?_append_left (by rw [G.len]; exact lt)]; exact e2⟩
  refine ⟨⟨by rw [List.length_take, G.len, ln]; omega, fun i d h => ?_, fun i o h => ?_, fun i j o o' p h1 h2 h3 h4 => ?_, s.good.tab, fun i c f d h => ?_⟩, fun i hi => ⟨rfl, fun o h => ?_⟩, fun b o e nb => s.kept b o e fun z => nb (z.pad G.len), fun p h => ?_, s.live⟩
  · obtain ⟨lt, e⟩ := take_some h
    rw [← sg lt]
    exact s.good.dat i d e
  · obtain ⟨lt, e⟩ := take_some h
    rw [← sg lt]
    exact s.good.own i o e
  · obtain ⟨l1, e1⟩ := take_some h1
    obtain ⟨l2, e2⟩ := take_some h2
    exact s.good.dif i j o o' p e1 e2 (by rw [sg l1]; exact h3) (by rw [sg l2]; exact h4)
  · obtain ⟨lt, e⟩ := take_some h
    rw [← sg lt]
    exact s.good.exc i c f d e
  · obtain ⟨o', e⟩ := (s.par i hi).2 o (by rw [List.getElem?_append_left (by omega)]; exact h)
    exact ⟨o', by rw [List.getElem?_take_of_lt hi]; exact e⟩
  · rcases s.news p (ow p h) with z | z
    · exact .inl (z.pad G.len)
    · exact .inr z
end
section
variable {P : Program} {w : World} {K : PySem.W.Frag} {mg : Str → Option Value} {base : Heap} {k : Nat} {f : Addr} {fd : FuncData}
theorem okD {x qual : Str} {st : Stmt} {N ps : List Str} {b : Mo Out} (F : Fun K x qual st f fd) (S : FnScope N ps (defScope st)) (hN : ps.length ≤ N.length)
    (B : ∀ (cdv : Value) (A : Around) (outer : List Env) (s : Shared) (H : Hp) (E : XK), fd.code = cdv → A.guards = some [] → Room k (A.deeper (envOfC qual (defScope st) s.heap.objs.size f cdv)) →
      XSs (cxOf CX0 P w K mg base N qual (defScope st) f cdv A outer s H E).nox ps.length W0 (defBody st) b) : FnG P w K mg base (k + 1) f fd ps (spD K (fnOf ps.length N.length b)) := by
  have lenF : ∀ {as : List Sl} {s : Sl} {as' : Ev}, fnOf ps.length N.length b as = .ok s as' → as.length = ps.length := fun {as s as'} e => by
    unfold fnOf at e
    split at e
    · next l => exact l
    · cases e
  refine okG F S (fun vs H Q E ⟨as, s, as', G, e, _⟩ => ?_) (fun cdv A outer s0 H vs Q E hc hg hr h => ?_)
  · have := G.len
    rw [List.length_map, lenF e] at this
    exact this
  · obtain ⟨as, s, as', G, e, q⟩ := h
    have la := lenF e
    have lv : vs.length = ps.length := by
      have := G.len
      rw [List.length_map, la] at this
      exact this
    refine ⟨_, B cdv A outer s0 H E hc hg hr, as ++ List.replicate (N.length - ps.length) .no, ?_, ?_⟩
    · unfold L2.start
      rw [lv]
      exact G.pad _
    · unfold fnOf at e
      rw [if_pos la] at e
      have st0 : L2.start N vs = vs.map some ++ List.replicate (N.length - ps.length) none := by
        unfold L2.start
        rw [lv]
      rw [st0]
      have unp : ∀ {σ' : St} {H' : Hp} {ρ' : Ev}, Stp K ps.length H (vs.map some ++ List.replicate (N.length - ps.length) none) (as ++ List.replicate (N.length - ps.length) .no) H' σ' ρ' → ps.length ≤ ρ'.length := fun {σ' H' ρ'} s => by
        rcases Nat.lt_or_ge ρ'.length ps.length with lt | ge
        · exfalso
          have l1 := s.good.len
          have := (s.par ρ'.length lt).1
          rw [List.getElem?_eq_none (by omega), List.getElem?_append_left (by rw [List.length_map, lv]; exact lt), List.getElem?_map, List.getElem?_eq_getElem (by omega)] at this
          cases this
        · exact ge
      show AftS K ps.length W0 { nx := fun _ H' => Q .non H', rt := Q } H (vs.map some ++ List.replicate (N.length - ps.length) none) (as ++ List.replicate (N.length - ps.length) .no) (b (as ++ List.replicate (N.length - ps.length) .no))
      generalize b (as ++ List.replicate (N.length - ps.length) .no) = z at e
      rw [lv] at q
      cases z with
      | no => cases e
      | ex c d ρ' => cases e
      | ok o ρ' =>
        have e : fin ps.length ρ' o = .ok s as' := e
        cases o with
        | bk => cases e
        | ct => cases e
        | nx =>
          cases e
          intro σ' H' s
          exact q _ _ (s.unpad G la (unp s)) (.dat .non)
        | rf o =>
          cases e
          intro p u σ' H' st np ep r no
          refine q _ _ (st.unpad G la (unp st)) (.own np ep r fun z => no ?_)
          obtain ⟨j, o1, ej, es⟩ := z
          obtain ⟨lj, ej⟩ := take_some ej
          exact ⟨j, o1, ej, by rw [(st.par j lj).1, List.getElem?_append_left (by rw [List.length_map, lv]; exact lj)]; exact es⟩
        | rt r =>
          intro v σ' H' st rv
          cases rv with
          | @d x im =>
            cases e
            exact q _ _ (st.unpad G la (unp st)) (.dat im)
          | @v i ei =>
            unfold fin at e
            dsimp only at e
            split at e
            · next le =>
              split at e
              · next o eo =>
                cases e
                obtain ⟨p, u, e1, e2, r⟩ := st.good.own i o eo
                rw [ei] at e1
                cases e1
                have su := st.unpad G la (unp st)
                refine q _ _ su (.own ?_ e2 r fun z => ?_)
                · rcases st.news p ⟨i, o, eo, ei⟩ with z | z
                  · exfalso
                    obtain ⟨j, o1, ej, es⟩ := z.pad G.len
                    have lj : j < ps.length := by
                      have := (List.getElem?_eq_some_iff.mp ej).1
                      omega
                    obtain ⟨o2, e2⟩ := (st.par j lj).2 o1 (by rw [List.getElem?_append_left (by omega)]; exact ej)
                    have e3 : σ'[j]? = some (some (.ref p)) := by rw [(st.par j lj).1, List.getElem?_append_left (by rw [List.length_map, lv]; exact lj)]; exact es
                    have := st.good.dif i j o o2 p eo e2 ei e3
                    omega
                  · exact z
                · obtain ⟨j, o1, ej, es⟩ := z
                  obtain ⟨lj, ej⟩ := take_some ej
                  have e3 : σ'[j]? = some (some (.ref p)) := by rw [(st.par j lj).1, List.getElem?_append_left (by rw [List.length_map, lv]; exact lj)]; exact es
                  have := st.good.dif i j o o1 p eo ej ei e3
                  omega
              · cases e
            · cases e
end
/-! ### calls -/
@[simp] def argS (ρ : Ev) : List R → Option (List Sl)
  | [] => some []
  | .d x :: rs => (argS ρ rs).map (.dat x :: ·)
  | .v i :: rs => match ρ[i]? with
    | some (.own o) => (argS ρ rs).map (.own o :: ·)
    | _ => none
@[simp] def vIdx : List R → List Nat
  | [] => []
  | .d _ :: rs => vIdx rs
  | .v i :: rs => i :: vIdx rs
@[simp] def backE (ρ : Ev) : List R → List Sl → Ev
  | .d _ :: rs, _ :: ss => backE ρ rs ss
  | .v i :: rs, s :: ss => (backE ρ rs ss).set i s
  | _, _ => ρ
theorem backE_len (ρ : Ev) : ∀ (rs : List R) (ss : List Sl), (backE ρ rs ss).length = ρ.length
  | [], _ => rfl
  | .d _ :: _, [] => rfl
  | .v _ :: _, [] => rfl
  | .d _ :: rs, _ :: ss => backE_len ρ rs ss
  | .v i :: rs, s :: ss => by
    show ((backE ρ rs ss).set i s).length = _
    rw [List.length_set, backE_len ρ rs ss]
theorem backE_out (ρ : Ev) : ∀ (rs : List R) (ss : List Sl) {i : Nat}, i ∉ vIdx rs → (backE ρ rs ss)[i]? = ρ[i]?
  | [], _, _, _ => rfl
  | .d _ :: _, [], _, _ => rfl
  | .v _ :: _, [], _, _ => rfl
  | .d _ :: rs, _ :: ss, _, h => backE_out ρ rs ss h
  | .v j :: rs, s :: ss, i, h => by
    show ((backE ρ rs ss).set j s)[i]? = _
    rw [set_ne fun z => h (by rw [z]; exact List.mem_cons_self)]
    exact backE_out ρ rs ss fun z => h (List.mem_cons_of_mem _ z)
theorem backE_in (ρ : Ev) : ∀ (rs : List R) (ss : List Sl) {i : Nat}, (vIdx rs).Nodup → i ∈ vIdx rs → i < ρ.length → rs.length = ss.length → ∃ (k : Nat) (s : Sl), rs[k]? = some (.v i) ∧ ss[k]? = some s ∧ (backE ρ rs ss)[i]? = some s
  | .d _ :: rs, _ :: ss, i, nd, h, lt, l => by
    obtain ⟨k, s, e1, e2, e3⟩ := backE_in ρ rs ss nd h lt (Nat.succ.inj l)
    exact ⟨k + 1, s, e1, e2, e3⟩
  | .v j :: rs, s :: ss, i, nd, h, lt, l => by
    have nd : (j :: vIdx rs).Nodup := nd
    obtain ⟨nj, nd⟩ := List.nodup_cons.mp nd
    by_cases e : j = i
    · subst e
      exact ⟨0, s, rfl, rfl, set_at (by rw [backE_len]; exact lt)⟩
    · have h : i ∈ j :: vIdx rs := h
      rcases List.mem_cons.mp h with z | z
      · exact absurd z.symm e
      · obtain ⟨k, t, e1, e2, e3⟩ := backE_in ρ rs ss nd z lt (Nat.succ.inj l)
        refine ⟨k + 1, t, e1, e2, ?_⟩
        show ((backE ρ rs ss).set j s)[i]? = _
        rw [set_ne e]
        exact e3
theorem argS_len (ρ : Ev) : ∀ {rs : List R} {as : List Sl}, argS ρ rs = some as → rs.length = as.length
  | [], as, h => by
    cases h
    rfl
  | .d x :: rs, as, h => by
    have h : (argS ρ rs).map (.dat x :: ·) = some as := h
    cases e : argS ρ rs with
    | none =>
      rw [e] at h
      cases h
    | some bs =>
      rw [e] at h
      cases h
      rw [List.length_cons, List.length_cons, argS_len ρ e]
  | .v i :: rs, as, h => by
    unfold argS at h
    split at h
    · cases e : argS ρ rs with
      | none =>
        rw [e] at h
        cases h
      | some bs =>
        rw [e] at h
        cases h
        rw [List.length_cons, List.length_cons, argS_len ρ e]
    · cases h
theorem argS_at (ρ : Ev) : ∀ {rs : List R} {as : List Sl} {k : Nat} {s : Sl}, argS ρ rs = some as → as[k]? = some s → (∃ x, rs[k]? = some (.d x) ∧ s = .dat x) ∨ ∃ i o, rs[k]? = some (.v i) ∧ ρ[i]? = some (.own o) ∧ s = .own o
  | [], as, k, s, h, e => by
    cases h
    cases e
  | .d x :: rs, as, k, s, h, e => by
    have h : (argS ρ rs).map (.dat x :: ·) = some as := h
    cases e1 : argS ρ rs with
    | none =>
      rw [e1] at h
      cases h
    | some bs =>
      rw [e1] at h
      cases h
      cases k with
      | zero =>
        cases e
        exact .inl ⟨x, rfl, rfl⟩
      | succ k => exact argS_at ρ (k := k) e1 e
  | .v i :: rs, as, k, s, h, e => by
    unfold argS at h
    split at h
    · next o eo =>
      cases e1 : argS ρ rs with
      | none =>
        rw [e1] at h
        cases h
      | some bs =>
        rw [e1] at h
        cases h
        cases k with
        | zero =>
          cases e
          exact .inr ⟨i, o, rfl, eo, rfl⟩
        | succ k => exact argS_at ρ (k := k) e1 e
    · cases h
theorem vIdx_mem : ∀ {rs : List R} {k i : Nat}, rs[k]? = some (.v i) → i ∈ vIdx rs
  | .d x :: rs, 0, i, h => by cases h
  | .d x :: rs, k + 1, i, h => vIdx_mem (rs := rs) (k := k) h
  | .v j :: rs, 0, i, h => by
    cases h
    exact List.mem_cons_self
  | .v j :: rs, k + 1, i, h => List.mem_cons_of_mem _ (vIdx_mem (rs := rs) (k := k) h)
theorem vIdx_uniq : ∀ {rs : List R} {k l i : Nat}, (vIdx rs).Nodup → rs[k]? = some (.v i) → rs[l]? = some (.v i) → k = l
  | .d x :: rs, 0, _, i, _, h, _ => by cases h
  | .d x :: rs, _ + 1, 0, i, _, _, h => by cases h
  | .d x :: rs, k + 1, l + 1, i, nd, h, h' => by rw [vIdx_uniq (rs := rs) (k := k) (l := l) nd h h']
  | .v j :: rs, 0, 0, i, _, _, _ => rfl
  | .v j :: rs, 0, l + 1, i, nd, h, h' => by
    cases h
    exact absurd (vIdx_mem (rs := rs) (k := l) h') (List.nodup_cons.mp (show (j :: vIdx rs).Nodup from nd)).1
  | .v j :: rs, k + 1, 0, i, nd, h, h' => by
    cases h'
    exact absurd (vIdx_mem (rs := rs) (k := k) h) (List.nodup_cons.mp (show (j :: vIdx rs).Nodup from nd)).1
  | .v j :: rs, k + 1, l + 1, i, nd, h, h' => by rw [vIdx_uniq (rs := rs) (k := k) (l := l) (List.nodup_cons.mp (show (j :: vIdx rs).Nodup from nd)).2 h h']
theorem RRs.at {K : PySem.W.Frag} {H : Hp} {σ : St} : ∀ {vs : List V} {rs : List R} {k : Nat} {r : R}, RRs K H σ vs rs → rs[k]? = some r → ∃ v, vs[k]? = some v ∧ RR K H σ v r
  | _, _, 0, _, .cons h _, e => by
    cases e
    exact ⟨_, rfl, h⟩
  | _, _, k + 1, _, .cons _ r, e => RRs.at (k := k) r e
section
variable {K : PySem.W.Frag} {n : Nat} {H H' : Hp} {σ : St} {ρ : Ev} {vs : List V} {rs : List R} {as as' : List Sl}
theorem args_good (G : Good K H σ ρ) (rv : RRs K H σ vs rs) (ea : argS ρ rs = some as) (nd : (vIdx rs).Nodup) : Good K H (vs.map some) as := by
  have la := argS_len ρ ea
  refine ⟨by rw [List.length_map, rv.len, la], fun k d h => ?_, fun k o h => ?_, fun k l o o' p h1 h2 h3 h4 => ?_, G.tab, fun k c f d h => ?_⟩
  · rcases argS_at ρ ea h with ⟨x, e, z⟩ | ⟨i, o, e, _, z⟩
    · cases z
      obtain ⟨v, ev, r⟩ := rv.at e
      cases r with
      | d im => exact ⟨v, by rw [List.getElem?_map, ev]; rfl, im⟩
    · cases z
  · rcases argS_at ρ ea h with ⟨x, e, z⟩ | ⟨i, o1, e, eo, z⟩
    · cases z
    · cases z
      obtain ⟨v, ev, r⟩ := rv.at e
      cases r with
      | v ei =>
        obtain ⟨p, u, e1, e2, r⟩ := G.own i o eo
        rw [ei] at e1
        cases e1
        exact ⟨p, u, by rw [List.getElem?_map, ev]; rfl, e2, r⟩
  · rcases argS_at ρ ea h1 with ⟨x, e, z⟩ | ⟨i, o1, e, eo, z⟩
    · cases z
    · rcases argS_at ρ ea h2 with ⟨x, e', z'⟩ | ⟨j, o2, e', eo', z'⟩
      · cases z'
      · obtain ⟨v, ev, r⟩ := rv.at e
        obtain ⟨u, eu, r'⟩ := rv.at e'
        rw [List.getElem?_map, ev] at h3
        rw [List.getElem?_map, eu] at h4
        cases h3
        cases h4
        cases r with
        | v ei => cases r' with
          | v ej =>
            have := G.dif i j o1 o2 p eo eo' ei ej
            subst this
            exact vIdx_uniq nd e e'
  · rcases argS_at ρ ea h with ⟨x, e, z⟩ | ⟨i, o1, e, eo, z⟩
    · cases z
    · cases z
theorem args_own (rv : RRs K H σ vs rs) (ea : argS ρ rs = some as) {p : Addr} (h : Own (vs.map some) as p) : ∃ (i : Nat) (o : Ob) (k : Nat), rs[k]? = some (.v i) ∧ ρ[i]? = some (.own o) ∧ σ[i]? = some (some (.ref p)) := by
  obtain ⟨k, o, e1, e2⟩ := h
  rcases argS_at ρ ea e1 with ⟨x, e, z⟩ | ⟨i, o1, e, eo, z⟩
  · cases z
  · obtain ⟨v, ev, r⟩ := rv.at e
    rw [List.getElem?_map, ev] at e2
    cases e2
    cases r with
    | v ei => exact ⟨i, o1, k, e, eo, ei⟩
/-- behind a call -/
theorem call_stp (G : Good K H σ ρ) (rv : RRs K H σ vs rs) (ea : argS ρ rs = some as) (nd : (vIdx rs).Nodup) (s : Stp K vs.length H (vs.map some) as H' (vs.map some) as') : Stp K n H σ ρ H' σ (backE ρ rs as') ∧ ∀ p, Own σ (backE ρ rs as') p → Own σ ρ p := by
  have la := argS_len ρ ea
  have lv := rv.len
  have la' : rs.length = as'.length := by
    have := s.good.len
    rw [List.length_map] at this
    omega
  have g := s.grow (args_good G rv ea nd)
  -- a slot that was handed in
  have hand : ∀ {i : Nat}, i ∈ vIdx rs → i < ρ.length → ∃ (o : Ob) (o' : Ob) (p : Addr) (u : HO), ρ[i]? = some (.own o) ∧ (backE ρ rs as')[i]? = some (.own o') ∧ σ[i]? = some (some (.ref p)) ∧ H' p = some u ∧ ObR K H' u o' := fun {i} hi lt => by
    obtain ⟨k, t, e1, e2, e3⟩ := backE_in ρ rs as' nd hi lt la'
    have lk : k < rs.length := (List.getElem?_eq_some_iff.mp e1).1
    obtain ⟨t0, et0⟩ : ∃ t0, as[k]? = some t0 := ⟨_, List.getElem?_eq_getElem (by omega)⟩
    rcases argS_at ρ ea et0 with ⟨x, e, z⟩ | ⟨j, o1, e, eo, z⟩
    · rw [e1] at e
      cases e
    · rw [e1] at e
      cases e
      subst z
      obtain ⟨o', eo'⟩ := (s.par k (by omega)).2 o1 et0
      rw [e2] at eo'
      cases eo'
      obtain ⟨v, ev, r⟩ := rv.at e1
      cases r with
      | v ei =>
        obtain ⟨p, u, f1, f2, f3⟩ := s.good.own k o' e2
        rw [List.getElem?_map, ev] at f1
        cases f1
        exact ⟨o1, o', p, u, eo, e3, ei, f2, f3⟩
  have own : ∀ {i : Nat} {o : Ob}, (backE ρ rs as')[i]? = some (.own o) → ∃ o', ρ[i]? = some (.own o') := fun {i o} h => by
    have lt : i < ρ.length := by
      have := (List.getElem?_eq_some_iff.mp h).1
      rw [backE_len] at this
      exact this
    by_cases hi : i ∈ vIdx rs
    · obtain ⟨o1, _, _, _, e, _⟩ := hand hi lt
      exact ⟨o1, e⟩
    · rw [backE_out ρ rs as' hi] at h
      exact ⟨o, h⟩
  have ow : ∀ {p : Addr}, Own (vs.map some) as p → Own σ ρ p := fun {p} h => by
    obtain ⟨i, o, k, _, e1, e2⟩ := args_own rv ea h
    exact ⟨i, o, e1, e2⟩
  refine ⟨⟨⟨by rw [backE_len, G.len], fun i d h => ?_, fun i o h => ?_, fun i j o o' p h1 h2 h3 h4 => ?_, s.good.tab, fun i c f d h => ?_⟩, fun i hi => ⟨rfl, fun o h => ?_⟩, fun b o e nb => s.kept b o e fun z => nb (ow z), fun p h => ?_, s.live⟩, fun p h => ?_⟩
  · have lt : i < ρ.length := by
      have := (List.getElem?_eq_some_iff.mp h).1
      rw [backE_len] at this
      exact this
    by_cases hi : i ∈ vIdx rs
    · obtain ⟨_, _, _, _, _, e, _⟩ := hand hi lt
      rw [h] at e
      cases e
    · rw [backE_out ρ rs as' hi] at h
      obtain ⟨v, e, im⟩ := G.dat i d h
      exact ⟨v, e, im.grow g⟩
  · have lt : i < ρ.length := by
      have := (List.getElem?_eq_some_iff.mp h).1
      rw [backE_len] at this
      exact this
    by_cases hi : i ∈ vIdx rs
    · obtain ⟨_, o', p, u, _, e, e2, e3, e4⟩ := hand hi lt
      rw [h] at e
      cases e
      exact ⟨p, u, e2, e3, e4⟩
    · rw [backE_out ρ rs as' hi] at h
      obtain ⟨p, u, e1, e2, r⟩ := G.own i o h
      refine ⟨p, u, e1, s.kept p u e2 (fun z => hi ?_) (fun ps z => r.no_tbl z), r.grow g⟩
      obtain ⟨j, o1, k, ek, f1, f2⟩ := args_own rv ea z
      have := G.dif i j o o1 p h f1 e1 f2
      subst this
      exact vIdx_mem ek
  · obtain ⟨a, ha⟩ := own h1
    obtain ⟨b, hb⟩ := own h2
    exact G.dif i j a b p ha hb h3 h4
  · have lt : i < ρ.length := by
      have := (List.getElem?_eq_some_iff.mp h).1
      rw [backE_len] at this
      exact this
    by_cases hi : i ∈ vIdx rs
    · obtain ⟨_, _, _, _, _, e, _⟩ := hand hi lt
      rw [h] at e
      cases e
    · rw [backE_out ρ rs as' hi] at h
      exact (G.exc i c f d h).elim fun a q => ⟨a, q.1, q.2.grow g⟩
  · have lt : i < ρ.length := (List.getElem?_eq_some_iff.mp h).1
    by_cases hv : i ∈ vIdx rs
    · obtain ⟨_, o', _, _, _, e, _⟩ := hand hv lt
      exact ⟨o', e⟩
    · exact ⟨o, by rw [backE_out ρ rs as' hv]; exact h⟩
  · obtain ⟨i, o, e1, e2⟩ := h
    obtain ⟨o', e⟩ := own e1
    exact .inl ⟨i, o', e, e2⟩
  · obtain ⟨i, o, e1, e2⟩ := h
    obtain ⟨o', e⟩ := own e1
    exact ⟨i, o', e, e2⟩
end
@[simp] def nodupB : List Nat → Bool
  | [] => true
  | i :: is => !is.contains i && nodupB is
theorem nodupB_iff : ∀ {is : List Nat}, nodupB is = true → is.Nodup
  | [], _ => List.nodup_nil
  | i :: is, h => by
    have h : (!is.contains i && nodupB is) = true := h
    rw [Bool.and_eq_true, Bool.not_eq_true'] at h
    refine List.nodup_cons.mpr ⟨fun z => ?_, nodupB_iff h.2⟩
    rw [List.contains_iff_mem.mpr z] at h
    exact absurd h.1 (by decide)
@[simp] def applyF (F : Fn) (rs : List R) (ρ : Ev) : Rt Sl := match argS ρ rs with
  | none => .no
  | some as => if nodupB (vIdx rs) = true then (F as).bnd fun s as' => .ok s (backE ρ rs as') else .no
@[simp] def eCall (F : Fn) (m : Mo (List R)) : Mo R := fun ρ => (m ρ).bind fun rs ρ1 => (applyF F rs ρ1).bnd fun s ρ2 => match s with
  | .dat x => .ok (.d x) ρ2
  | _ => .no
@[simp] def fCall (F : Fn) (m : Mo (List R)) : Mo Ob := fun ρ => (m ρ).bind fun rs ρ1 => (applyF F rs ρ1).bnd fun s ρ2 => match s with
  | .own o => .ok o ρ2
  | _ => .no
section
variable {X : Cx} {n : Nat} {W : XW} {k : Nat} {f : Addr} {fd : FuncData} {ps : List Str} {x : Str} {p pos : Pos} {e : Expr} {es : List Expr} {m : Mo (List R)} {F : Fn}
theorem apply_ok {rs : List R} {ρ ρ2 : Ev} {s : Sl} (h : applyF F rs ρ = .ok s ρ2) : ∃ as as', argS ρ rs = some as ∧ (vIdx rs).Nodup ∧ F as = .ok s as' ∧ ρ2 = backE ρ rs as' := by
  unfold applyF at h
  cases e : argS ρ rs with
  | none =>
    rw [e] at h
    cases h
  | some as =>
    rw [e] at h
    have h : (if nodupB (vIdx rs) = true then (F as).bnd fun s as' => .ok s (backE ρ rs as') else .no) = Rt.ok s ρ2 := h
    split at h
    · next nd =>
      cases ef : F as with
      | no =>
        rw [ef] at h
        cases h
      | ex c d q =>
        rw [ef] at h
        cases h
      | ok t q =>
        rw [ef] at h
        cases h
        exact ⟨as, q, rfl, nodupB_iff nd, ef, rfl⟩
    · cases h
theorem xd_call (G : FnG X.prog X.w X.K X.mg X.base k f fd ps (spD X.K F)) (g : X.A.guards = some []) (room : Room k X.A) (hg : Gl X x) (hm : X.mg x = some (.ref f)) (hk : PySem.W.keepIn X.K (.ref f) = true) (hb : Binds X.K fd ps [])
    (ha : XA X n W (e :: es) m) (hdb : (x == ("__debug__" : Str)) = false := by decide) (he : starEach (e :: es) X.env = (false, eval e X.env) :: starEach es X.env := by rfl) (hpl : (backTo pos (starEach es X.env)).any (·.1) = false := by rfl) :
    XD X n W (.Call (.Name x p) (e :: es) [] pos) (eCall F m) := weakE (pe_callG G g room hg hm hk hb ha hdb he hpl) fun σ H Q ⟨ρ, Gd, h⟩ => by
  refine ⟨ρ, Gd, (Aft.bind h).mono fun rs ρ1 H1 s1 h1 vs rvs => ?_⟩
  cases ea : applyF F rs ρ1 with
  | no =>
    rw [ea] at h1
    exact h1.elim
  | ex c d q =>
    rw [ea] at h1
    exact h1.elim
  | ok s ρ2 =>
    rw [ea] at h1
    obtain ⟨as, as', eb, nd, ef, rfl⟩ := apply_ok ea
    cases s with
    | no => exact h1.elim
    | exc _ _ _ => exact h1.elim
    | own o => exact h1.elim
    | dat d =>
      rw [List.append_nil]
      refine ⟨as, _, as', args_good s1.good rvs eb nd, ef, fun v H' st sr => ?_⟩
      cases sr with
      | dat im => exact h1 H' (call_stp s1.good rvs eb nd st).1 v (.d im)
theorem xf_call (G : FnG X.prog X.w X.K X.mg X.base k f fd ps (spD X.K F)) (g : X.A.guards = some []) (room : Room k X.A) (hg : Gl X x) (hm : X.mg x = some (.ref f)) (hk : PySem.W.keepIn X.K (.ref f) = true) (hb : Binds X.K fd ps [])
    (ha : XA X n W (e :: es) m) (hdb : (x == ("__debug__" : Str)) = false := by decide) (he : starEach (e :: es) X.env = (false, eval e X.env) :: starEach es X.env := by rfl) (hpl : (backTo pos (starEach es X.env)).any (·.1) = false := by rfl) :
    XF X n W (.Call (.Name x p) (e :: es) [] pos) (fCall F m) := weakE (pe_callG G g room hg hm hk hb ha hdb he hpl) fun σ H Q ⟨ρ, Gd, h⟩ => by
  refine ⟨ρ, Gd, (Aft.bind h).mono fun rs ρ1 H1 s1 h1 vs rvs => ?_⟩
  cases ea : applyF F rs ρ1 with
  | no =>
    rw [ea] at h1
    exact h1.elim
  | ex c d q =>
    rw [ea] at h1
    exact h1.elim
  | ok s ρ2 =>
    rw [ea] at h1
    obtain ⟨as, as', eb, nd, ef, rfl⟩ := apply_ok ea
    cases s with
    | no => exact h1.elim
    | exc _ _ _ => exact h1.elim
    | dat o => exact h1.elim
    | own o =>
      rw [List.append_nil]
      refine ⟨as, _, as', args_good s1.good rvs eb nd, ef, fun v H' st sr => ?_⟩
      cases sr with
      | own np ep r no =>
        obtain ⟨st2, bk⟩ := call_stp (n := n) s1.good rvs eb nd st
        exact h1 H' st2 _ _ (s1.live _ np) ep r fun z => new_own s1.good np (bk _ z)
end
end Q
namespace Q
open PySem PySem.Spec PyProof.Rows L2 Gd
variable [Tbl]
/-! ### operations on data -/
def rQ2 (K : PySem.W.Frag) (F : D → D → Option D) : R2 := fun x y H Q => ∃ a b d, Vw K H x a ∧ Vw K H y b ∧ F a b = some d ∧ ∀ v H', Same H H' → Im K H' v d → Q v H'
def rQ1 (K : PySem.W.Frag) (F : D → Option D) : V → Hp → VK → Prop := fun x H Q => ∃ a d, Vw K H x a ∧ F a = some d ∧ ∀ v H', Same H H' → Im K H' v d → Q v H'
def rQN (K : PySem.W.Frag) (F : List D → Option D) : List V → Hp → VK → Prop := fun xs H Q => ∃ as d, VwL K H xs as ∧ F as = some d ∧ ∀ v H', Same H H' → Im K H' v d → Q v H'
theorem q2 {K : PySem.W.Frag} {F : D → D → Option D} : Op2 K (rQ2 K F) F := fun x y a b d H Q hx hy e q => ⟨a, b, d, hx, hy, e, q⟩
theorem q1 {K : PySem.W.Frag} {F : D → Option D} : Op1 K (rQ1 K F) F := fun x a d H Q hx e q => ⟨a, d, hx, e, q⟩
theorem qN {K : PySem.W.Frag} {F : List D → Option D} : OpN K (rQN K F) F := fun xs as d H Q hx e q => ⟨as, d, hx, e, q⟩
theorem VwL.one {K : PySem.W.Frag} {H : Hp} {xs : List V} {a : D} (h : VwL K H xs [a]) : ∃ x, xs = [x] ∧ Vw K H x a := by
  cases h with
  | cons h r => cases r; exact ⟨_, rfl, h⟩
theorem VwL.two {K : PySem.W.Frag} {H : Hp} {xs : List V} {a b : D} (h : VwL K H xs [a, b]) : ∃ x y, xs = [x, y] ∧ Vw K H x a ∧ Vw K H y b := by
  cases h with
  | cons h r => cases r with
    | cons h2 r => cases r; exact ⟨_, _, rfl, h, h2⟩
section
variable {X : Cx}
/-- t + u: one of them where the other is empty, else a new one -/
def rCatN (K : PySem.W.Frag) : R2 := fun x y H Q => ∃ a b xs ys, x = .ref a ∧ y = .ref b ∧ SqT K H a xs ∧ SqT K H b ys ∧ xs.length + ys.length ≤ sizeLine ∧ (xs = [] → Q (.ref b) H) ∧ (ys = [] → Q (.ref a) H) ∧ ∀ p o, H p = none → o.dict = none → Q (.ref p) (upd H p (.frz o (.tup (xs ++ ys))))
theorem op_catN : OpR X (binaryOp .Add) (rCatN X.K) := by
  rintro pins s σ H x y v u Q I rx ry ⟨a, b, xs, ys, rfl, rfl, ha, hb, hz, q0, q1, q2⟩
  cases rx
  cases ry
  obtain ⟨its, r1, p1, _⟩ := I.tuple ha
  obtain ⟨its2, r2, p2, _⟩ := I.tuple hb
  by_cases hx : xs = []
  · subst hx
    cases r1
    exact cat_tup0 p1 p2 ⟨.ref b, H, I, rfl, q0 rfl⟩
  · have l12 : (its ++ its2).length ≤ sizeLine := by rw [List.length_append, ← r1.length, ← r2.length]; exact hz
    refine HT.cat_tup p1 p2 (fun z => hx (r1.nil_iff.mp z)) (fun z => ⟨.ref a, H, I, rfl, q1 (r2.nil_iff.mp z)⟩) (fun z => ?_) (by rw [← r1.length, ← r2.length]; exact hz)
    exact new_tup I (by rw [List.length_append]; exact hz) (r1.append r2) q2
@[simp] def addD : D → D → Option D
  | .int i, .int j => some (.int (i + j))
  | .str a, .str b => if a.length + b.length ≤ sizeLine then some (.str (a ++ b)) else none
  | .tuple a, .tuple b => if a.length + b.length ≤ sizeLine then some (.tuple (a ++ b)) else none
  | _, _ => none
theorem o_add : OpR X (binaryOp .Add) (rQ2 X.K addD) := by
  rintro pins s σ H x y v u Q I rx ry ⟨a, b, d, ha, hb, e, q⟩
  cases a with
  | int i => cases b with
    | int j =>
      cases e
      exact op_add pins s σ H x y v u Q I rx ry ⟨i, j, ha.int, hb.int, q _ H (Same.refl H) (.int _)⟩
    | _ => cases e
  | str z => cases b with
    | str w =>
      have e : (if z.length + w.length ≤ sizeLine then some (PyData.str (z ++ w)) else none) = some d := e
      split at e
      · next le =>
        cases e
        exact op_add_str pins s σ H x y v u Q I rx ry ⟨z, w, ha.str, hb.str, le, q _ H (Same.refl H) (.str _)⟩
      · cases e
    | _ => cases e
  | tuple as => cases b with
    | tuple bs =>
      have e : (if as.length + bs.length ≤ sizeLine then some (PyData.tuple (as ++ bs)) else none) = some d := e
      split at e
      · next le =>
        cases e
        obtain ⟨p, xs, rfl, hp, ip⟩ := ha.tupleN
        obtain ⟨r, ys, rfl, hr, ir⟩ := hb.tupleN
        refine op_catN pins s σ H _ _ v u Q I rx ry ⟨p, r, xs, ys, rfl, rfl, hp.sq, hr.sq, by rw [ip.len, ir.len]; exact le, fun z => ?_, fun z => ?_, fun t o ht ho => q _ _ (same_upd ht) (.tup ⟨o, upd_same, ho⟩ ((ip.append ir).same (same_upd ht)))⟩
        · subst z
          cases ip
          exact q _ H (Same.refl H) (.tup hr ir)
        · subst z
          cases ir
          rw [List.append_nil] at q
          exact q _ H (Same.refl H) (.tup hp ip)
      · cases e
    | _ => cases e
  | _ => cases e
@[simp] def subD : D → D → Option D
  | .int i, .int j => some (.int (i - j))
  | _, _ => none
noncomputable def mid (i : Int) : Bool := cb (-(2 ^ 64) < i ∧ i < 2 ^ 64)
noncomputable def mulOk (i j : Int) : Bool := mid i || mid j || cb (i.natAbs.log2 + j.natAbs.log2 < 1000000)
noncomputable def mulD : D → D → Option D
  | .int i, .int j => if mulOk i j = true then some (.int (i * j)) else none
  | _, _ => none
theorem o_mul : OpR X (binaryOp .Mult) (rQ2 X.K mulD) := by
  rintro pins s σ H x y v u Q I rx ry ⟨a, b, d, ha, hb, e, q⟩
  cases a with
  | int i => cases b with
    | int j =>
      have e : (if mulOk i j = true then some (PyData.int (i * j)) else none) = some d := e
      split at e
      · next h =>
        cases e
        unfold mulOk at h
        rw [Bool.or_eq_true, Bool.or_eq_true] at h
        rcases h with (h | h) | h
        · exact op_mul pins s σ H x y v u Q I rx ry ⟨i, j, ha.int, hb.int, .inl (of_cb h), q _ H (Same.refl H) (.int _)⟩
        · exact op_mul pins s σ H x y v u Q I rx ry ⟨i, j, ha.int, hb.int, .inr (of_cb h), q _ H (Same.refl H) (.int _)⟩
        · exact op_mulW pins s σ H x y v u Q I rx ry ⟨i, j, ha.int, hb.int, (of_cb h : i.natAbs.log2 + j.natAbs.log2 < 1000000), q _ H (Same.refl H) (.int _)⟩
      · cases e
    | _ => cases e
  | _ => cases e
noncomputable def powD : D → D → Option D
  | .int i, .int j => if cb (0 ≤ j ∧ j ≤ 1000000 ∧ i.natAbs < 2 ^ 64) = true then some (.int (i ^ j.toNat)) else none
  | _, _ => none
theorem o_pow : OpR X (binaryOp .Pow) (rQ2 X.K powD) := by
  rintro pins s σ H x y v u Q I rx ry ⟨a, b, d, ha, hb, e, q⟩
  cases a with
  | int i => cases b with
    | int j =>
      have e : (if cb (0 ≤ j ∧ j ≤ 1000000 ∧ i.natAbs < 2 ^ 64) = true then some (PyData.int (i ^ j.toNat)) else none) = some d := e
      split at e
      · next h =>
        cases e
        exact op_pow pins s σ H x y v u Q I rx ry ⟨i, j, ha.int, hb.int, of_cb h, q _ H (Same.refl H) (.int _)⟩
      · cases e
    | _ => cases e
  | _ => cases e
noncomputable def fdivD : D → D → Option D
  | .int i, .int j => if cb (j ≠ 0 ∧ j.natAbs < 1073741824) = true then some (.int (i.fdiv j)) else none
  | _, _ => none
theorem o_fdiv : OpR X (binaryOp .FloorDiv) (rQ2 X.K fdivD) := by
  rintro pins s σ H x y v u Q I rx ry ⟨a, b, d, ha, hb, e, q⟩
  cases a with
  | int i => cases b with
    | int j =>
      have e : (if cb (j ≠ 0 ∧ j.natAbs < 1073741824) = true then some (PyData.int (i.fdiv j)) else none) = some d := e
      split at e
      · next h =>
        cases e
        exact op_fdivN pins s σ H x y v u Q I rx ry ⟨i, j, ha.int, hb.int, of_cb h, q _ H (Same.refl H) (.int _)⟩
      · cases e
    | _ => cases e
  | _ => cases e
def modD : D → D → Option D
  | .int i, .int j => if 0 < j then some (.int (i % j)) else none
  | _, _ => none
theorem o_mod : OpR X (binaryOp .Mod) (rQ2 X.K modD) := by
  rintro pins s σ H x y v u Q I rx ry ⟨a, b, d, ha, hb, e, q⟩
  cases a with
  | int i => cases b with
    | int j =>
      have e : (if 0 < j then some (PyData.int (i % j)) else none) = some d := e
      split at e
      · next h =>
        cases e
        exact op_mod pins s σ H x y v u Q I rx ry ⟨i, j, ha.int, hb.int, h, q _ H (Same.refl H) (.int _)⟩
      · cases e
    | _ => cases e
  | _ => cases e
@[simp] def negD : D → Option D
  | .int i => some (.int (-i))
  | _ => none
theorem o_neg : UnR X (unaryOp .USub) (rQ1 X.K negD) := by
  rintro pins s σ H x v Q I rx ⟨a, d, ha, e, q⟩
  cases a with
  | int i =>
    cases e
    exact un_neg pins s σ H x v Q I rx ⟨i, ha.int, q _ H (Same.refl H) (.int _)⟩
  | _ => cases e
/-- an order of numbers, of texts -/
def ordD (f : Int → Int → Bool) (g : Str → Str → Bool) : D → D → Option D
  | .int i, .int j => some (.bool (f i j))
  | .str i, .str j => some (.bool (g i j))
  | _, _ => none
theorem o_ord {op : CmpOp} {f : Int → Int → Bool} {g : Str → Str → Bool} (h1 : OpR X (compareOp op) (rI0 fun i j => .bl (f i j))) (h2 : OpR X (compareOp op) fun x y H Q => ∃ i j, x = .str i ∧ y = .str j ∧ Q (.bl (g i j)) H) : OpR X (compareOp op) (rQ2 X.K (ordD f g)) := by
  rintro pins s σ H x y v u Q I rx ry ⟨a, b, d, ha, hb, e, q⟩
  cases a with
  | int i => cases b with
    | int j =>
      cases e
      exact h1 pins s σ H x y v u Q I rx ry ⟨i, j, ha.int, hb.int, q _ H (Same.refl H) (.bl _)⟩
    | _ => cases e
  | str i => cases b with
    | str j =>
      cases e
      exact h2 pins s σ H x y v u Q I rx ry ⟨i, j, ha.str, hb.str, q _ H (Same.refl H) (.bl _)⟩
    | _ => cases e
  | _ => cases e
def ltD := ordD (fun i j => decide (i < j)) fun i j => decide (i.cps.toList < j.cps.toList)
def leD := ordD (fun i j => decide (i ≤ j)) fun i j => !decide (j.cps.toList < i.cps.toList)
def gtD := ordD (fun i j => decide (j < i)) fun i j => decide (j.cps.toList < i.cps.toList)
def geD := ordD (fun i j => decide (j ≤ i)) fun i j => !decide (i.cps.toList < j.cps.toList)
theorem o_lt : OpR X (compareOp .Lt) (rQ2 X.K ltD) := o_ord op_lt op_lt_str
theorem o_le : OpR X (compareOp .LtE) (rQ2 X.K leD) := o_ord op_le op_le_str
theorem o_gt : OpR X (compareOp .Gt) (rQ2 X.K gtD) := o_ord op_gt op_gt_str
theorem o_ge : OpR X (compareOp .GtE) (rQ2 X.K geD) := o_ord op_ge op_ge_str
/-! ### equality -/
mutual
theorem Im.dp {K : PySem.W.Frag} {H : Hp} : ∀ {v : V} (d : D), Im K H v d → d.canLay0 = true → Dp K H v d
  | _, .none, .non, _ => .non
  | _, .bool b, .bl _, _ => .bl b
  | _, .int i, .int _, _ => .int i
  | _, .str x, .str _, _ => .str x
  | _, .tuple ds, .tup h r, c => .tup h.sq (ImL.dp ds r c)
  | _, .list ds, .lst h r, c => .lst h.sq (ImL.dp ds r c)
  | _, .dict ds, .dic h r, c => by cases c
  | _, .dict _, .scr h, c => by cases c
  | _, .dict _, .prm _ _ _, c => by cases c
theorem ImL.dp {K : PySem.W.Frag} {H : Hp} : ∀ {vs : List V} (ds : List D), ImL K H vs ds → PyData.canLayAll0 ds = true → DpAll K H vs ds
  | _, [], .nil, _ => .nil
  | _, d :: ds, .cons h r, c => by
    have c : (d.canLay0 && PyData.canLayAll0 ds) = true := c
    rw [Bool.and_eq_true] at c
    exact .cons (Im.dp d h c.1) (ImL.dp ds r c.2)
end
theorem Vw.dp {K : PySem.W.Frag} {H : Hp} {v : V} {d : D} (h : Vw K H v d) (c : d.canLay0 = true) : Dp K H v d := by
  cases h with
  | im h => exact Im.dp d h c
  | lst e r => exact .lst (.inl (.inl e)) (ImL.dp _ r c)
  | dic _ _ => cases c
def eqD (a b : D) : Option Bool := if SeqAt.shaped a = true ∧ SeqAt.shaped b = true then some (PyData.eqv a b) else none
def twoS : D → D → Option Bool
  | .str x, .str y => some (x == y)
  | _, _ => none
theorem twoS_some {a b : D} {r : Bool} (h : twoS a b = some r) : ∃ x y, a = .str x ∧ b = .str y ∧ r = (x == y) := by
  unfold twoS at h
  split at h
  · cases h
    exact ⟨_, _, rfl, rfl, rfl⟩
  · cases h
def eqF (a b : D) : Option D := ((eqD a b).or (twoS a b)).map .bool
def neF (a b : D) : Option D := ((eqD a b).or (twoS a b)).map fun r => .bool (!r)
theorem or_some {α : Type} {a b : Option α} {r : α} (h : a.or b = some r) : a = some r ∨ b = some r := by
  cases a with
  | none => exact .inr h
  | some x => exact .inl h
theorem eqD_some {a b : D} {r : Bool} (h : eqD a b = some r) : SeqAt.shaped a = true ∧ SeqAt.shaped b = true ∧ r = PyData.eqv a b := by
  unfold eqD at h
  split at h
  · next c =>
    cases h
    exact ⟨c.1, c.2, rfl⟩
  · cases h
theorem map_some {α β : Type} {f : α → β} {o : Option α} {b : β} (h : o.map f = some b) : ∃ a, o = some a ∧ b = f a := by
  cases o with
  | none => cases h
  | some a =>
    cases h
    exact ⟨a, rfl, rfl⟩
theorem o_eq (hu : X.A.units + 64 < cLine) : OpR X (compareOp .Eq) (rQ2 X.K eqF) := by
  rintro pins s σ H x y v u Q I rx ry ⟨a, b, d, ha, hb, e, q⟩
  obtain ⟨r, e2, rfl⟩ := map_some e
  rcases or_some e2 with e2 | e2
  · obtain ⟨sa, sb, rfl⟩ := eqD_some e2
    exact op_eqD hu pins s σ H x y v u Q I rx ry ⟨a, b, ha.dp (SeqAt.canLay_of_shaped sa), hb.dp (SeqAt.canLay_of_shaped sb), sa, sb, q _ H (Same.refl H) (.bl _)⟩
  · obtain ⟨c, d, rfl, rfl, rfl⟩ := twoS_some e2
    obtain rfl := ha.str
    obtain rfl := hb.str
    refine op_eq pins s σ H _ _ v u Q I rx ry ⟨rfl, ?_⟩
    rw [dec_str]
    exact q _ H (Same.refl H) (.bl _)
theorem o_ne (hu : X.A.units + 64 < cLine) : OpR X (compareOp .NotEq) (rQ2 X.K neF) := by
  rintro pins s σ H x y v u Q I rx ry ⟨a, b, d, ha, hb, e, q⟩
  obtain ⟨r, e2, rfl⟩ := map_some e
  rcases or_some e2 with e2 | e2
  · obtain ⟨sa, sb, rfl⟩ := eqD_some e2
    exact op_neD hu pins s σ H x y v u Q I rx ry ⟨a, b, ha.dp (SeqAt.canLay_of_shaped sa), hb.dp (SeqAt.canLay_of_shaped sb), sa, sb, q _ H (Same.refl H) (.bl _)⟩
  · obtain ⟨c, d, rfl, rfl, rfl⟩ := twoS_some e2
    obtain rfl := ha.str
    obtain rfl := hb.str
    refine op_ne pins s σ H _ _ v u Q I rx ry ⟨rfl, ?_⟩
    rw [dec_str]
    exact q _ H (Same.refl H) (.bl _)
/-! ### x in xs -/
@[simp] def itemsD : D → Option (List D)
  | .tuple ys => some ys
  | .list ys => some ys
  | _ => none
def inD (x y : D) : Option Bool := (itemsD y).bind fun ys => if SeqAt.shaped x = true ∧ PyData.canLayAll0 ys = true then some (ys.any fun z => PyData.eqv z x) else none
def inF (x y : D) : Option D := (inD x y).map .bool
def ninF (x y : D) : Option D := (inD x y).map fun r => .bool (!r)
theorem inD_some {x y : D} {r : Bool} (h : inD x y = some r) : ∃ ys, (y = .tuple ys ∨ y = .list ys) ∧ SeqAt.shaped x = true ∧ PyData.canLayAll0 ys = true ∧ r = ys.any fun z => PyData.eqv z x := by
  unfold inD at h
  cases y with
  | tuple ys =>
    have h : (if SeqAt.shaped x = true ∧ PyData.canLayAll0 ys = true then some (ys.any fun z => PyData.eqv z x) else none) = some r := h
    split at h
    · next c =>
      cases h
      exact ⟨ys, .inl rfl, c.1, c.2, rfl⟩
    · cases h
  | list ys =>
    have h : (if SeqAt.shaped x = true ∧ PyData.canLayAll0 ys = true then some (ys.any fun z => PyData.eqv z x) else none) = some r := h
    split at h
    · next c =>
      cases h
      exact ⟨ys, .inr rfl, c.1, c.2, rfl⟩
    · cases h
  | _ => cases h
theorem o_in (hu : X.A.units + 65 < cLine) : OpR X (compareOp .In) (rQ2 X.K inF) := by
  rintro pins s σ H x y v u Q I rx ry ⟨a, b, d, ha, hb, e, q⟩
  obtain ⟨r, e2, rfl⟩ := map_some e
  obtain ⟨ys, hy, sx, cy, rfl⟩ := inD_some e2
  obtain ⟨as, r1⟩ := Dp.reads I a x v (ha.dp (SeqAt.canLay_of_shaped sx)) rx
  rcases hy with rfl | rfl
  · obtain ⟨bs, r2⟩ := Dp.reads I _ y u (hb.dp cy) ry
    exact SeqAt.in_tuple_reads r2 r1 cy (SeqAt.canLay_of_shaped sx) (room_in_shaped sx hu) ⟨.bl _, H, I, rfl, q _ H (Same.refl H) (.bl _)⟩
  · obtain ⟨bs, r2⟩ := Dp.reads I _ y u (hb.dp cy) ry
    exact SeqAt.in_list_reads r2 r1 cy (SeqAt.canLay_of_shaped sx) (room_in_shaped sx hu) ⟨.bl _, H, I, rfl, q _ H (Same.refl H) (.bl _)⟩
theorem o_nin (hu : X.A.units + 65 < cLine) : OpR X (compareOp .NotIn) (rQ2 X.K ninF) := by
  rintro pins s σ H x y v u Q I rx ry ⟨a, b, d, ha, hb, e, q⟩
  obtain ⟨r, e2, rfl⟩ := map_some e
  obtain ⟨ys, hy, sx, cy, rfl⟩ := inD_some e2
  obtain ⟨as, r1⟩ := Dp.reads I a x v (ha.dp (SeqAt.canLay_of_shaped sx)) rx
  rcases hy with rfl | rfl
  · obtain ⟨bs, r2⟩ := Dp.reads I _ y u (hb.dp cy) ry
    exact SeqAt.notIn_tuple_reads r2 r1 cy (SeqAt.canLay_of_shaped sx) (room_in_shaped sx hu) ⟨.bl _, H, I, rfl, q _ H (Same.refl H) (.bl _)⟩
  · obtain ⟨bs, r2⟩ := Dp.reads I _ y u (hb.dp cy) ry
    exact SeqAt.notIn_list_reads r2 r1 cy (SeqAt.canLay_of_shaped sx) (room_in_shaped sx hu) ⟨.bl _, H, I, rfl, q _ H (Same.refl H) (.bl _)⟩
/-! ### is None, is True -/
@[simp] def noneB : D → Bool
  | .none => true
  | _ => false
@[simp] def isND : D → D → Option D
  | a, .none => some (.bool (noneB a))
  | _, _ => none
@[simp] def notND : D → D → Option D
  | a, .none => some (.bool (!noneB a))
  | _, _ => none
@[simp] def isBD : D → D → Option D
  | .bool a, .bool b => some (.bool (decide (a = b)))
  | _, _ => none
@[simp] def notBD : D → D → Option D
  | .bool a, .bool b => some (.bool (!decide (a = b)))
  | _, _ => none
/-! ### xs[i] -/
def ixD : D → D → Option D
  | .tuple ds, .int i => atI ds i
  | .list ds, .int i => atI ds i
  | .dict [(.none, .list ds)], .int i => atI ds i
  | .str z, .int i => if z.length ≤ sizeLine then (atI z.cps.toList i).map sign else none
  | _, _ => none
theorem atI_im {K : PySem.W.Frag} {H : Hp} {xs : List V} {ds : List D} {i : Int} {d : D} (r : ImL K H xs ds) (h : atI ds i = some d) : ∃ x, atI xs i = some x ∧ Im K H x d := by
  unfold atI at h ⊢
  rw [r.len]
  cases e : ixN ds.length i with
  | none =>
    rw [e] at h
    cases h
  | some j =>
    rw [e] at h
    exact r.at h
theorem kv_none {K : PySem.W.Frag} {H : Hp} {kvs : List (Key × V)} {d : D} (h : ImKV K H kvs [(.none, d)]) : False := by
  generalize e : [(PyData.none, d)] = z at h
  cases h with
  | nil => cases e
  | @cons k _ _ _ _ _ _ =>
    injection e with e1 e2
    injection e1 with e3 e4
    cases k <;> cases e3
theorem vw_scr {K : PySem.W.Frag} {H : Hp} {v : V} {d : D} (h : Vw K H v (.dict [(.none, d)])) : ∃ (a : Addr) (ns : List Int), v = .ref a ∧ d = .list (ns.map PyData.int) ∧ SqL K H a (ns.map V.int) := by
  cases h with
  | im h => cases h with
    | scr h => exact ⟨_, _, rfl, rfl, h.sq⟩
    | dic h r => exact (kv_none r).elim
  | dic h r => exact (kv_none r).elim
theorem ints_im {K : PySem.W.Frag} {H : Hp} : ∀ (ns : List Int), ImL K H (ns.map V.int) (ns.map PyData.int)
  | [] => .nil
  | i :: ns => .cons (.int i) (ints_im ns)
theorem i_ix : IxR X (rQ2 X.K ixD) := by
  rintro value slice pins s σ H x y v u Q I rx ry ⟨a, b, d, ha, hb, e, q⟩ hs
  have seq : ∀ {p : Addr} {xs : List V} {ds : List D} {i : Int}, x = .ref p → SqL X.K H p xs → ImL X.K H xs ds → y = .int i → atI ds i = some d → wpAny (model X.prog X.w) X.A (subscriptTail value slice v u) (EP X pins σ Q) X.xe s := fun {p xs ds i} ex hp ip ey e => by
    subst ex ey
    obtain ⟨z, ez, iz⟩ := atI_im ip e
    exact ix_list value slice pins s σ H _ _ v u Q I rx ry ⟨p, xs, i, z, rfl, rfl, hp, ez, q _ H (Same.refl H) iz⟩ hs
  unfold ixD at e
  split at e
  · obtain ⟨p, xs, rfl, hp, ip⟩ := ha.tuple
    obtain ⟨z, ez, iz⟩ := atI_im ip e
    exact ix_tup value slice pins s σ H _ y v u Q I rx ry ⟨p, xs, _, z, rfl, hb.int, hp, ez, q _ H (Same.refl H) iz⟩ hs
  · obtain ⟨p, xs, rfl, hp, ip⟩ := ha.list
    exact seq rfl hp ip hb.int e
  · obtain ⟨p, ns, rfl, ed, hp⟩ := vw_scr ha
    cases ed
    exact seq rfl hp (ints_im ns) hb.int e
  · split at e
    · next le =>
      obtain ⟨c, ec, rfl⟩ := map_some e
      exact ix_str value slice pins s σ H _ y v u Q I rx ry ⟨_, _, c, ha.str, hb.int, le, ec, q _ H (Same.refl H) (.str _)⟩ hs
    · cases e
  · cases e
theorem xd_ix {n : Nat} {W : XW} {a b : Expr} {pos : Pos} {f g : Mo R} (ha : XD X n W a f) (hb : XD X n W b g) (hs : PlainIx b) : XD X n W (.Subscript a b pos) (e2 ixD f g) := weakE (pe_ix i_ix ha hb hs) (op2_run q2)
end
end Q
namespace Q
open PySem PySem.Spec PyProof.Rows L2 Gd
variable [Tbl]
section
variable {X : Cx} {n : Nat} {W : XW}
/-! ### built-in calls -/
theorem xd_callB {id : String} {F : List D → Option D} {x : Str} {p pos : Pos} {e : Expr} {es : List Expr} {m : Mo (List R)} (hc : CallR X (.builtin id) (rQN X.K F)) (hg : Gl X x) (hm : X.mg x = none) (hv : bootBuiltins x = some (.builtin id)) (ha : XA X n W (e :: es) m) (hn : x ≠ "__name__" := by decide) (hdb : (x == ("__debug__" : Str)) = false := by decide)
    (he : starEach (e :: es) X.env = (false, eval e X.env) :: starEach es X.env := by rfl) (hpl : (backTo pos (starEach es X.env)).any (·.1) = false := by rfl) : XD X n W (.Call (.Name x p) (e :: es) [] pos) (eN F m) := weakE (pe_callB hc hg hm hv ha hn hdb he hpl) (opN_run qN)
theorem xd_callT {T : String} {F : List D → Option D} {x : Str} {p pos : Pos} {e : Expr} {es : List Expr} {m : Mo (List R)} (hc : CallR X (.type T) (rQN X.K F)) (hg : Gl X x) (hm : X.mg x = none) (hv : bootBuiltins x = some (.type T)) (ha : XA X n W (e :: es) m) (hn : x ≠ "__name__" := by decide) (hdb : (x == ("__debug__" : Str)) = false := by decide)
    (he : starEach (e :: es) X.env = (false, eval e X.env) :: starEach es X.env := by rfl) (hpl : (backTo pos (starEach es X.env)).any (·.1) = false := by rfl) : XD X n W (.Call (.Name x p) (e :: es) [] pos) (eN F m) := weakE (pe_callTy hc hg hm hv ha hn hdb he hpl) (opN_run qN)
@[simp] def lenD : List D → Option D
  | [.tuple ds] => some (.int ds.length)
  | [.list ds] => some (.int ds.length)
  | [.dict [(.none, .list ds)]] => some (.int ds.length)
  | [.str z] => if z.length ≤ sizeLine then some (.int z.length) else none
  | _ => none
theorem c_len : CallR X (.builtin "len") (rQN X.K lenD) := by
  rintro pins s σ H xs us Q I r ⟨as, d, hx, e, q⟩
  unfold lenD at e
  split at e
  · cases e
    obtain ⟨x, rfl, h⟩ := hx.one
    obtain ⟨p, ys, rfl, hp, ip⟩ := h.tuple
    refine call_len pins s σ H _ us Q I r ⟨_, _, rfl, .inr ⟨ys, hp, rfl⟩, ?_⟩
    rw [ip.len]
    exact q _ H (Same.refl H) (.int _)
  · cases e
    obtain ⟨x, rfl, h⟩ := hx.one
    obtain ⟨p, ys, rfl, hp, ip⟩ := h.list
    refine call_len pins s σ H _ us Q I r ⟨_, _, rfl, .inl ⟨ys, hp, rfl⟩, ?_⟩
    rw [ip.len]
    exact q _ H (Same.refl H) (.int _)
  · cases e
    obtain ⟨x, rfl, h⟩ := hx.one
    obtain ⟨p, ns, rfl, ed, hp⟩ := vw_scr h
    cases ed
    refine call_len pins s σ H _ us Q I r ⟨_, _, rfl, .inl ⟨_, hp, rfl⟩, ?_⟩
    rw [List.length_map]
    rw [List.length_map] at q
    exact q _ H (Same.refl H) (.int _)
  · split at e
    · next le =>
      cases e
      obtain ⟨x, rfl, h⟩ := hx.one
      cases h.str
      exact call_len pins s σ H _ us Q I r ⟨_, _, rfl, ⟨le, rfl⟩, q _ H (Same.refl H) (.int _)⟩
    · cases e
  · cases e
def boolsD : List D → Option (List Bool)
  | [] => some []
  | .bool b :: ds => (boolsD ds).map (b :: ·)
  | _ :: _ => none
theorem bools_im {K : PySem.W.Frag} {H : Hp} : ∀ {xs : List V} {ds : List D} {bs : List Bool}, ImL K H xs ds → boolsD ds = some bs → xs = bs.map V.bl
  | _, [], bs, .nil, e => by
    cases e
    rfl
  | _, .bool b :: ds, bs, .cons h r, e => by
    cases h
    obtain ⟨cs, e2, rfl⟩ := map_some (show (boolsD ds).map (b :: ·) = some bs from e)
    rw [List.map_cons, bools_im r e2]
  | _, .none :: _, _, .cons _ _, e => by cases e
  | _, .int _ :: _, _, .cons _ _, e => by cases e
  | _, .str _ :: _, _, .cons _ _, e => by cases e
  | _, .list _ :: _, _, .cons _ _, e => by cases e
  | _, .tuple _ :: _, _, .cons _ _, e => by cases e
  | _, .dict _ :: _, _, .cons _ _, e => by cases e
def allD : List D → Option D
  | [.list ds] => (boolsD ds).map fun bs => .bool (bs.all id)
  | _ => none
def anyD : List D → Option D
  | [.list ds] => (boolsD ds).map fun bs => .bool (bs.any id)
  | _ => none
theorem c_all (hc : X.calm = true) : CallR X (.builtin "all") (rQN X.K allD) := by
  rintro pins s σ H xs us Q I r ⟨as, d, hx, e, q⟩
  unfold allD at e
  split at e
  · next ds =>
    obtain ⟨bs, e2, rfl⟩ := map_some e
    obtain ⟨x, rfl, h⟩ := hx.one
    obtain ⟨p, ys, rfl, hp, ip⟩ := h.list
    rw [bools_im ip e2] at hp
    exact cr_all hc pins s σ H _ us Q I r ⟨p, bs, rfl, hp, q _ H (Same.refl H) (.bl _)⟩
  · cases e
@[simp] def tupleD : List D → Option D
  | [.list ds] => some (.tuple ds)
  | [.tuple ds] => some (.tuple ds)
  | _ => none
theorem c_tuple : CallR X (.type "tuple") (rQN X.K tupleD) := by
  rintro pins s σ H xs us Q I r ⟨as, d, hx, e, q⟩
  unfold tupleD at e
  split at e
  · cases e
    obtain ⟨x, rfl, h⟩ := hx.one
    obtain ⟨p, ys, rfl, hp, ip⟩ := h.list
    obtain ⟨u, rfl, rx⟩ := vals1 r
    cases rx
    obtain ⟨its, r', pl, hz⟩ := I.list hp
    have hlen := r'.length
    refine call_tuple_list pl.isList (fun h' kp => ?_) (by simp only [List.size_toArray] <;> omega)
    exact new_tup (I.kept (t' := s.toks) kp) hz r' fun l o hl ho => q _ _ (same_upd hl) (.tup ⟨o, upd_same, ho⟩ (ip.same (same_upd hl)))
  · cases e
    obtain ⟨x, rfl, h⟩ := hx.one
    obtain ⟨p, ys, rfl, hp, ip⟩ := h.tupleN
    exact call_tuple_of pins s σ H _ us Q I r ⟨p, ys, rfl, .inr ⟨hp.sq, q _ H (Same.refl H) (.tup hp ip)⟩⟩
  · cases e
@[simp] def absD : List D → Option D
  | [.int i] => some (.int (if i < 0 then -i else i))
  | _ => none
theorem c_abs : CallR X (.builtin "abs") (rQN X.K absD) := by
  rintro pins s σ H xs us Q I r ⟨as, d, hx, e, q⟩
  unfold absD at e
  split at e
  · cases e
    obtain ⟨x, rfl, h⟩ := hx.one
    cases h.int
    exact call_abs pins s σ H _ us Q I r ⟨_, rfl, q _ H (Same.refl H) (.int _)⟩
  · cases e
@[simp] def max2D : List D → Option D
  | [.int i, .int j] => some (.int (if j > i then j else i))
  | _ => none
@[simp] def min2D : List D → Option D
  | [.int i, .int j] => some (.int (if j < i then j else i))
  | _ => none
theorem c_max2 (hc : X.calm = true) : CallR X (.builtin "max") (rQN X.K max2D) := by
  rintro pins s σ H xs us Q I r ⟨as, d, hx, e, q⟩
  unfold max2D at e
  split at e
  · cases e
    obtain ⟨x, y, rfl, h, h2⟩ := hx.two
    cases h.int
    cases h2.int
    exact call_max2 hc pins s σ H _ us Q I r ⟨_, _, rfl, q _ H (Same.refl H) (.int _)⟩
  · cases e
theorem c_min2 (hc : X.calm = true) : CallR X (.builtin "min") (rQN X.K min2D) := by
  rintro pins s σ H xs us Q I r ⟨as, d, hx, e, q⟩
  unfold min2D at e
  split at e
  · cases e
    obtain ⟨x, y, rfl, h, h2⟩ := hx.two
    cases h.int
    cases h2.int
    exact call_min2 hc pins s σ H _ us Q I r ⟨_, _, rfl, q _ H (Same.refl H) (.int _)⟩
  · cases e
@[simp] def intD : List D → Option D
  | [.int i] => some (.int i)
  | [.bool k] => some (.int (if k then 1 else 0))
  | _ => none
theorem c_int : CallR X (.type "int") (rQN X.K intD) := by
  rintro pins s σ H xs us Q I r ⟨as, d, hx, e, q⟩
  unfold intD at e
  split at e
  · cases e
    obtain ⟨x, rfl, h⟩ := hx.one
    cases h.int
    exact call_int1 pins s σ H _ us Q I r (.inl ⟨_, rfl, q _ H (Same.refl H) (.int _)⟩)
  · cases e
    obtain ⟨x, rfl, h⟩ := hx.one
    cases h.bl
    exact call_int1 pins s σ H _ us Q I r (.inr ⟨_, rfl, q _ H (Same.refl H) (.int _)⟩)
  · cases e
/-! ### repr -/
def reprD : List D → Option D
  | [d] => if d.showable = true ∧ d.hasDict = false ∧ d.depth ≤ 60 ∧ d.shown.length ≤ sizeLine then some (.str d.shown) else none
  | _ => none
mutual
theorem Im.dp2 {K : PySem.W.Frag} {H : Hp} : ∀ {v : V} (d : D), Im K H v d → d.hasDict = false → Dp K H v d
  | _, .none, .non, _ => .non
  | _, .bool b, .bl _, _ => .bl b
  | _, .int i, .int _, _ => .int i
  | _, .str x, .str _, _ => .str x
  | _, .tuple ds, .tup h r, c => .tup h.sq (ImL.dp2 ds r c)
  | _, .list ds, .lst h r, c => .lst h.sq (ImL.dp2 ds r c)
  | _, .dict ds, .dic h r, c => by cases c
  | _, .dict _, .scr h, c => by cases c
  | _, .dict _, .prm _ _ _, c => by cases c
theorem ImL.dp2 {K : PySem.W.Frag} {H : Hp} : ∀ {vs : List V} (ds : List D), ImL K H vs ds → PyData.hasDictAll ds = false → DpAll K H vs ds
  | _, [], .nil, _ => .nil
  | _, d :: ds, .cons h r, c => by
    have c : (d.hasDict || PyData.hasDictAll ds) = false := c
    rw [Bool.or_eq_false_iff] at c
    exact .cons (Im.dp2 d h c.1) (ImL.dp2 ds r c.2)
end
theorem Vw.dp2 {K : PySem.W.Frag} {H : Hp} {v : V} {d : D} (h : Vw K H v d) (c : d.hasDict = false) : Dp K H v d := by
  cases h with
  | im h => exact Im.dp2 d h c
  | lst e r => exact .lst (.inl (.inl e)) (ImL.dp2 _ r c)
  | dic _ _ => cases c
/-! ### isinstance -/
def kind : D → String
  | .none => "NoneType"
  | .bool _ => "bool"
  | .int _ => "int"
  | .str _ => "str"
  | .list _ => "list"
  | .tuple _ => "tuple"
  | .dict [(.none, _)] => "list"
  | .dict ((.bool _, _) :: _) => "tuple"
  | .dict _ => "dict"
theorem vw_ty {K : PySem.W.Frag} {H : Hp} {x : V} {d : D} (h : Vw K H x d) : TyX K H x (.type (kind d)) := by
  have lst : ∀ {a : Addr} {xs : List V}, SqL K H a xs → TyX K H (.ref a) (.type "list") := fun h => by
    rcases h with (h | ⟨o, h⟩) | ⟨o, its, n, h, c, _⟩
    · exact .base (.lst h)
    · exact .base (.frz h)
    · exact .kList h c
  have tup : ∀ {a : Addr} {xs : List V}, SqT K H a xs → TyX K H (.ref a) (.type "tuple") := fun h => by
    rcases h with (h | ⟨o, h⟩) | ⟨o, its, n, h, c, _⟩
    · exact .base (.tup h)
    · exact .fTuple h
    · exact .kTuple h c
  cases h with
  | im h => cases h with
    | non => exact .base .non
    | bl b => exact .base (.bl b)
    | int i => exact .base (.int i)
    | str z => exact .base (.str z)
    | tup h _ => exact tup h.sq
    | prm h _ _ => exact tup h
    | lst h _ => exact lst h.sq
    | scr h => exact lst h.sq
    | @dic a o ks ds h r =>
      have e : kind (.dict ds) = "dict" := by
        cases r with
        | nil => rfl
        | @cons k _ _ _ _ _ r => cases k <;> rfl
      rw [e]
      exact .fDict h
  | lst h _ => exact .base (.lst h)
  | @dic p ks ds h r =>
    have e : kind (.dict ds) = "dict" := by
      cases r with
      | nil => rfl
      | @cons k _ _ _ _ _ r => cases k <;> rfl
    rw [e]
    exact .base (.dK h)
end
end Q
namespace Q
open PySem PySem.Spec PyProof.Rows L2 Gd
variable [Tbl]
theorem sz1000 {n : Nat} (h : n ≤ 1000) : n ≤ sizeLine := Nat.le_trans h (by decide)
/-! ### sorted(t), t a tuple of texts -/
section
variable {prog : Program} {w : World} {A : Around} {E : Value → Shared → Prop} {s : Shared}
end
def rSortT (K : PySem.W.Frag) : List V → Hp → VK → Prop := fun vs H Q => ∃ (a : Addr) (xs : List Str), vs = [V.ref a] ∧ SqT K H a (xs.map V.str) ∧ xs.length < 64 ∧ ∀ (ys : List Str) (p : Addr), ys.Perm xs → sortedS ys = true → H p = none → Q (.ref p) (upd H p (.lst (ys.map V.str)))
/-! ### what sorted rows are -/
def leS (x y : Str) : Prop := x.cps.toList ≤ y.cps.toList
instance (x y : Str) : Decidable (leS x y) := inferInstanceAs (Decidable (x.cps.toList ≤ y.cps.toList))
theorem leS_trans {x y z : Str} (a : leS x y) (b : leS y z) : leS x z := List.le_trans a b
theorem leS_total (x y : Str) : leS x y ∨ leS y x := List.le_total _ _
theorem leS_antisymm {x y : Str} (a : leS x y) (b : leS y x) : x = y := by
  have e : x.cps.toList = y.cps.toList := List.le_antisymm a b
  obtain ⟨xs⟩ := x
  obtain ⟨ys⟩ := y
  have e2 : xs = ys := Array.toList_inj.mp e
  rw [e2]
theorem rising_pw : ∀ (l : List Str) (p : Str), risingS p l = true → (p :: l).Pairwise leS
  | [], p, _ => List.pairwise_singleton _ _
  | x :: r, p, h => by
    have h : (!ltCps x.cps.toList p.cps.toList && risingS x r) = true := h
    rw [Bool.and_eq_true] at h
    have ih := rising_pw r x h.2
    have px : leS p x := by
      have z := h.1
      rw [ltCps_eq] at z
      simp only [Bool.not_eq_true', decide_eq_false_iff_not] at z
      exact z
    refine List.pairwise_cons.mpr ⟨fun y hy => ?_, ih⟩
    rcases List.mem_cons.mp hy with e | hy
    · rw [e]
      exact px
    · exact leS_trans px ((List.pairwise_cons.mp ih).1 y hy)
theorem sorted_pw {l : List Str} (h : sortedS l = true) : l.Pairwise leS := by
  cases l with
  | nil => exact List.Pairwise.nil
  | cons x r => exact rising_pw r x h
/-- the one sorted list -/
def srt (l : List Str) : List Str := l.mergeSort fun a b => decide (leS a b)
theorem srt_perm (l : List Str) : (srt l).Perm l := List.mergeSort_perm l _
theorem srt_pw (l : List Str) : (srt l).Pairwise leS := by
  have h := List.pairwise_mergeSort (le := fun a b => decide (leS a b)) (fun a b c h1 h2 => by
    simp only [decide_eq_true_eq] at h1 h2 ⊢
    exact leS_trans h1 h2) (fun a b => by
    simp only [Bool.or_eq_true, decide_eq_true_eq]
    exact leS_total a b) l
  exact h.imp fun h => of_decide_eq_true h
theorem pw_one {l m : List Str} (p : l.Perm m) (h : l.Pairwise leS) (h' : m.Pairwise leS) : l = m := List.Perm.eq_of_pairwise (fun a b _ _ x y => leS_antisymm x y) h h' p
theorem srt_one {l m : List Str} (p : l.Perm m) (h : sortedS l = true) : l = srt m := pw_one (p.trans (srt_perm m).symm) (sorted_pw h) (srt_pw m)
theorem srt_eq {l m : List Str} (p : l.Perm m) (h : l.Pairwise leS) : l = srt m := pw_one (p.trans (srt_perm m).symm) h (srt_pw m)
theorem srt_mem {l : List Str} {x : Str} : x ∈ srt l ↔ x ∈ l := (srt_perm l).mem_iff
theorem srt_len (l : List Str) : (srt l).length = l.length := (srt_perm l).length_eq
end Q
namespace Q
open PySem PySem.Spec PyProof.Rows L2 Gd
variable [Tbl]
section
variable {X : Cx} {n : Nat} {W : XW}
/-! ### isinstance(x, T) -/
def isiB (T k : String) : Bool := if T = "int" then k == "int" || k == "bool" else k == T
def isiD (T : String) (d : D) : Option D := some (.bool (isiB T (kind d)))
def kits : List String := ["bool", "int", "str", "tuple", "list", "dict"]
theorem kit_all (T : String) (h : T ∈ kits) (d : D) : kitB (kind d) T = some (isiB T (kind d)) := by
  have go : ∀ T ∈ kits, ∀ k ∈ ["NoneType", "bool", "int", "str", "list", "tuple", "dict"], kitB k T = some (isiB T k) := by decide +kernel
  refine go T h (kind d) ?_
  unfold kind
  split <;> simp
theorem xd_isi {T : String} {e : Expr} {p pos q : Pos} {f : Mo R} (hT : T ∈ kits) (hg : Gl X "isinstance") (hm : X.mg "isinstance" = none) (ht : PE X (.Name (Str.ofString T) q) (tC (.ty T))) (he : XD X n W e f)
    (h1 : starEach [e, .Name (Str.ofString T) q] X.env = (false, eval e X.env) :: starEach [.Name (Str.ofString T) q] X.env := by rfl) (h2 : (backTo pos (starEach [.Name (Str.ofString T) q] X.env)).any (·.1) = false := by rfl) (h3 : starEach [.Name (Str.ofString T) q] X.env = (false, eval (.Name (Str.ofString T) q) X.env) :: starEach [] X.env := by rfl) :
    XD X n W (.Call (.Name "isinstance" p) [e, .Name (Str.ofString T) q] [] pos) (e1 (isiD T) f) :=
  weakE (pe_callB call_isi hg hm (by decide +kernel) (pa_cons he (pa_cons ht pa_nil h3) h1) (by decide) (by decide) h1 h2) fun σ H Q h => op1_run (r := fun x H1 Q => rIsi X.K [x, .ty T] H1 Q) (fun x a d H Q hv hf q => by
    cases hf
    exact ⟨x, _, _, _, _, rfl, .ty T, vw_ty hv, kit_ty (kit_all T hT a), q _ H (Same.refl H) (.bl _)⟩) σ H Q h
/-! ### slices -/
def tP (K : PySem.W.Frag) (n : Nat) (W : XW) (m : Mo (Option Int)) : TO := fun σ H Q => ∃ ρ, Good K H σ ρ ∧ Aft K n W H σ ρ (m ρ) fun o _ H' => Q o H'
abbrev XP (X : Cx) (n : Nat) (W : XW) (e : Option Expr) (m : Mo (Option Int)) : Prop := PO X e (tP X.K n W m)
@[simp] def pNo : Mo (Option Int) := fun ρ => .ok none ρ
@[simp] def pSo (f : Mo R) : Mo (Option Int) := fun ρ => (f ρ).bind fun r ρ1 => match look ρ1 r with
  | some (.int i) => .ok (some i) ρ1
  | _ => .no
theorem weakO {e : Option Expr} {t t' : TO} (h : PO X e t) (q : ∀ σ H Q, t' σ H Q → t σ H Q) : PO X e t' := ⟨fun pins s σ H Q I z => h.run pins s σ H Q I (q σ H Q z)⟩
theorem xp_no : XP X n W none pNo := weakO po_none fun σ H Q ⟨ρ, G, h⟩ => Aft.ok G h
theorem xp_so {e : Expr} {f : Mo R} (he : XD X n W e f) : XP X n W (some e) (pSo f) := weakO (po_some he) fun σ H Q ⟨ρ, G, h⟩ => by
  refine ⟨ρ, G, (Aft.bind h).mono fun r ρ1 H1 s1 h1 v rv => ?_⟩
  split at h1
  · next i e => exact ⟨i, (rv.see s1.good e).int, Aft.ok s1.good h1⟩
  · exact h1.elim
def cutL {α : Type} (xs : List α) (lo hi : Option Int) : List α := (xs.drop (HT.sIx xs.length 0 lo)).take (HT.sIx xs.length xs.length hi - HT.sIx xs.length 0 lo)
theorem ImL.cut {K : PySem.W.Frag} {H : Hp} {xs : List V} {ds : List D} (r : ImL K H xs ds) (lo hi : Option Int) : ImL K H (cutV xs lo hi) (cutL ds lo hi) := by
  unfold cutV cutL
  rw [r.len]
  exact (r.drop _).take _
theorem cutL_all {α : Type} (xs : List α) (lo hi : Option Int) (h : HT.sIx xs.length 0 lo = 0 ∧ HT.sIx xs.length xs.length hi = xs.length) : cutL xs lo hi = xs := by
  unfold cutL
  rw [h.1, h.2, List.drop_zero, Nat.sub_zero, List.take_length]
@[simp] def cutD (d : D) (lo hi : Option Int) : Option D := match d with
  | .tuple ds => some (.tuple (cutL ds lo hi))
  | .str z => if z.length ≤ sizeLine then some (.str (cutS z lo hi)) else none
  | _ => none
theorem s_cut : SlR X fun x lo hi H Q => ∃ a d, Vw X.K H x a ∧ cutD a lo hi = some d ∧ ∀ v H', Same H H' → Im X.K H' v d → Q v H' := by
  rintro pins s σ H x v vl vu lo hi sl Q I rx hs pl pu ⟨a, d, ha, e, q⟩
  cases a with
  | tuple ds =>
    cases e
    obtain ⟨p, xs, rfl, hp, ip⟩ := ha.tupleN
    by_cases c : HT.sIx xs.length 0 lo = 0 ∧ HT.sIx xs.length xs.length hi = xs.length
    · refine sl_tupA pins s σ H _ v vl vu lo hi sl Q I rx hs pl pu ⟨p, xs, rfl, hp.sq, fun c => ?_, fun n => absurd c n⟩
      rw [ip.len] at c
      rw [cutL_all ds lo hi c] at q
      exact q _ H (Same.refl H) (.tup hp ip)
    · cases rx
      obtain ⟨its, r, ht, hz⟩ := I.tuple hp.sq
      have hlen : its.toArray.size = xs.length := by rw [List.size_toArray]; exact r.length.symm
      refine ⟨"tuple", _, PyProof.Rows.slot_tuple_getitem.lookup, ht.typeIs, ?_⟩
      refine HT.getItem_tuple_cut ht hs pl pu (by rw [hlen]; exact c) ?_ (by rw [hlen]; exact hz)
      rw [hlen]
      exact new_tup (xs := cutV xs lo hi) I (Nat.le_trans (cutV_length xs lo hi) hz) ((r.drop (HT.sIx xs.length 0 lo)).take (HT.sIx xs.length xs.length hi - HT.sIx xs.length 0 lo)) fun t o ht ho => q _ _ (same_upd ht) (.tup ⟨o, upd_same, ho⟩ ((ip.cut lo hi).same (same_upd ht)))
  | str z =>
    have e : (if z.length ≤ sizeLine then some (PyData.str (cutS z lo hi)) else none) = some d := e
    split at e
    · next le =>
      cases e
      exact sl_str pins s σ H _ v vl vu lo hi sl Q I rx hs pl pu ⟨z, ha.str, le, q _ H (Same.refl H) (.str _)⟩
    · cases e
  | _ => cases e
@[simp] def eSl (f : Mo R) (lo hi : Mo (Option Int)) : Mo R := fun ρ => (f ρ).bind fun r ρ1 => (lo ρ1).bind fun l ρ2 => (hi ρ2).bind fun h ρ3 => lift ((look ρ3 r).bind fun d => cutD d l h) ρ3
theorem xd_sl {e : Expr} {lo hi : Option Expr} {p2 pos : Pos} {f : Mo R} {l h : Mo (Option Int)} (he : XD X n W e f) (hl : XP X n W lo l) (hh : XP X n W hi h) : XD X n W (.Subscript e (.Slice lo hi none p2) pos) (eSl f l h) := weakE (pe_slice s_cut he hl hh) fun σ H Q ⟨ρ, G, h⟩ => by
  refine ⟨ρ, G, (Aft.bind h).mono fun r ρ1 H1 s1 h1 v rv => ⟨ρ1, s1.good, (Aft.bind h1).mono fun l ρ2 H2 s2 h2 => ⟨ρ2, s2.good, (Aft.bind h2).mono fun u ρ3 H3 s3 h3 => ?_⟩⟩⟩
  obtain ⟨d, e, q⟩ := Aft.out s3.good h3
  have g := (s2.grow s1.good).trans (s3.grow s2.good)
  cases ea : look ρ3 r with
  | none =>
    rw [ea] at e
    cases e
  | some x =>
    rw [ea] at e
    exact ⟨x, d, (rv.grow g).see s3.good ea, e, q⟩
/-! ### new lists -/
@[simp] def asL : Option (List D) → Mo Ob := fun o ρ => match o with
  | some ds => .ok (.lst ds) ρ
  | none => .no
theorem new_out {K : PySem.W.Frag} {H0 H : Hp} {σ : St} {ρ : Ev} {o : Option (List D)} {Q : VK} (G : Good K H σ ρ) (h0 : ∀ p, H p = none → H0 p = none) (h : Aft K n W H σ ρ (asL o ρ) fun o _ H' => ∀ p h, H0 p = none → H' p = some h → ObR K H' h o → ¬ Own σ ρ p → Q (.ref p) H') :
    ∃ ds, o = some ds ∧ ∀ p vs, H p = none → ImL K H vs ds → Q (.ref p) (upd H p (.lst vs)) := by
  cases o with
  | none => exact h.elim
  | some ds => exact ⟨ds, rfl, fun p vs hp im => h _ (Stp.same G (same_upd hp)) p _ (h0 p hp) upd_same (.lst (im.same (same_upd hp))) (new_own G hp)⟩
@[simp] def fN (F : List D → Option (List D)) (m : Mo (List R)) : Mo Ob := fun ρ => (m ρ).bind fun rs ρ1 => asL ((looks ρ1 rs).bind F) ρ1
def rFN (K : PySem.W.Frag) (F : List D → Option (List D)) : List V → Hp → VK → Prop := fun xs H Q => ∃ as ds, VwL K H xs as ∧ F as = some ds ∧ ∀ p vs, H p = none → ImL K H vs ds → Q (.ref p) (upd H p (.lst vs))
theorem fN_run {F : List D → Option (List D)} {m : Mo (List R)} (σ : St) (H : Hp) (Q : VK) (h : tF X.K n W (fN F m) σ H Q) : tXs X.K n W m σ H fun xs H1 => rFN X.K F xs H1 Q := by
  obtain ⟨ρ, G, h⟩ := h
  refine ⟨ρ, G, (Aft.bind h).mono fun rs ρ1 H1 s1 h1 vs rvs => ?_⟩
  have h2 : Aft X.K n W H1 σ ρ1 (asL ((looks ρ1 rs).bind F) ρ1) fun o _ H' => ∀ p h, H p = none → H' p = some h → ObR X.K H' h o → ¬ Own σ ρ1 p → Q (.ref p) H' := by
    generalize hz : (looks ρ1 rs).bind F = z at h1 ⊢
    cases z with
    | none => exact h1
    | some ds => exact h1
  obtain ⟨ds, e, q⟩ := new_out s1.good s1.live h2
  cases ea : looks ρ1 rs with
  | none =>
    rw [ea] at e
    cases e
  | some as =>
    rw [ea] at e
    exact ⟨as, ds, rvs.see s1.good ea, e, q⟩
theorem xf_callT {T : String} {F : List D → Option (List D)} {x : Str} {p pos : Pos} {e : Expr} {es : List Expr} {m : Mo (List R)} (hc : CallR X (.type T) (rFN X.K F)) (hg : Gl X x) (hm : X.mg x = none) (hv : bootBuiltins x = some (.type T)) (ha : XA X n W (e :: es) m) (hn : x ≠ "__name__" := by decide) (hdb : (x == ("__debug__" : Str)) = false := by decide)
    (he : starEach (e :: es) X.env = (false, eval e X.env) :: starEach es X.env := by rfl) (hpl : (backTo pos (starEach es X.env)).any (·.1) = false := by rfl) : XF X n W (.Call (.Name x p) (e :: es) [] pos) (fN F m) := weakE (pe_callTy hc hg hm hv ha hn hdb he hpl) fN_run
@[simp] def listD : List D → Option (List D)
  | [.list ds] => some ds
  | [.tuple ds] => some ds
  | _ => none
theorem c_list : CallR X (.type "list") (rFN X.K listD) := by
  rintro pins s σ H xs us Q I r ⟨as, d, hx, e, q⟩
  unfold listD at e
  split at e
  · cases e
    obtain ⟨x, rfl, h⟩ := hx.one
    obtain ⟨p, ys, rfl, hp, ip⟩ := h.list
    exact call_list_of pins s σ H _ us Q I r ⟨p, ys, rfl, .inl hp, fun l hl => q l ys hl ip⟩
  · cases e
    obtain ⟨x, rfl, h⟩ := hx.one
    obtain ⟨p, ys, rfl, hp, ip⟩ := h.tuple
    exact call_list_of pins s σ H _ us Q I r ⟨p, ys, rfl, .inr hp, fun l hl => q l ys hl ip⟩
  · cases e
def strsD : List D → Option (List Str)
  | [] => some []
  | .str x :: ds => (strsD ds).map (x :: ·)
  | _ :: _ => none
theorem strsD_eq : ∀ {ds : List D} {ns : List Str}, strsD ds = some ns → ds = ns.map PyData.str
  | [], ns, e => by
    cases e
    rfl
  | .str x :: ds, ns, e => by
    obtain ⟨cs, e2, rfl⟩ := map_some (show (strsD ds).map (x :: ·) = some ns from e)
    rw [List.map_cons, ← strsD_eq e2]
  | .none :: _, _, e => by cases e
  | .bool _ :: _, _, e => by cases e
  | .int _ :: _, _, e => by cases e
  | .list _ :: _, _, e => by cases e
  | .tuple _ :: _, _, e => by cases e
  | .dict _ :: _, _, e => by cases e
def sortS (ds : List D) : Option (List D) := (strsD ds).bind fun ns => if ns.length < 64 then some ((srt ns).map PyData.str) else none
def sortedD : List D → Option (List D)
  | [.list ds] => sortS ds
  | [.tuple ds] => sortS ds
  | [.dict kvs] => sortS (kvs.map Prod.fst)
  | _ => none
/-! ### list + list, list slices -/
theorem list_rd {K : PySem.W.Frag} {H : Hp} {v : V} {ds : List D} (h : Vw K H v (.list ds)) : ∃ a xs, v = .ref a ∧ Rd H a (.lst xs) ∧ ImL K H xs ds := by
  cases h with
  | im h => cases h with
    | lst h r => exact ⟨_, _, rfl, .inr h, r⟩
  | lst h r => exact ⟨_, _, rfl, .inl h, r⟩
theorem rd_obj {pins : List (Addr × Obj)} {σ : L2.St} {H : Hp} {s : Shared} (I : Inv X pins σ H s) {a : Addr} {xs : List V} (h : Rd H a (.lst xs)) : ∃ (its : List Value) (m : Nat), Vals xs its ∧ s.heap.get? a = some { cls := .type "list", data := .seq its.toArray m } := by
  obtain ⟨_, its, m, r, e⟩ := h.ok I.hok
  exact ⟨its, m, r, e⟩
def cat2 : D → D → Option (List D)
  | .list a, .list b => if a.length + b.length ≤ sizeLine then some (a ++ b) else none
  | _, _ => none
def rF2 (K : PySem.W.Frag) (F : D → D → Option (List D)) : R2 := fun x y H Q => ∃ a b ds, Vw K H x a ∧ Vw K H y b ∧ F a b = some ds ∧ ∀ p vs, H p = none → ImL K H vs ds → Q (.ref p) (upd H p (.lst vs))
theorem o_cat : OpR X (binaryOp .Add) (rF2 X.K cat2) := by
  rintro pins s σ H x y v u Q I rx ry ⟨a, b, d, ha, hb, e, q⟩
  unfold cat2 at e
  split at e
  · split at e
    · next le =>
      cases e
      obtain ⟨p, xs, rfl, hp, ip⟩ := list_rd ha
      obtain ⟨t, ys, rfl, ht, it⟩ := list_rd hb
      cases rx
      cases ry
      obtain ⟨its, m, r, e1⟩ := rd_obj I hp
      obtain ⟨its2, m2, r2, e2⟩ := rd_obj I ht
      have l1 := r.length
      have l2 := r2.length
      have l3 := ip.len
      have l4 := it.len
      refine PySem.P.add_list e1 e2 ?_ (by rw [List.size_toArray, List.size_toArray]; omega)
      have ea : its.toArray ++ its2.toArray = (its ++ its2).toArray := by simp
      rw [ea]
      exact ⟨.ref _, _, I.lnew (t' := s.toks) (r.append r2) (by rw [List.length_append]; omega), rfl, q _ _ I.fresh (ip.append it)⟩
    · cases e
  · cases e
@[simp] def f2 (F : D → D → Option (List D)) (f g : Mo R) : Mo Ob := fun ρ => (f ρ).bind fun a ρ1 => (g ρ1).bind fun b ρ2 => asL ((look ρ2 a).bind fun x => (look ρ2 b).bind fun y => F x y) ρ2
theorem f2_run {F : D → D → Option (List D)} {f g : Mo R} (σ : St) (H : Hp) (Q : VK) (h : tF X.K n W (f2 F f g) σ H Q) : tX X.K n W f σ H fun x H1 => tX X.K n W g σ H1 fun y H2 => rF2 X.K F x y H2 Q := by
  obtain ⟨ρ, G, h⟩ := h
  refine ⟨ρ, G, (Aft.bind h).mono fun a ρ1 H1 s1 h1 v rv => ⟨ρ1, s1.good, (Aft.bind h1).mono fun b ρ2 H2 s2 h2 u ru => ?_⟩⟩
  have h3 : Aft X.K n W H2 σ ρ2 (asL ((look ρ2 a).bind fun x => (look ρ2 b).bind fun y => F x y) ρ2) fun o _ H' => ∀ p h, H p = none → H' p = some h → ObR X.K H' h o → ¬ Own σ ρ2 p → Q (.ref p) H' := by
    generalize ((look ρ2 a).bind fun x => (look ρ2 b).bind fun y => F x y) = z at h2 ⊢
    cases z with
    | none => exact h2
    | some ds => exact h2
  obtain ⟨ds, e, q⟩ := new_out s2.good (fun p hp => s1.live p (s2.live p hp)) h3
  cases ea : look ρ2 a with
  | none =>
    rw [ea] at e
    cases e
  | some x =>
    rw [ea] at e
    cases eb : look ρ2 b with
    | none =>
      rw [eb] at e
      cases e
    | some y =>
      rw [eb] at e
      exact ⟨x, y, ds, (rv.grow (s2.grow s1.good)).see s2.good ea, ru.see s2.good eb, e, q⟩
theorem xf_cat {a b : Expr} {pos : Pos} {f g : Mo R} (ha : XD X n W a f) (hb : XD X n W b g) : XF X n W (.BinOp a .Add b pos) (f2 cat2 f g) := weakE (pe_op o_cat ha hb) f2_run
@[simp] def fSl (f : Mo R) (lo hi : Mo (Option Int)) : Mo Ob := fun ρ => (f ρ).bind fun r ρ1 => (lo ρ1).bind fun l ρ2 => (hi ρ2).bind fun h ρ3 => asL ((look ρ3 r).bind fun d => match d with
  | .list ds => some (cutL ds l h)
  | _ => none) ρ3
theorem xf_sl {e : Expr} {lo hi : Option Expr} {p2 pos : Pos} {f : Mo R} {l h : Mo (Option Int)} (he : XD X n W e f) (hl : XP X n W lo l) (hh : XP X n W hi h) : XF X n W (.Subscript e (.Slice lo hi none p2) pos) (fSl f l h) := weakE (pe_slice sl_list he hl hh) fun σ H Q ⟨ρ, G, h⟩ => by
  refine ⟨ρ, G, (Aft.bind h).mono fun r ρ1 H1 s1 h1 v rv => ⟨ρ1, s1.good, (Aft.bind h1).mono fun l ρ2 H2 s2 h2 => ⟨ρ2, s2.good, (Aft.bind h2).mono fun u ρ3 H3 s3 h3 => ?_⟩⟩⟩
  have h4 : Aft X.K n W H3 σ ρ3 (asL ((look ρ3 r).bind fun d => match d with
    | .list ds => some (cutL ds l u)
    | _ => none) ρ3) fun o _ H' => ∀ p h, H p = none → H' p = some h → ObR X.K H' h o → ¬ Own σ ρ3 p → Q (.ref p) H' := by
    generalize ((look ρ3 r).bind fun d => match d with
      | .list ds => some (cutL ds l u)
      | _ => none) = z at h3 ⊢
    cases z with
    | none => exact h3
    | some ds => exact h3
  obtain ⟨ds, e, q⟩ := new_out s3.good (fun p hp => s1.live p (s2.live p (s3.live p hp))) h4
  have g := (s2.grow s1.good).trans (s3.grow s2.good)
  cases ea : look ρ3 r with
  | none =>
    rw [ea] at e
    cases e
  | some x =>
    rw [ea] at e
    cases x with
    | list es =>
      cases e
      obtain ⟨p, xs, rfl, hp, ip⟩ := ((rv.grow g).see s3.good ea).list
      exact ⟨p, xs, rfl, hp, fun t ht => q t _ ht (ip.cut l u)⟩
    | _ => cases e
end
end Q
namespace Q
open PySem PySem.Spec PyProof.Rows L2 Gd
variable [Tbl]
section
variable {X : Cx} {n : Nat} {W : XW}
/-! ### methods that change a list of a slot's own -/
def rMut (K : PySem.W.Frag) (F : List D → List D → Option (D × List D)) : V → List V → Hp → VK → Prop := fun x vs H Q => ∃ l xs ds as res ds', x = .ref l ∧ H l = some (.lst xs) ∧ ImL K H xs ds ∧ ImL K H vs as ∧ F ds as = some (res, ds') ∧
  ∀ xs' v, ImL K H xs' ds' → Im K H v res → Q v (upd H l (.lst xs'))
@[simp] def outM (i : Nat) : Option (D × List D) → Mo R
  | some (res, ds'), ρ => .ok (.d res) (ρ.set i (.own (.lst ds')))
  | none, _ => .no
@[simp] def eMut (F : List D → List D → Option (D × List D)) (i : Nat) (m : Mo (List R)) : Mo R := fun ρ => match ρ[i]? with
  | some (.own (.lst _)) => (m ρ).bind fun rs ρ1 => match ρ1[i]? with
    | some (.own (.lst ds)) => outM i ((datas rs).bind (F ds)) ρ1
    | _ => .no
  | _ => .no
theorem own_lst {K : PySem.W.Frag} {H : Hp} {σ : St} {ρ : Ev} (G : Good K H σ ρ) {i : Nat} {ds : List D} (e : ρ[i]? = some (.own (.lst ds))) : ∃ p xs, σ[i]? = some (some (.ref p)) ∧ H p = some (.lst xs) ∧ ImL K H xs ds := by
  obtain ⟨p, h, e1, e2, r⟩ := G.own i _ e
  cases r with
  | lst r => exact ⟨p, _, e1, e2, r⟩
theorem mut_run {F : List D → List D → Option (D × List D)} {i : Nat} {m : Mo (List R)} (σ : St) (H : Hp) (Q : VK) (h : tX X.K n W (eMut F i m) σ H Q) :
    tVar i σ H fun x H1 => tyV X.K "list" x H1 ∧ tXs X.K n W m σ H1 fun vs H2 => rMut X.K F x vs H2 Q := by
  obtain ⟨ρ, G, h⟩ := h
  unfold eMut at h
  split at h
  · next ds0 e0 =>
    obtain ⟨p, xs, e1, e2, _⟩ := own_lst G e0
    refine ⟨_, e1, .inl ⟨rfl, _, .inl (.inl e2)⟩, ρ, G, (Aft.bind h).mono fun rs ρ1 H1 s1 h1 vs rvs => ?_⟩
    split at h1
    · next ds e3 =>
      cases e4 : (datas rs).bind (F ds) with
      | none =>
        rw [e4] at h1
        exact h1.elim
      | some pr =>
        obtain ⟨res, ds'⟩ := pr
        rw [e4] at h1
        obtain ⟨p', xs', f1, f2, im⟩ := own_lst s1.good e3
        rw [e1] at f1
        cases f1
        cases ed : datas rs with
        | none =>
          rw [ed] at e4
          cases e4
        | some as =>
          rw [ed] at e4
          refine ⟨p, xs', ds, as, res, ds', rfl, f2, im, rvs.datas ed, e4, fun ys v i1 i2 => ?_⟩
          have st := Stp.write (n := n) s1.good e3 e1 f2 (.lst im) (h' := .lst ys) (.lst i1)
          exact h1 _ st v (.d (i2.grow (grow_upd f2 trivial (noTab_code (h := .lst _) trivial))))
    · exact h1.elim
  · exact h.elim
theorem xd_mut {F : List D → List D → Option (D × List D)} {name : Str} {id : String} {i : Nat} {x : Str} {p apos cpos : Pos} {e : Expr} {es : List Expr} {m : Mo (List R)} (hm : MtR X id (rMut X.K F)) (slot : Slot "list" name id) (hty : typeOf (.builtin id) = pure (.type "method_descriptor")) (hx : PE X (.Name x p) (tVar i)) (ha : XA X n W (e :: es) m)
    (hbase : attributeBase (.Name x p) name X.env (eval (.Name x p) X.env) = eval (.Name x p) X.env := by rfl)
    (hfew : ((backTo cpos (starEach (e :: es) X.env)).all (fun x => !x.1) && (backToKw cpos (keywordEach [] X.env)).all (fun x => x.1.isSome) && decide ((e :: es).length + ([] : List Keyword).length + (if ([] : List Keyword).isEmpty then 0 else 1) < 30)) = true := by rfl)
    (hline : (apos.endLine == cpos.line) = true := by rfl) (hs : starEach (e :: es) X.env = (false, eval e X.env) :: starEach es X.env := by rfl) (hplain : (backTo cpos (starEach es X.env)).any (·.1) = false := by rfl) :
    XD X n W (.Call (.Attribute (.Name x p) name apos) (e :: es) [] cpos) (eMut F i m) := weakE (pe_bm PySem.F.plainAttrs_list slot hty hm hx ha hbase hfew hline hs hplain) mut_run
def appF (ds : List D) : List D → Option (D × List D)
  | [x] => if ds.length < sizeLine then some (.none, ds ++ [x]) else none
  | _ => none
theorem m_app : MtR X "list.append" (rMut X.K appF) := by
  rintro pins s σ H x vs v us Q I rx rv ⟨l, xs, ds, as, res, ds', rfl, e, im, ia, ef, q⟩
  unfold appF at ef
  split at ef
  · split at ef
    · next lt =>
      cases ef
      cases ia with
      | cons i1 r =>
        cases r
        exact mt_append pins s σ H _ _ v us Q I rx rv ⟨l, xs, _, rfl, rfl, e, by rw [im.len]; exact lt, q _ _ (im.append (.cons i1 .nil)) .non⟩
    · cases ef
  · cases ef
noncomputable def popF (ds : List D) : List D → Option (D × List D)
  | [.int i] => if cb (-(2 ^ 63) ≤ i ∧ i < 2 ^ 63) = true then (seqIndex? i ds.length).bind fun k => ds[k]?.map fun y => (y, ds.eraseIdx k) else none
  | _ => none
theorem ImL.erase {K : PySem.W.Frag} {H : Hp} : ∀ {xs : List V} {ds : List D} (k : Nat), ImL K H xs ds → ImL K H (xs.eraseIdx k) (ds.eraseIdx k)
  | _, _, _, .nil => .nil
  | _, _, 0, .cons _ r => r
  | _, _, k + 1, .cons h r => .cons h (ImL.erase k r)
theorem m_pop : MtR X "list.pop" (rMut X.K popF) := by
  rintro pins s σ H x vs v us Q I rx rv ⟨l, xs, ds, as, res, ds', rfl, e, im, ia, ef, q⟩
  unfold popF at ef
  split at ef
  · next i =>
    split at ef
    · next b =>
      cases ek : seqIndex? i ds.length with
      | none =>
        rw [ek] at ef
        cases ef
      | some k =>
        rw [ek] at ef
        obtain ⟨y, ey, ez⟩ := map_some (show ds[k]?.map (fun y => (y, ds.eraseIdx k)) = some (res, ds') from ef)
        cases ez
        cases ia with
        | cons i1 r =>
          cases r
          cases i1
          obtain ⟨w, ew, iw⟩ := im.at ey
          exact mt_popAt pins s σ H _ _ v us Q I rx rv ⟨l, xs, i, k, w, rfl, rfl, e, (of_cb b).1, (of_cb b).2, by rw [im.len]; exact ek, ew, q _ _ (im.erase k) iw⟩
    · cases ef
  · cases ef
noncomputable def insF (ds : List D) : List D → Option (D × List D)
  | [.int i, y] => if cb (ds.length < sizeLine ∧ 0 ≤ i ∧ i < 2 ^ 63) = true then some (.none, ds.take i.toNat ++ [y] ++ ds.drop i.toNat) else none
  | _ => none
/-! ### xs.extend(ys) -/
def rExtQ (K : PySem.W.Frag) : V → List V → Hp → VK → Prop := fun x vs H Q => ∃ l b xs zs, x = .ref l ∧ vs = [.ref b] ∧ H l = some (.lst xs) ∧ (Rd H b (.lst zs) ∨ SqT K H b zs) ∧ xs.length + zs.length ≤ sizeLine ∧ Q .non (upd H l (.lst (xs ++ zs)))
theorem mt_extQ : MtR X "list.extend" (rExtQ X.K) := by
  rintro pins s σ H x vs v us Q I rx rv ⟨l, b, xs, zs, rfl, rfl, hl, hb, hz, q⟩
  cases rx
  obtain ⟨u, rfl, ru⟩ := rv.one
  cases ru
  obtain ⟨z1, its, m, r1, len1, e1⟩ := I.lstM hl
  rcases hb with hb | hb
  · obtain ⟨its2, m2, r2, e2⟩ := rd_obj I hb
    have len2 := r2.length
    have hsz : its.toArray.size + its2.toArray.size ≤ sizeLine := by rw [List.size_toArray, List.size_toArray]; omega
    have hlong : ¬ (!its.toArray.isEmpty && Builtin.List.listTooLong (its.toArray.size + its2.toArray.size)) = true := by
      rw [notLongL hsz, Bool.and_false]
      exact Bool.false_ne_true
    refine call_meets F.slot_list_extend ⟨_, e1, rfl⟩ F.entry_list_extend (F.args_list_extend_2 _ _)
      (AutoSeq1.list_extend_list_list_0 l its.toArray m b its2.toArray m2 hlong (by rw [List.size_toArray]; omega) (by omega)) ⟨e1, e2, ?_⟩
    refine ⟨.non, _, I.lset (its' := its ++ its2) hl e1 (by simp) (r1.append r2) ?_, rfl, q⟩
    rw [List.length_append]
    exact hz
  · obtain ⟨its2, r2, ⟨o2, e2, c2, n2, d2⟩, _⟩ := I.tuple hb
    have len2 := r2.length
    refine wpAny_call_entry F.slot_list_extend ⟨_, e1, rfl⟩ F.entry_list_extend ?_ (F.args_list_extend_2 _ _)
    show wpAny _ _ (Builtin.List.listExtendWith (.ref l) (.ref b) .none) _ _ s
    unfold Builtin.List.listExtendWith
    refine wpAny_bind (wpAny_typeOf (T := "tuple") ⟨o2, e2, c2⟩ ?_)
    have tt : (Value.type "tuple" == Value.type "tuple") = true := by rfl
    rw [if_pos (by rw [tt]; simp)]
    refine wpAny_bind (listItems_at e2 d2 ?_)
    refine wpAny_bind (listItems_at e1 rfl ?_)
    have small : its.toArray.size + its2.toArray.size ≤ sizeLine := by
      rw [List.size_toArray, List.size_toArray]
      omega
    rw [if_neg (by rw [notLongL small, Bool.and_false]; exact Bool.false_ne_true)]
    refine wpAny_bind (listUpdate_at e1 rfl ?_ (by rw [List.size_toArray]; omega) (by rw [Array.size_append]; omega))
    refine wpAny_pure ⟨_, rfl, .non, _, I.lset (its' := its ++ its2) (t' := s.toks) hl e1 (by simp) (r1.append r2) ?_, rfl, q⟩
    rw [List.length_append]
    exact hz
@[simp] def eExt (i : Nat) (f : Mo R) : Mo R := fun ρ => match ρ[i]? with
  | some (.own (.lst _)) => (f ρ).bind fun r ρ1 => match ρ1[i]? with
    | some (.own (.lst ds)) => match (look ρ1 r).bind itemsD with
      | some es => if ds.length + es.length ≤ sizeLine then .ok (.d .none) (ρ1.set i (.own (.lst (ds ++ es)))) else .no
      | none => .no
    | _ => .no
  | _ => .no
theorem xd_ext {i : Nat} {x : Str} {p apos cpos : Pos} {e : Expr} {f : Mo R} (hx : PE X (.Name x p) (tVar i)) (he : XD X n W e f)
    (hbase : attributeBase (.Name x p) "extend" X.env (eval (.Name x p) X.env) = eval (.Name x p) X.env := by rfl)
    (hfew : ((backTo cpos (starEach [e] X.env)).all (fun x => !x.1) && (backToKw cpos (keywordEach [] X.env)).all (fun x => x.1.isSome) && decide ([e].length + ([] : List Keyword).length + (if ([] : List Keyword).isEmpty then 0 else 1) < 30)) = true := by rfl)
    (hline : (apos.endLine == cpos.line) = true := by rfl) (hs : starEach [e] X.env = (false, eval e X.env) :: starEach [] X.env := by rfl) (hplain : (backTo cpos (starEach [] X.env)).any (·.1) = false := by rfl) :
    XD X n W (.Call (.Attribute (.Name x p) "extend" apos) [e] [] cpos) (eExt i f) := weakE (pe_bm PySem.F.plainAttrs_list PySem.F.slot_list_extend PySem.F.type_list_extend mt_extQ hx (pa_cons he pa_nil hs) hbase hfew hline hs hplain) fun σ H Q ⟨ρ, G, h⟩ => by
  unfold eExt at h
  split at h
  · next ds0 e0 =>
    obtain ⟨p, xs, e1, e2, _⟩ := own_lst G e0
    refine ⟨_, e1, .inl ⟨rfl, _, .inl (.inl e2)⟩, ρ, G, (Aft.bind h).mono fun r ρ1 H1 s1 h1 v rv => ?_⟩
    split at h1
    · next ds e3 =>
      split at h1
      · next es e4 =>
        split at h1
        · next le =>
          obtain ⟨p', xs', f1, f2, im⟩ := own_lst s1.good e3
          rw [e1] at f1
          cases f1
          have out : ∀ {b : Addr} {zs : List V}, v = .ref b → (Rd H1 b (.lst zs) ∨ SqT X.K H1 b zs) → ImL X.K H1 zs es → rExtQ X.K (.ref p) [v] H1 Q := fun {b zs} ev hb iz => by
            subst ev
            refine ⟨p, b, xs', zs, rfl, rfl, f2, hb, by rw [im.len, iz.len]; exact le, ?_⟩
            exact h1 _ (Stp.write (n := n) s1.good e3 e1 f2 (.lst im) (h' := .lst (xs' ++ zs)) (.lst (im.append iz))) .non (.d .non)
          cases el : look ρ1 r with
          | none =>
            rw [el] at e4
            cases e4
          | some d =>
            rw [el] at e4
            have vw := rv.see s1.good el
            cases d with
            | tuple ys =>
              cases e4
              obtain ⟨b, zs, ev, hb, iz⟩ := vw.tuple
              exact out ev (.inr hb) iz
            | list ys =>
              cases e4
              obtain ⟨b, zs, ev, hb, iz⟩ := list_rd vw
              exact out ev (.inl hb) iz
            | _ => cases e4
        · exact h1.elim
      · exact h1.elim
    · exact h1.elim
  · exact h.elim
end
end Q
namespace Q
open PySem PySem.Spec PyProof.Rows L2 Gd
variable [Tbl]
/-! ### for i, x in enumerate(t), t a tuple -/
set_option maxHeartbeats 2000000 in
theorem enum_new1 {v : Value} {o : Obj} {W : Heap → Prop} (B : Begins v o W) : Meets (Builtin.«enumerate.__new__» ⟨[.type "enumerate", v], []⟩) (fun _ R s => W s.heap ∧
    R (.ok (.ret (.ref (s.heap.push o).objs.size))) { s with heap := (s.heap.push o).push { cls := .type "enumerate", data := .fields #[.none, .bool false, .ref s.heap.objs.size, rawInt 0, .none, .none] } }) :=
  .of_wp fun prog w A R s hyp => by
    obtain ⟨hp, gn, dr, tk, os⟩ := s
    obtain ⟨h1, hyp⟩ := hyp
    have hsub := sub_enumerate
    have it : ∀ {A' : Around} {E : Value → Shared → Prop} {Q : Value → Shared → Prop}, Q (.ref hp.objs.size) ⟨hp.push o, gn, dr, tk, os⟩ → wpAny (model prog w) A' (pyIter v) Q E ⟨hp, gn, dr, tk, os⟩ := fun z => B.iter prog w _ _ ⟨hp, gn, dr, tk, os⟩ _ h1 z
    wp_walk using it
    refine wpAny_stack_any fun st => wpAny_pure ?_
    split
    · rename_i cc _ _ _ _ _
      cases (cc == Value.type "enumerate") <;> (wp_walk using it; exact ⟨_, rfl, hyp⟩)
    · wp_walk using it
      exact ⟨_, rfl, hyp⟩
theorem call_enum1 {prog : Program} {w : World} {A : Around} {E : Value → Shared → Prop} {s : Shared} {v : Value} {o : Obj} {W : Heap → Prop} {Q : Value → Shared → Prop} (B : Begins v o W) (h1 : W s.heap)
    (h : ∀ h', IsEnum h' (s.heap.objs.size + 1) s.heap.objs.size 0 .none → h'.get? s.heap.objs.size = some o → (∀ b u, s.heap.get? b = some u → h'.get? b = some u) → Q (.ref (s.heap.objs.size + 1)) { s with heap := h' }) :
    wpAny (model prog w) A (call (.type "enumerate") [v]) Q E s := by
  refine callType_new F.called_enumerate (by decide) (F.typeCall_enumerate_1 _) (F.newCall_enumerate_1 _) (fun obj => F.args_object_init_2 obj _) F.entry_enumerate_new (enum_new1 B) ⟨h1, ?_⟩
  have sz : (s.heap.push o).objs.size = s.heap.objs.size + 1 := Heap.size_push ..
  show _ ∧ _
  rw [sz]
  have en : IsEnum ((s.heap.push o).push { cls := .type "enumerate", data := .fields #[.none, .bool false, .ref s.heap.objs.size, rawInt 0, .none, .none] }) (s.heap.objs.size + 1) s.heap.objs.size 0 .none := by
    have z := Heap.get?_push_size (s.heap.push o) (o := { cls := .type "enumerate", data := .fields #[.none, .bool false, .ref s.heap.objs.size, rawInt 0, .none, .none] }) rfl
    rw [sz] at z
    exact z
  exact ⟨⟨_, en, rfl⟩, h _ en (Heap.get?_push_of_some _ (Heap.get?_push_size _ B.free)) fun b u x => Heap.get?_push_of_some _ (Heap.get?_push_of_some _ x)⟩
/-- the tuple at a, each item in a new pair with its place -/
def Ent (K : PySem.W.Frag) (a : Addr) : It :=
  ⟨fun i H => ∃ (xs : List V) (x : V), SqT K H a xs ∧ xs[i]? = some x, fun i H v H' => ∃ T x, v = .ref T ∧ H T = none ∧ H' = upd H T (.tup [.int (i : Nat), x]) ∧ ∀ xs, SqT K H a xs → xs[i]? = some x, fun i H => ∃ xs : List V, SqT K H a xs ∧ xs.length ≤ i⟩
theorem turn_ent {P : Program} {w : World} {K : PySem.W.Frag} {elts : List Expr} {kk : Nat} {tpos : Pos} (a e it : Addr) :
    Turn P w K (.Tuple elts kk tpos) (Ent K a) [e, it] e (fun i h => (∃ old, IsEnum h e it ((i : Nat) : Int) old) ∧ h.IsTupleIter it a i ∧ e ≠ it) where
  mem := by simp
  obj := fun i h st b hb => by
    obtain ⟨⟨old, he⟩, ⟨o, ho, hc, hd⟩, _⟩ := st
    rcases (by simpa using hb : b = e ∨ b = it) with z | z
    · subst z
      exact ⟨_, he, fun v q => nomatch q⟩
    · subst z
      exact ⟨o, ho, fun v q => by rw [hd] at q; cases q⟩
  keep := by
    rintro i h h' ⟨⟨old, he⟩, ⟨o, ho, r⟩, ne⟩ k
    exact ⟨⟨old, k e (by simp) _ he⟩, ⟨o, k it (by simp) _ ho, r⟩, ne⟩
  item := by
    intro X hP hw hK hc i pins s σ H E I hf st hg
    subst hP hw hK
    obtain ⟨⟨old, he⟩, hit, hne⟩ := st
    obtain ⟨xs, x, hq, hx⟩ := hg
    obtain ⟨its, rv, tp, hz⟩ := I.tuple hq
    obtain ⟨u, hu, ru⟩ := rv.get hx
    have hel : e < s.heap.objs.size := Heap.lt_size he
    have hil : it < s.heap.objs.size := by
      obtain ⟨_, z, _⟩ := hit
      exact Heap.lt_size z
    have nai : a ≠ it := fun z => by
      obtain ⟨o1, e1, c1, _⟩ := tp
      obtain ⟨o2, e2, c2, _⟩ := hit
      rw [z, e2] at e1
      cases e1
      rw [c2] at c1
      exact absurd (Value.type.inj c1) (by decide)
    have nae : e ≠ a := fun z => by
      obtain ⟨o1, e1, c1, _⟩ := tp
      rw [← z] at e1
      have e2 : s.heap.get? e = _ := he
      rw [e2] at e1
      cases e1
      exact absurd (Value.type.inj c1) (by decide)
    have hil2 : i < its.toArray.size := by
      rw [List.size_toArray]
      exact (List.getElem?_eq_some_iff.mp hu).1
    refine wpAny_pyNext_enum_itemD (Draws.tuple (A := X.A.in1) (I.ok.hd hc) it a nai its.toArray) he ⟨hit, tp⟩ hil2 hne (by simp [hne, nae]) fun y h' tk py eo st' hT sz hk => ?_
    have ey : y = u := by
      have z : its[i]? = some y := by simpa using py
      rw [hu] at z
      exact (Option.some.inj z).symm
    subst ey
    refine ⟨_, rfl, wpAny_letOwnedTupleGo_enum (s := { s with heap := h', toks := tk + 1 }) eo fun h2 he2 sb => ?_⟩
    have hT2 : h2.get? s.heap.objs.size = some { cls := .type "tuple", data := .seq #[.int i tk, y] } := (sb.2 _ (Nat.ne_of_gt hel)).trans hT
    have new : ObjOk X.prog X.w (upd H s.heap.objs.size (.tup [.int (i : Nat), x])) h2 s.heap.objs.size (.tup [.int (i : Nat), x]) :=
      ⟨(by show 2 ≤ sizeLine; decide), [.int i tk, y], .cons ⟨_, rfl⟩ (.cons ru .nil), ⟨_, hT2, rfl, _, rfl⟩⟩
    have J : Inv X pins σ (upd H s.heap.objs.size (.tup [.int (i : Nat), x])) { s with heap := h2, toks := tk + 1 } := by
      refine I.turnedNew (ch := [e, it]) (fun b ob hb q => ?_) hf (Nat.le_refl _) new
      have n1 : b ≠ e := fun z => hb (by simp [z])
      have n2 : b ≠ it := fun z => hb (by simp [z])
      exact (sb.2 b n1).trans (hk b ob n1 n2 q)
    refine ⟨.ref s.heap.objs.size, _, J, rfl, ⟨_, x, rfl, I.hok.fresh (Nat.le_refl _), rfl, fun ys hy => ?_⟩, ⟨⟨y, ?_⟩, ?_, hne⟩, fun b hb => ?_⟩
    · rw [I.tuple_inj hy hq]
      exact hx
    · have e1 : ((i + 1 : Nat) : Int) = (i : Int) + 1 := by omega
      rw [e1]
      exact he2
    · obtain ⟨o, ho, r⟩ := st'.1
      exact ⟨o, (sb.2 it hne.symm).trans ho, r⟩
    · have lt : b < s.heap.objs.size := by
        rcases (by simpa using hb : b = e ∨ b = it) with z | z
        · rw [z]
          exact hel
        · rw [z]
          exact hil
      rw [upd_ne (Nat.ne_of_lt lt)]
      exact (hf b hb).1
  done := by
    intro X hP hw hK hc i pins s σ H E I hf st hg
    subst hP hw hK
    obtain ⟨⟨old, he⟩, hit, hne⟩ := st
    obtain ⟨xs, hq, hx⟩ := hg
    obtain ⟨its, rv, tp, hz⟩ := I.tuple hq
    obtain ⟨f0, f1, f2, f3, f4, f5⟩ := hf it (by simp)
    have hT : s.TypeIs (.ref e) "enumerate" := ⟨_, he, rfl⟩
    have len := rv.length
    unfold pyNext
    refine wpAny_bind (wpAny_attempt (wpAny_callSpecial?_slot (name := Str.ofString "__next__") hT F.slot_enumerate_next (wpAny_call_entry F.slot_enumerate_next hT F.entry_enumerate_next ?_ (F.args_enumerate_next_1 _))))
    show wpAny _ _ (field (.ref e) 2 >>= _) _ _ _
    refine wpAny_bind (wpAny_field he rfl (x := .ref it) rfl ?_)
    refine wpAny_bind (wpAny_nextOf_tuple_end (I.ok.hd hc) hit tp (by simp; omega) fun h' x he' hx' => ?_)
    obtain ⟨o, ho, hcl⟩ := hx'
    refine wpAny_bind (wpAny_isInstance (T := "StopIteration") (b := true) ⟨o, ho, hcl⟩ isSubtype_stop ?_)
    exact wpAny_pure ⟨rfl, I.turned (t' := s.toks) (fun b o hb q => he' b o hb q) f0 f1 f3 f4 f5⟩
  self := fun A i s Q E st h => let ⟨⟨_, he⟩, _⟩ := st; wpAny_pyIter_enum he h
def iEnt (K : PySem.W.Frag) (ta : TA) : TI := fun σ H R => ta σ H fun vs H1 => ∃ a xs, vs = [.ref a] ∧ SqT K H1 a xs ∧ R (Ent K a) H1
theorem pi_ent {X : Cx} {e : Expr} {ta : TA} {p pos tpos : Pos} {elts : List Expr} {kk : Nat} (hg : Gl X "enumerate") (hm : X.mg "enumerate" = none) (ha : PA X [e] ta) (hs : starEach [e] X.env = [(false, eval e X.env)] := by rfl) :
    PI X (.Tuple elts kk tpos) (.Call (.Name "enumerate" p) [e] [] pos) (iEnt X.K ta) := by
  refine ⟨fun pins s σ H R I h => ?_⟩
  refine Call_ (ld_blt I hg hm boot_enumerate (PyProof.Rows.callWith_type1 (thn (ha.run pos pins s σ H _ I h) ?_) hs rfl))
  rintro us s1 ⟨vs, H1, I1, r1, a, xs, rfl, hq, q⟩
  obtain ⟨u, rfl, rx⟩ := vals1 r1
  cases rx
  obtain ⟨its, rv, tp, hz⟩ := I1.tuple hq
  refine call_enum1 (begins_tuple a its.toArray) tp fun h' en it hk => wpAny_pyIter_enum en ?_
  refine ⟨s1.heap.objs.size + 1, [s1.heap.objs.size + 1, s1.heap.objs.size], _, _, H1, rfl, I1.kept (t' := s1.toks) hk, turn_ent a (s1.heap.objs.size + 1) s1.heap.objs.size, ⟨⟨.none, en⟩, ⟨_, it, rfl, rfl⟩, Nat.succ_ne_self _⟩, fun b hb => ?_, q⟩
  have le : s1.heap.objs.size ≤ b := by
    rcases (by simpa using hb : b = s1.heap.objs.size + 1 ∨ b = s1.heap.objs.size) with z | z
    · rw [z]
      exact Nat.le_add_right _ _
    · rw [z]
      exact Nat.le_refl _
  exact I1.fpOk le (I1.hok.fresh le)
end Q
namespace Q
open PySem PySem.Spec PyProof.Rows L2 Gd RZ
variable [Tbl]
section
variable {X : Cx} {n : Nat} {W : XW}
/-! ### enumerate, zip -/
/-- a pair that a walk makes: it is only taken apart -/
def pairD (a b : D) : D := .dict [(.bool true, a), (.bool false, b)]
def enumD (ds : List D) : List D := ds.zipIdx.map fun p => pairD (.int (p.2 : Nat)) p.1
def zipD (ds es : List D) : List D := List.zipWith pairD ds es
theorem enumD_len (ds : List D) : (enumD ds).length = ds.length := by
  unfold enumD
  rw [List.length_map, List.length_zipIdx]
theorem enumD_at {ds : List D} {i : Nat} {d : D} (h : ds[i]? = some d) : (enumD ds)[i]? = some (pairD (.int (i : Nat)) d) := by
  unfold enumD
  rw [List.getElem?_map, List.getElem?_zipIdx, h, Nat.zero_add]
  rfl
theorem wk_pair {K : PySem.W.Frag} {H : Hp} {ds : List D} {J : It} {G : Hp → Prop} {fx fy : Nat → Option V} (w : Walk J ds.length G (YPair fx fy)) (hG : ∀ H', Grow H H' → G H')
    (hi : ∀ i x y, fx i = some x → fy i = some y → ∃ a b, ds[i]? = some (pairD a b) ∧ Im K H x a ∧ Im K H y b) : Wk K H ds J := by
  refine w.mono hG fun i H1 v H2 lt g y => ?_
  obtain ⟨T, x, z, rfl, nT, rfl, e1, e2⟩ := y
  obtain ⟨a, b, ed, ia, ib⟩ := hi i x z e1 e2
  have sm := same_upd (o := .tup [x, z]) nT
  exact ⟨sm, _, ed, .prm (.inl (.inl upd_same)) ((ia.grow g).same sm) ((ib.grow g).same sm)⟩
theorem walk_entQ {K : PySem.W.Frag} {a : Addr} {xs : List V} : Walk (Ent K a) xs.length (fun H => SqT K H a xs) (YPair (fun i => some (.int (i : Nat))) (fun i => xs[i]?)) := by
  refine ⟨fun i _ hi q => ⟨xs, xs[i], q, by simp [hi]⟩, fun _ q => ⟨xs, q, Nat.le_refl _⟩, fun i H v H' _ q y => ?_⟩
  obtain ⟨T, x, h1, h2, h3, h4⟩ := y
  exact ⟨T, .int (i : Nat), x, h1, h2, h3, rfl, h4 xs q⟩
theorem enum_hi {K : PySem.W.Frag} {H : Hp} {xs : List V} {ds : List D} (r : ImL K H xs ds) : ∀ i x y, (fun i : Nat => some (V.int (i : Nat))) i = some x → (fun i : Nat => xs[i]?) i = some y → ∃ a b, (enumD ds)[i]? = some (pairD a b) ∧ Im K H x a ∧ Im K H y b := fun i x y e1 e2 => by
  cases e1
  obtain ⟨d, ed, id⟩ := r.get e2
  exact ⟨_, d, enumD_at ed, .int _, id⟩
@[simp] def iMap (F : List D → Option (List D)) (m : Mo (List R)) : Mo (List D) := fun ρ => (m ρ).bind fun rs ρ1 => outL ((datas rs).bind F) ρ1
@[simp] def enF : List D → Option (List D)
  | [d] => (itemsD d).map enumD
  | _ => none
theorem xi_enum {e : Expr} {f : Mo (List R)} {p pos tpos : Pos} {elts : List Expr} {kk : Nat} (hg : Gl X "enumerate") (hm : X.mg "enumerate" = none) (ha : XA X n W [e] f) (hs : starEach [e] X.env = [(false, eval e X.env)] := by rfl) :
    XI X n W (.Tuple elts kk tpos) (.Call (.Name "enumerate" p) [e] [] pos) (iMap enF f) := weakI (PI.or (pi_ent hg hm ha hs) (pi_enum hg hm ha hs)) fun σ H Q ⟨ρ, G, h⟩ => by
  unfold iMap at h
  cases ef : f ρ with
  | no =>
    rw [ef] at h
    exact h.elim
  | ex c d ρ' =>
    refine .inl ⟨ρ, G, ?_⟩
    rw [ef] at h ⊢
    exact h
  | ok rs ρ1 =>
    rw [ef] at h
    have h : Aft X.K n W H σ ρ (outL ((datas rs).bind enF) ρ1) fun ds _ H' => ∀ J, Wk X.K H' ds J → Q J H' := h
    cases ed : datas rs with
    | none =>
      rw [ed] at h
      exact h.elim
    | some as =>
      rw [ed] at h
      have h : Aft X.K n W H σ ρ (outL (enF as) ρ1) fun ds _ H' => ∀ J, Wk X.K H' ds J → Q J H' := h
      cases as with
      | nil => exact h.elim
      | cons d rest => cases rest with
        | cons _ _ => exact h.elim
        | nil =>
        cases d with
        | tuple ds =>
          refine .inl ⟨ρ, G, ?_⟩
          rw [ef]
          intro H1 s1 vs rvs
          cases rvs.datas ed with
          | cons i1 r =>
            cases r
            cases i1 with
            | @tup a xs _ ht ir =>
              refine ⟨a, xs, rfl, ht.sq, h H1 s1 _ (wk_pair (G := fun H => SqT X.K H a xs) ?_ (fun H' g => g.t ht.sq) (enum_hi ir))⟩
              rw [enumD_len, ← ir.len]
              exact walk_entQ
        | list ds =>
          refine .inr ⟨ρ, G, ?_⟩
          rw [ef]
          intro H1 s1 vs rvs
          cases rvs.datas ed with
          | cons i1 r =>
            cases r
            cases i1 with
            | @lst a xs _ ht ir =>
              refine ⟨a, xs, rfl, ht.sq, h H1 s1 _ (wk_pair (G := fun H => SqL X.K H a xs) ?_ (fun H' g => (g.l ht).sq) (enum_hi ir))⟩
              rw [enumD_len, ← ir.len]
              exact walk_enum
        | _ => exact h.elim
@[simp] def zipF : List D → Option (List D)
  | [.tuple a, .tuple b] => some (zipD a b)
  | [.list a, .list b] => some (zipD a b)
  | _ => none
theorem zipD_len (a b : List D) : (zipD a b).length = min a.length b.length := List.length_zipWith
theorem zip_hi {K : PySem.W.Frag} {H : Hp} {xs ys : List V} {ds es : List D} (r : ImL K H xs ds) (r' : ImL K H ys es) : ∀ i x y, (fun i : Nat => xs[i]?) i = some x → (fun i : Nat => ys[i]?) i = some y → ∃ a b, (zipD ds es)[i]? = some (pairD a b) ∧ Im K H x a ∧ Im K H y b := fun i x y e1 e2 => by
  obtain ⟨d, ed, id⟩ := r.get e1
  obtain ⟨e, ee, ie⟩ := r'.get e2
  refine ⟨d, e, ?_, id, ie⟩
  unfold zipD
  rw [List.getElem?_zipWith, ed, ee]
theorem walk_zipTQ {K : PySem.W.Frag} {a b : Addr} {xs ys : List V} {k : Nat} (hk : k = min xs.length ys.length) : Walk (ItzT K a b) k (fun H => SqT K H a xs ∧ SqT K H b ys) (YPair (fun i => xs[i]?) (fun i => ys[i]?)) := by
  subst hk
  refine ⟨fun i _ hi q => ?_, fun _ q => ⟨xs, ys, q.1, q.2, by omega⟩, fun i H v H' _ q y => ?_⟩
  · have h1 : i < xs.length := by omega
    have h2 : i < ys.length := by omega
    exact ⟨xs, ys, xs[i], ys[i], q.1, q.2, by simp [h1], by simp [h2]⟩
  · obtain ⟨T, x, z, h1, h2, h3, h4, h5⟩ := y
    exact ⟨T, x, z, h1, h2, h3, h4 xs q.1, h5 ys q.2⟩
theorem xi_zip {e e2 : Expr} {f : Mo (List R)} {p pos tpos : Pos} {elts : List Expr} {kk : Nat} (hg : Gl X "zip") (hm : X.mg "zip" = none) (ha : XA X n W [e, e2] f)
    (hs : starEach [e, e2] X.env = (false, eval e X.env) :: starEach [e2] X.env := by rfl) (hpl : (backTo pos (starEach [e2] X.env)).any (·.1) = false := by rfl) :
    XI X n W (.Tuple elts kk tpos) (.Call (.Name "zip" p) [e, e2] [] pos) (iMap zipF f) := weakI (pi_zipA hg hm ha hs hpl) fun σ H Q ⟨ρ, G, h⟩ => by
  refine ⟨ρ, G, (Aft.bind h).mono fun rs ρ1 H1 s1 h1 vs rvs => ?_⟩
  obtain ⟨ds, e, h1⟩ := h1.outL
  · cases ed : datas rs with
    | none =>
      rw [ed] at e
      cases e
    | some as =>
      rw [ed] at e
      have e : zipF as = some ds := e
      unfold zipF at e
      split at e
      · cases e
        cases rvs.datas ed with
        | cons i1 r => cases r with
          | cons i2 r =>
            cases r
            cases i1 with
            | @tup a xs _ ha ia => cases i2 with
              | @tup b ys _ hb ib =>
                refine ⟨a, b, xs, ys, rfl, .inr ⟨ha.sq, hb.sq, Aft.ok s1.good h1 _ (wk_pair (G := fun H => SqT X.K H a xs ∧ SqT X.K H b ys) (walk_zipTQ ?_) (fun H' g => ⟨g.t ha.sq, g.t hb.sq⟩) (zip_hi ia ib))⟩⟩
                rw [zipD_len, ia.len, ib.len]
      · cases e
        cases rvs.datas ed with
        | cons i1 r => cases r with
          | cons i2 r =>
            cases r
            cases i1 with
            | @lst a xs _ ha ia => cases i2 with
              | @lst b ys _ hb ib =>
                refine ⟨a, b, xs, ys, rfl, .inl ⟨ha.sq, hb.sq, Aft.ok s1.good h1 _ (wk_pair (G := fun H => SqL X.K H a xs ∧ SqL X.K H b ys) (walk_zip ?_) (fun H' g => ⟨(g.l ha).sq, (g.l hb).sq⟩) (zip_hi ia ib))⟩⟩
                rw [zipD_len, ia.len, ib.len]
      · cases e
/-! ### dict([(k, v), ..]) -/
def keyOf : D → Option Key
  | .int i => some (.inl i)
  | .str x => some (.inr x)
  | _ => none
def putG (kvs : List (Key × D)) (k : Key) (v : D) : List (Key × D) := if (kvs.any fun kv => decide (kv.1 = k)) = true then kvs.map (fun kv => if kv.1 = k then (kv.1, v) else kv) else kvs ++ [(k, v)]
def pairsD : List D → Option (List (Key × D))
  | [] => some []
  | .tuple [k, v] :: ds => match keyOf k, pairsD ds with
    | some k, some r => some ((k, v) :: r)
    | _, _ => none
  | _ :: _ => none
def mergeG (kvs more : List (Key × D)) : List (Key × D) := more.foldl (fun acc kv => putG acc kv.1 kv.2) kvs
def toKV (kvs : List (Key × D)) : List (D × D) := kvs.map fun kv => (keyD kv.1, kv.2)
inductive ImG (K : PySem.W.Frag) (H : Hp) : List (Key × V) → List (Key × D) → Prop
  | nil : ImG K H [] []
  | cons {k : Key} {v : V} {d : D} {r : List (Key × V)} {ds : List (Key × D)} : Im K H v d → ImG K H r ds → ImG K H ((k, v) :: r) ((k, d) :: ds)
theorem ImG.kv {K : PySem.W.Frag} {H : Hp} : ∀ {kvs : List (Key × V)} {ds : List (Key × D)}, ImG K H kvs ds → ImKV K H kvs (toKV ds)
  | _, _, .nil => .nil
  | _, _, .cons h r => .cons h (ImG.kv r)
theorem ImG.any {K : PySem.W.Frag} {H : Hp} {k : Key} : ∀ {kvs : List (Key × V)} {ds : List (Key × D)}, ImG K H kvs ds → (kvs.any fun kv => decide (kv.1 = k)) = ds.any fun kv => decide (kv.1 = k)
  | _, _, .nil => rfl
  | _, _, .cons h r => by rw [List.any_cons, List.any_cons, ImG.any r]
theorem ImG.repl {K : PySem.W.Frag} {H : Hp} {k : Key} {v : V} {d : D} (hv : Im K H v d) : ∀ {kvs : List (Key × V)} {ds : List (Key × D)}, ImG K H kvs ds → ImG K H (kvs.map fun kv => if kv.1 = k then (kv.1, v) else kv) (ds.map fun kv => if kv.1 = k then (kv.1, d) else kv)
  | _, _, .nil => .nil
  | _, _, @ImG.cons _ _ k1 _ _ _ _ h r => by
    rw [List.map_cons, List.map_cons]
    by_cases e : k1 = k
    · rw [if_pos e, if_pos e]
      exact .cons hv (ImG.repl hv r)
    · rw [if_neg e, if_neg e]
      exact .cons h (ImG.repl hv r)
theorem ImG.snoc {K : PySem.W.Frag} {H : Hp} {k : Key} {v : V} {d : D} (hv : Im K H v d) : ∀ {kvs : List (Key × V)} {ds : List (Key × D)}, ImG K H kvs ds → ImG K H (kvs ++ [(k, v)]) (ds ++ [(k, d)])
  | _, _, .nil => .cons hv .nil
  | _, _, .cons h r => .cons h (ImG.snoc hv r)
theorem ImG.put {K : PySem.W.Frag} {H : Hp} {k : Key} {v : V} {d : D} (hv : Im K H v d) {kvs : List (Key × V)} {ds : List (Key × D)} (r : ImG K H kvs ds) : ImG K H (putK kvs k v) (putG ds k d) := by
  unfold putK putG
  rw [r.any]
  split
  · exact r.repl hv
  · exact r.snoc hv
theorem ImG.same {K : PySem.W.Frag} {H H' : Hp} (s : Same H H') : ∀ {kvs : List (Key × V)} {ds : List (Key × D)}, ImG K H kvs ds → ImG K H' kvs ds
  | _, _, .nil => .nil
  | _, _, .cons h r => .cons (h.same s) (ImG.same s r)
@[simp] def fDict (m : Mo (List R)) : Mo Ob := fun ρ => (m ρ).bind fun rs ρ1 => match looks ρ1 rs with
  | some [.list ds] => match pairsD ds with
    | some kd => .ok (.dk (toKV (mergeG [] kd))) ρ1
    | none => .no
  | _ => .no
end
end Q
namespace Q
open PySem PySem.Spec PyProof.Rows L2 Gd
variable [Tbl]
/-! ### t[::-1] -/
section
variable {prog : Program} {w : World} {A : Around} {E : Value → Shared → Prop} {s : Shared}
theorem rev_pick (xs : Array Value) : ((List.range xs.size).filterMap fun (m : Nat) => xs[(((xs.size : Int) - 1) + (m : Int) * (-1)).toNat]?).toArray = xs.toList.reverse.toArray := by
  congr 1
  apply List.ext_getElem?
  intro i
  have h : (List.range xs.size).filterMap (fun (m : Nat) => xs[(((xs.size : Int) - 1) + (m : Int) * (-1)).toNat]?) = (List.range xs.size).map fun (m : Nat) => (xs[(xs.size - 1 - m)]?).getD default := by
    have go : ∀ l : List Nat, (∀ m ∈ l, m < xs.size) → l.filterMap (fun (m : Nat) => xs[(((xs.size : Int) - 1) + (m : Int) * (-1)).toNat]?) = l.map fun (m : Nat) => (xs[(xs.size - 1 - m)]?).getD default := by
      intro l
      induction l with
      | nil => intro _; rfl
      | cons m l ih =>
        intro hl
        have hm := hl m List.mem_cons_self
        have e : (((xs.size : Int) - 1) + (m : Int) * (-1)).toNat = xs.size - 1 - m := by omega
        have e2 : xs[xs.size - 1 - m]? = some xs[xs.size - 1 - m] := Array.getElem?_eq_getElem (by omega)
        rw [List.filterMap_cons, e, e2, List.map_cons, ih fun x hx => hl x (List.mem_cons_of_mem _ hx), e2]
        rfl
    exact go _ fun m hm => List.mem_range.mp hm
  rw [h, List.getElem?_map]
  by_cases hi : i < xs.size
  · rw [List.getElem?_range hi, List.getElem?_reverse (by rw [Array.length_toList]; exact hi), Array.length_toList, Array.getElem?_toList, Array.getElem?_eq_getElem (show xs.size - 1 - i < xs.size by omega)]
    show some ((xs[xs.size - 1 - i]?).getD default) = _
    rw [Array.getElem?_eq_getElem (show xs.size - 1 - i < xs.size by omega)]
    rfl
  · rw [List.getElem?_eq_none (by rw [List.length_range]; omega), List.getElem?_eq_none (by rw [List.length_reverse, Array.length_toList]; omega)]
    rfl
theorem rev_places (n : Nat) : Builtin.Slice.slicePlaces ((n : Int) - 1) (-1) (-1) = n := by
  unfold Builtin.Slice.slicePlaces
  rw [if_neg (by decide)]
  simp only [Int.neg_neg, Int.ediv_one]
  split <;> omega
theorem getItem_tup_rev {t sl : Addr} {items : Array Value} {vl vu vs : Value} {Q : Value → Shared → Prop} (ht : IsTup s.heap t items) (hs : s.heap.IsSliceOf sl vl vu vs) (pl : IsPart vl none) (pu : IsPart vu none) (ps : IsPart vs (some (-1))) (hsz : items.size ≤ sizeLine)
    (h : Q (.ref s.heap.objs.size) { s with heap := s.heap.push { cls := .type "tuple", data := .seq items.toList.reverse.toArray } }) : wpAny (model prog w) A (getItem (.ref t) (.ref sl)) Q E s := by
  have fits : sizeOk (.seq items.toList.reverse.toArray) := by
    show items.toList.reverse.toArray.size ≤ sizeLine
    rw [List.size_toArray, List.length_reverse, Array.length_toList]
    exact hsz
  obtain ⟨os, hos, hcs, hds⟩ := id hs
  have hTs : s.TypeIs (.ref sl) "slice" := ⟨os, hos, hcs⟩
  unfold getItem
  try with_reducible refine wpAny_holding ?_
  first | refine wpAny_bind (wpAny_pure ?_) | skip
  refine wpAny_bind (wpAny_sequenceKey ht.typeIs (by decide) ?_)
  refine wpAny_bind (wpAny_callSpecial?_slot (name := Str.ofString "__getitem__") ht.typeIs slot_tuple_getitem (wpAny_call_entry slot_tuple_getitem ht.typeIs entry_tuple_getitem ?_ (args_tuple_getitem _ _)))
  show wpAny _ _ (Builtin.Tuple.tupleItemsOf (.ref t) >>= _) _ _ s
  refine wpAny_bind (tupleItemsOf_ ht ?_)
  refine wpAny_bind (wpAny_typeOf hTs ?_)
  rw [if_pos (by decide)]
  have ap : wpAny (model prog w) A.in1 (Builtin.Slice.sliceApplied (.ref sl) (pure (items.size : Int))) (fun r s' => r = ((items.size : Int) - 1, -1, items.size) ∧ s' = s) E s := by
    unfold Builtin.Slice.sliceApplied Builtin.Slice.sliceFields
    refine wpAny_bind (wpAny_bind (wpAny_field hos hds (x := vl) rfl (wpAny_bind (wpAny_field hos hds (x := vu) rfl (wpAny_bind (wpAny_field hos hds (x := vs) rfl (wpAny_pure ?_)))))))
    refine wpAny_bind (HT.slicePart_ ps ?_)
    show wpAny _ _ (if ((-1 : Int) == 0) = true then _ else _) _ _ s
    rw [if_neg (by decide)]
    refine wpAny_bind (HT.slicePart_ pl (wpAny_bind (HT.slicePart_ pu (wpAny_bind (wpAny_pure ?_)))))
    show wpAny _ _ (pure (((items.size : Int) - 1), (-1 : Int), Builtin.Slice.slicePlaces ((items.size : Int) - 1) (-1) (-1))) _ _ s
    rw [rev_places]
    exact wpAny_pure ⟨rfl, rfl⟩
  refine wpAny_bind (wpAny_mono ap ?_ fun _ _ z => z)
  rintro _ _ ⟨rfl, rfl⟩
  have no : ¬ ((((items.size : Int) - 1) == 0 && (-1 : Int) == 1 && items.size == items.size) = true) := by
    rw [show ((-1 : Int) == 1) = false from rfl, Bool.and_false, Bool.false_and]
    exact Bool.false_ne_true
  show wpAny _ _ (if (((items.size : Int) - 1) == 0 && (-1 : Int) == 1 && items.size == items.size) = true then _ else _) _ _ _
  rw [if_neg no, rev_pick]
  first
    | exact wpAny_bind (m := Builtin.Tuple.tupleExact _) (wpAny_newObj_type (wpAny_pure ⟨_, rfl, wpAny_pure h⟩) fits)
    | exact wpAny_bind (m := Builtin.Tuple.tupleExact _) (wpAny_newObj_type (wpAny_bind (wpAny_pure (wpAny_pure ⟨_, rfl, wpAny_pure h⟩))) fits)
    | exact wpAny_bind (wpAny_bind (m := Builtin.Tuple.tupleExact _) (wpAny_newObj_type (wpAny_pure (wpAny_pure ⟨_, rfl, wpAny_pure h⟩)) fits))
    | exact wpAny_bind (wpAny_bind (m := Builtin.Tuple.tupleExact _) (wpAny_newObj_type (wpAny_pure ⟨_, rfl, wpAny_pure h⟩) fits))
end
section
variable {X : Cx}
def tRevT (K : PySem.W.Frag) (te : TE) : TE := fun σ H Q => te σ H fun x H1 => ∃ a xs, x = .ref a ∧ SqT K H1 a xs ∧ ∀ p o, H1 p = none → o.dict = none → Q (.ref p) (upd H1 p (.frz o (.tup xs.reverse)))
theorem pe_revT {e : Expr} {te : TE} {k : Nat} {p1 p2 p3 pos : Pos} (he : PE X e te) : PE X (.Subscript e (.Slice none none (some (.UnaryOp .USub (.Constant (.int 1) k p1) p2)) p3) pos) (tRevT X.K te) := by
  refine ⟨fun pins s σ H Q I h => ?_⟩
  refine Subscript_ (thn (he.run pins s σ H _ I h) ?_)
  rintro v s1 ⟨x, H1, I1, r1, a, xs, rfl, hx, q⟩
  cases r1
  have step : PO X (some (.UnaryOp .USub (.Constant (.int 1) k p1) p2)) (tPart (tUn (rU fun i => .int (-i)) (tC (.int 1)))) := po_some (pe_un un_neg pe_int)
  refine wpAny_Slice (thn (po_none.run pins s1 σ H1 (fun o H2 => o = none ∧ H2 = H1) I1 ⟨rfl, rfl⟩) ?_)
  rintro vl s2 ⟨l, _, I2, pl, rfl, rfl⟩
  refine thn (po_none.run pins s2 σ _ (fun o H3 => o = none ∧ H3 = _) I2 ⟨rfl, rfl⟩) ?_
  rintro vu s3 ⟨u, _, I3, pu, rfl, rfl⟩
  refine thn (step.run pins s3 σ _ (fun o H4 => o = some (-1) ∧ H4 = _) I3 ⟨1, rfl, -1, rfl, rfl, rfl⟩) ?_
  rintro vs s4 ⟨o, H4, I4, ps, rfl, e4⟩
  subst e4
  have J : Inv X pins σ H4 { s4 with heap := s4.heap.push { cls := .type "slice", data := .fields #[vl, vu, vs] } } := I4.kept (t' := s4.toks) fun b ob q => Heap.get?_push_of_some _ q
  obtain ⟨its, r, tp, hz⟩ := J.tuple hx
  have len := r.length
  show wpAny (model X.prog X.w) X.A (subscriptTail e (.Slice none none (some (.UnaryOp .USub (.Constant (.int 1) k p1) p2)) p3) (.ref a) (.ref s4.heap.objs.size)) (EP X pins σ Q) X.xe _
  refine tail_any (ops := [.ref a, .ref s4.heap.objs.size]) tp.typeIs (slot_tuple_getitem.lookup) ?_ (by with_unfolding_all rfl)
  refine getItem_tup_rev tp (Heap.IsSliceOf.new _ vl vu vs) pl pu ps (by rw [List.size_toArray]; omega) ?_
  exact new_tup J (by rw [List.length_reverse]; exact hz) r.reverse q
end
end Q
namespace Q
open PySem PySem.Spec PyProof.Rows L2 Gd
variable [Tbl]
section
variable {X : Cx} {n : Nat} {W : XW}
/-! ### xs[i] = v -/
@[simp] def setIx (i : Nat) (x : D) (j : R) (ρ : Ev) : Rt Out := match look ρ j, ρ[i]? with
  | some (.int k), some (.own (.lst ds)) => match ixN ds.length k with
    | some m => .ok .nx (ρ.set i (.own (.lst (ds.set m x))))
    | none => .no
  | _, _ => .no
@[simp] def bSetIx (i : Nat) (f : Mo R) (g : Mo R) : Mo Out := fun ρ => (f ρ).bind fun r ρ1 => match r, ρ1[i]? with
  | .d x, some (.own (.lst _)) => (g ρ1).bind fun j ρ2 => setIx i x j ρ2
  | _, _ => .no
theorem ImL.set {K : PySem.W.Frag} {H : Hp} {x : V} {d : D} (hx : Im K H x d) : ∀ {xs : List V} {ds : List D} (i : Nat), ImL K H xs ds → ImL K H (xs.set i x) (ds.set i d)
  | _, _, _, .nil => .nil
  | _, _, 0, .cons _ r => .cons hx r
  | _, _, i + 1, .cons h r => .cons h (ImL.set hx i r)
theorem xs_setix {i : Nat} {x : Str} {e j : Expr} {p p2 pos : Pos} {f g : Mo R} (hx : PE X (.Name x p) (tVar i)) (he : XD X n W e f) (hj : XD X n W j g)
    (ha : ∀ v, assign (.Subscript (.Name x p) j p2) X.env v = (do
      let ov ← holding [v] (eval (.Name x p) X.env)
      let iv ← holding [v, ov] (eval j X.env)
      standAt p2
      holding [v, ov, iv] (setItem ov iv v)
      release [v, ov, iv] []) := by intro _; rfl)
    (hs : swapsWithSole [.Subscript (.Name x p) j p2] e pos.line X.env = pure false := by rfl) (hw : swappedStores [.Subscript (.Name x p) j p2] e X.env = pure none := by rfl)
    (h1 : (assignEach [.Subscript (.Name x p) j p2] X.env).map (·.2) = [assign (.Subscript (.Name x p) j p2) X.env] := by rfl) :
    XS X n W (.Assign [.Subscript (.Name x p) j p2] e pos) (bSetIx i f g) := weakS (ps_asg he (pg_sub hx hj set_list ha) hs hw h1) fun E σ H ⟨ρ, G, h⟩ => by
  refine ⟨ρ, G, (AftS.bind h).mono fun r ρ1 H1 s1 h1 v rv => ?_⟩
  cases rv with
  | v _ => exact h1.elim
  | @d x im =>
    split at h1
    · next x' ds0 er e0 =>
      cases er
      obtain ⟨p0, xs0, f1, f2, _⟩ := own_lst s1.good e0
      refine ⟨_, f1, ρ1, s1.good, (AftS.bind h1).mono fun jr ρ2 H2 s2 h2 w rw' => ?_⟩
      unfold setIx at h2
      split at h2
      · next k ds ek eo =>
        split at h2
        · next m em =>
          obtain ⟨q0, xs, g1, g2, il⟩ := own_lst s2.good eo
          rw [f1] at g1
          cases g1
          have ix := im.grow (s2.grow s1.good)
          refine ⟨p0, xs, k, m, rfl, (rw'.see s2.good ek).int, g2, by rw [il.len]; exact em, ?_⟩
          exact h2 σ _ (Stp.write (n := n) s2.good eo f1 g2 (.lst il) (h' := .lst (xs.set m v)) (.lst (il.set ix m)))
        · exact h2.elim
      · exact h2.elim
    · exact h1.elim
/-! ### t[::-1], z * n -/
@[simp] def revF : D → Option D
  | .tuple ds => some (.tuple ds.reverse)
  | _ => none
theorem xd_rev {e : Expr} {k : Nat} {p1 p2 p3 pos : Pos} {f : Mo R} (he : XD X n W e f) : XD X n W (.Subscript e (.Slice none none (some (.UnaryOp .USub (.Constant (.int 1) k p1) p2)) p3) pos) (e1 revF f) := weakE (pe_revT he) fun σ H Q h =>
  op1_run (r := fun x H1 Q => ∃ a xs, x = .ref a ∧ SqT X.K H1 a xs ∧ ∀ p (o : Obj), H1 p = none → o.dict = none → Q (.ref p) (upd H1 p (.frz o (.tup xs.reverse)))) (fun x a d H Q hv hf q => by
    cases a with
    | tuple ds =>
      cases hf
      obtain ⟨p, xs, rfl, hp, ip⟩ := hv.tuple
      exact ⟨p, xs, rfl, hp, fun t o ht ho => q _ _ (same_upd ht) (.tup ⟨o, upd_same, ho⟩ (ip.reverse.same (same_upd ht)))⟩
    | _ => cases hf) σ H Q h
@[simp] def fRev (f : Mo R) : Mo Ob := fun ρ => (f ρ).bind fun r ρ1 => asL ((look ρ1 r).bind fun d => match d with
  | .list ds => some ds.reverse
  | _ => none) ρ1
end
end Q
namespace Q
open PySem PySem.Spec PyProof.Rows L2 Gd
variable [Tbl]
theorem units65 {k : Nat} {A : Around} (r : Room k A) : A.units + 65 < cLine := by
  have := r.un
  omega
section
variable {X : Cx} {n : Nat} {W : XW}
@[simp] def fNewD : Mo Ob := fun ρ => .ok (.dk []) ρ
theorem xf_newD {pos : Pos} : XF X n W (.Dict [] [] pos) fNewD := weakE pe_dnewK fun σ H Q ⟨ρ, G, h⟩ => fun p hp => h _ (Stp.same G (same_upd hp)) p _ hp upd_same (.dk .nil) (new_own G hp)
/-! ### z * k -/
theorem op_rep_str : OpR X (binaryOp .Mult) (fun x y H Q => ∃ z n, x = .str z ∧ y = .int n ∧ MulOk z n ∧ Q (.str (Txt.mul z n)) H) := by
  rintro pins s σ H x y v u Q I rx ry ⟨z, n, rfl, rfl, ok, q⟩
  obtain ⟨t, rfl⟩ := rx
  obtain ⟨t', rfl⟩ := ry
  exact SB.mul ok fun _ k => ⟨.str _, H, I.tok _, ⟨_, rfl⟩, q⟩
theorem mulOk_of {z : Str} {k : Int} (h : 0 ≤ k ∧ k ≤ 1000 ∧ z.length ≤ 1000) : MulOk z k := by
  obtain ⟨h0, h1, h2⟩ := h
  have m : (z.length : Int) * k ≤ 1000 * 1000 := Int.mul_le_mul (by omega) h1 h0 (by decide)
  refine ⟨by simp; omega, fun a b c => ?_, fun a b => ?_⟩
  · have : (z.length : Int) ≤ (2 ^ 63 - 1) / k := Int.le_ediv_of_mul_le (by omega) (by omega)
    omega
  · have e : ((z.length * k.toNat : Nat) : Int) = (z.length : Int) * k := by
      rw [Int.natCast_mul, Int.toNat_of_nonneg h0]
    have : z.length * k.toNat ≤ 1000000 := by omega
    have e2 : sizeLine = 16777216 := by decide
    show Builtin.Str.tooLong _ = false
    unfold Builtin.Str.tooLong
    simp
    omega
def abcS : Str := "abcdefghijklmnopqrstuvwxyz"
def repSD : D → D → Option D
  | .str z, .int k => if 0 ≤ k ∧ k ≤ 1000 ∧ z.length ≤ 1000 then some (.str (Txt.mul z k)) else none
  | _, _ => none
theorem o_repS : OpR X (binaryOp .Mult) (rQ2 X.K repSD) := by
  rintro pins s σ H x y v u Q I rx ry ⟨a, b, d, ha, hb, e, q⟩
  unfold repSD at e
  split at e
  · split at e
    · next c =>
      cases e
      exact op_rep_str pins s σ H x y v u Q I rx ry ⟨_, _, ha.str, hb.int, mulOk_of c, q _ H (Same.refl H) (.str _)⟩
    · cases e
  · cases e
noncomputable def mulA : D → D → Option D
  | .str z, b => repSD (.str z) b
  | a, b => mulD a b
theorem o_mulA : OpR X (binaryOp .Mult) (rQ2 X.K mulA) := by
  rintro pins s σ H x y v u Q I rx ry ⟨a, b, d, ha, hb, e, q⟩
  cases a with
  | str z => exact o_repS pins s σ H x y v u Q I rx ry ⟨_, b, d, ha, hb, e, q⟩
  | _ => exact o_mul pins s σ H x y v u Q I rx ry ⟨_, b, d, ha, hb, e, q⟩
end
end Q
namespace Q
open PySem PySem.Spec PyProof.Rows L2 Gd
variable [Tbl]
section
variable {X : Cx} {n : Nat} {W : XW}
/-! ### a statement that is not reached -/
@[simp] def bNo : Mo Out := fun _ => .no
/-! ### a < b < c -/
def chainK (F : D → D → Option D) (b : R) (h : Mo R) (r1 : Option D) : Mo R := fun ρ => match r1 with
  | some (.bool k) => if k = true then (h ρ).bind fun c ρ3 => lift (F2 F ρ3 b c) ρ3 else .ok (.d (.bool false)) ρ
  | _ => .no
def eChain (F G : D → D → Option D) (f g h : Mo R) : Mo R := fun ρ => (f ρ).bind fun a ρ1 => (g ρ1).bind fun b ρ2 => chainK G b h (F2 F ρ2 a b) ρ2
theorem chain_run {r r' : R2} {F G : D → D → Option D} {f g h : Mo R} (hF : Op2 X.K r F) (hG : Op2 X.K r' G) (σ : St) (H : Hp) (Q : VK) (hh : tX X.K n W (eChain F G f g h) σ H Q) : tChain r r' (tX X.K n W f) (tX X.K n W g) (tX X.K n W h) σ H Q := by
  obtain ⟨ρ, G0, hh⟩ := hh
  refine ⟨ρ, G0, (Aft.bind hh).mono fun a ρ1 H1 s1 h1 v rv => ⟨ρ1, s1.good, (Aft.bind h1).mono fun b ρ2 H2 s2 h2 u ru => ?_⟩⟩
  have rv2 := rv.grow (s2.grow s1.good)
  cases e1 : F2 F ρ2 a b with
  | none =>
    rw [e1] at h2
    exact h2.elim
  | some d =>
    rw [e1] at h2
    have e2 := e1
    unfold F2 at e2
    split at e2
    · next x y ex ey =>
      cases d with
      | bool k =>
        refine hF v u x y (.bool k) H2 _ (rv2.see s2.good ex) (ru.see s2.good ey) e2 fun z H3 s3 iz => ?_
        cases iz
        refine ⟨k, rfl, ?_⟩
        have st := Stp.same (n := n) s2.good s3
        cases k with
        | false =>
          have h2 : Aft X.K n W H2 σ ρ2 (.ok (.d (.bool false)) ρ2) fun r _ H' => ∀ v, RR X.K H' σ v r → Q v H' := h2
          exact iteF (h2 H3 st _ (.d (.bl false)))
        | true =>
          have h2 : Aft X.K n W H2 σ ρ2 ((h ρ2).bind fun c ρ3 => lift (F2 G ρ3 b c) ρ3) fun r _ H' => ∀ v, RR X.K H' σ v r → Q v H' := h2
          refine iteT ⟨ρ2, st.good, ?_⟩
          have h3 : Aft X.K n W H3 σ ρ2 ((h ρ2).bind fun c ρ3 => lift (F2 G ρ3 b c) ρ3) fun r _ H' => ∀ v, RR X.K H' σ v r → Q v H' := by
            generalize (h ρ2).bind (fun c ρ3 => lift (F2 G ρ3 b c) ρ3) = z at h2
            cases z with
            | no => exact h2
            | ok a ρ' => exact fun H' s => h2 H' (st.trans s)
            | ex c d ρ' => exact fun H' s => h2 H' (st.trans s)
          refine (Aft.bind h3).mono fun c ρ3 H4 s4 h4 w rw' => ?_
          obtain ⟨d2, e3, q⟩ := Aft.out s4.good h4
          unfold F2 at e3
          split at e3
          · next x' y' ex' ey' => exact hG u w x' y' d2 H4 Q (((ru.grow (Grow.same s3)).grow (s4.grow st.good)).see s4.good ex') (rw'.see s4.good ey') e3 q
          · cases e3
      | _ => exact h2.elim
    · cases e2
theorem xd_chain {a b c : Expr} {op op' : CmpOp} {pos : Pos} {r r' : R2} {F G : D → D → Option D} {f g h : Mo R} (ho : OpR X (compareOp op) r) (hF : Op2 X.K r F) (ho' : OpR X (compareOp op') r') (hG : Op2 X.K r' G) (ha : XD X n W a f) (hb : XD X n W b g) (hc : XD X n W c h)
    (hm : lastMarks [op, op'] [b, c] = false := by with_unfolding_all rfl) : XD X n W (.Compare a [op, op'] [b, c] pos) (eChain F G f g h) := weakE (pe_chain ho ho' ha hb hc hm) (chain_run hF hG)
theorem xb_chain {a b c : Expr} {op op' : CmpOp} {pos : Pos} {r r' : R2} {F G : D → D → Option D} {f g h : Mo R} (ho : OpR X (compareOp op) r) (hF : Op2 X.K r F) (ho' : OpR X (compareOp op') r') (hG : Op2 X.K r' G) (ha : XD X n W a f) (hb : XD X n W b g) (hc : XD X n W c h)
    (hm : lastMarks [op, op'] [b, c] = false := by with_unfolding_all rfl) : XB X n W (.Compare a [op, op'] [b, c] pos) (asB (eChain F G f g h)) := weakT (pt_chain ho ho' ha hb hc hm) fun σ H Q hh => chain_run hF hG σ H _ (asB_run hh)
/-! ### numbers of any kind -/
def numD : D → Option Int
  | .int i => some i
  | .bool b => some (if b = true then 1 else 0)
  | _ => none
def addAny (a b : D) : Option D := (addD a b).or (match numD a, b with
  | some i, .int j => some (.int (i + j))
  | _, _ => none)
def subAny (a b : D) : Option D := match numD a, b with
  | some i, .int j => some (.int (i - j))
  | _, _ => none
/-- str of a number -/
noncomputable def strNum : List D → Option D
  | [.int i] => if cb (i.natAbs.log2 < 1920) = true then some (.str (toString i : String)) else none
  | [.bool b] => some (.str (if b then "True" else "False" : String))
  | _ => none
/-! ### t != () -/
def emptyD : D → Option Bool
  | .tuple ds => some ds.isEmpty
  | _ => none
def nilD : D → Bool
  | .tuple [] => true
  | _ => false
def neAny (a b : D) : Option D := if nilD b = true then (emptyD a).map fun r => .bool (!r) else neF a b
/-! ### upper -/
def upperD : D → Option D
  | .str z => if z.length ≤ 5592405 then some (.str (Txt.upper z)) else none
  | _ => none
/-! ### a tuple of one thing, so many times -/
def repTD : D → D → Option D
  | .tuple (d :: ds), .int k => if 0 ≤ k ∧ k ≤ 1000 ∧ ds.length < 1000 then some (.tuple (List.replicate k.toNat (d :: ds)).flatten) else none
  | _, _ => none
/-! ### t.index(x), texts -/
def indexD : D → D → Option D
  | .tuple ds, .str z => (strsD ds).bind fun ns => if z ∈ ns then some (.int (ns.idxOf z : Nat)) else none
  | _, _ => none
def isTup : D → Bool
  | .tuple _ => true
  | _ => false
@[simp] def eIndex (f g : Mo R) : Mo R := fun ρ => (f ρ).bind fun a ρ1 => match a with
  | .d x => if isTup x = true then (g ρ1).bind fun b ρ2 => lift ((look ρ2 b).bind (indexD x)) ρ2 else .no
  | .v _ => .no
end
end Q
namespace Q
open PySem PySem.Spec PyProof.Rows L2 Gd
variable [Tbl]
/-! ### zip of a list and a tuple, in either sequence -/
/-- a tuple, or a list -/
def SqB : Bool → PySem.W.Frag → Hp → Addr → List V → Prop
  | true, K, H, a, xs => SqT K H a xs
  | false, K, H, a, xs => SqL K H a xs
def ItB : Bool → Heap → Addr → Addr → Nat → Prop
  | true, h, it, l, i => h.IsTupleIter it l i
  | false, h, it, l, i => h.IsListIter it l i
def SrcB : Bool → Heap → Addr → Array Value → Prop
  | true, h, l, items => h.IsTuple l items
  | false, h, l, items => h.IsList l items
def begB : Bool → Addr → Obj
  | true, l => { cls := .type "tuple_iterator", data := .fields #[.ref l, .int 0 0] }
  | false, l => { cls := .type "list_iterator", data := .fields #[.ref l, .int 0 0] }
section
variable {X : Cx} {pins : List (Addr × Obj)} {σ : L2.St} {H : Hp} {s : Shared}
end
def ItzM (b1 b2 : Bool) (K : PySem.W.Frag) (a b : Addr) : It :=
  ⟨fun i H => ∃ (xs ys : List V) (x y : V), SqB b1 K H a xs ∧ SqB b2 K H b ys ∧ xs[i]? = some x ∧ ys[i]? = some y,
    fun i H v H' => ∃ T x y, v = .ref T ∧ H T = none ∧ H' = upd H T (.tup [x, y]) ∧ (∀ xs, SqB b1 K H a xs → xs[i]? = some x) ∧ ∀ ys, SqB b2 K H b ys → ys[i]? = some y,
    fun i H => ∃ xs ys : List V, SqB b1 K H a xs ∧ SqB b2 K H b ys ∧ i = min xs.length ys.length⟩
def iZipM (K : PySem.W.Frag) (ta : TA) : TI := fun σ H R => ta σ H fun vs H1 => ∃ b1 b2 a b xs ys, vs = [.ref a, .ref b] ∧ SqB b1 K H1 a xs ∧ SqB b2 K H1 b ys ∧ R (ItzM b1 b2 K a b) H1
section
variable {X : Cx} {n : Nat} {W : XW}
@[simp] def zipM : List D → Option (List D)
  | [.list a, .tuple b] => some (zipD a b)
  | [.tuple a, .list b] => some (zipD a b)
  | [.tuple a, .tuple b] => some (zipD a b)
  | [.list a, .list b] => some (zipD a b)
  | _ => none
end
end Q
namespace Q
open PySem PySem.Spec PyProof.Rows L2 Gd
variable [Tbl]
section
variable {X : Cx} {n : Nat} {W : XW}
/-! ### d[k], k in d -/
def lookKV (ds : List (D × D)) (k : Key) : Option D := (ds.find? fun q => decide (keyOf q.1 = some k)).map (·.2)
def keysOk (ds : List (D × D)) : Bool := ds.all fun q => (keyOf q.1).isSome
def getK : D → D → Option D
  | .dict ds, y => if keysOk ds = true then (keyOf y).bind (lookKV ds) else none
  | _, _ => none
def inK : D → D → Option D
  | y, .dict ds => if keysOk ds = true then (keyOf y).map fun k => .bool (lookKV ds k).isSome else none
  | _, _ => none
def ninK : D → D → Option D
  | y, .dict ds => if keysOk ds = true then (keyOf y).map fun k => .bool (!(lookKV ds k).isSome) else none
  | _, _ => none
end
end Q
namespace Q
open PySem PySem.Spec PyProof.Rows L2 Gd PySem.MeetsSeq PySem.SeqAt
variable [Tbl]
def dctIn : D → D → Option Bool
  | .dict ds, .tuple ys => if keysOk ds = true ∧ (strsD ys).isSome = true then some false else none
  | .dict ds, .list ys => if keysOk ds = true ∧ (strsD ys).isSome = true then some false else none
  | .str z, .tuple ys => (strsD ys).map fun ns => ns.contains z
  | .str z, .list ys => (strsD ys).map fun ns => ns.contains z
  | _, _ => none
def hasS (z : Str) : Value → Bool
  | .str a _ => a == z
  | _ => false
def inAny (x y : D) : Option D := ((inD x y).or (dctIn x y)).map .bool
def ninAny (x y : D) : Option D := ((inD x y).or (dctIn x y)).map fun r => .bool (!r)
section
variable {X : Cx}
end
end Q
namespace Q
open PySem PySem.Spec PyProof.Rows L2 Gd
variable [Tbl]
/-! ### repr of data whose dicts are empty -/
mutual
def nilDs : D → Bool
  | .none => true
  | .bool _ => true
  | .int _ => true
  | .str _ => true
  | .list xs => nilDsL xs
  | .tuple xs => nilDsL xs
  | .dict kvs => kvs.isEmpty
def nilDsL : List D → Bool
  | [] => true
  | x :: xs => nilDs x && nilDsL xs
end
mutual
/-- what stands in the heap; a dict is empty and not the modules' own -/
inductive Rn (h : Heap) : Value → D → Prop
  | non : Rn h .none .none
  | bl (b : Bool) : Rn h (.bool b) (.bool b)
  | int (i : Int) (t : Tok) : Rn h (.int i t) (.int i)
  | str (x : Str) (t : Tok) : Rn h (.str x t) (.str x)
  | lst {a : Addr} {o : Obj} {vs : Array Value} {n : Nat} {xs : List D} : h.get? a = some o → o.cls = .type "list" → o.data = .seq vs n → RnL h vs.toList xs → Rn h (.ref a) (.list xs)
  | tup {a : Addr} {o : Obj} {vs : Array Value} {n : Nat} {xs : List D} : h.get? a = some o → o.cls = .type "tuple" → o.data = .seq vs n → RnL h vs.toList xs → Rn h (.ref a) (.tuple xs)
  | dct {a : Addr} {o : Obj} {n : Nat} : h.get? a = some o → o.cls = .type "dict" → o.data = .dict #[] n → (a == sysModules) = false → Rn h (.ref a) (.dict [])
inductive RnL (h : Heap) : List Value → List D → Prop
  | nil : RnL h [] []
  | cons {v : Value} {vs : List Value} {d : D} {ds : List D} : Rn h v d → RnL h vs ds → RnL h (v :: vs) (d :: ds)
end
mutual
theorem Rn.reads {h : Heap} : ∀ {v : Value} {d : D}, Rn h v d → ∃ as, Reads h v d as
  | _, _, .non => ⟨_, .none⟩
  | _, _, .bl b => ⟨_, .bool b⟩
  | _, _, .int i t => ⟨_, .int i t⟩
  | _, _, .str x t => ⟨_, .str x t⟩
  | _, _, .lst h1 h2 h3 h4 => let ⟨_, q⟩ := RnL.reads h4; ⟨_, .list h1 h2 h3 q⟩
  | _, _, .tup h1 h2 h3 h4 => let ⟨_, q⟩ := RnL.reads h4; ⟨_, .tuple h1 h2 h3 q⟩
  | _, _, .dct h1 h2 h3 _ => ⟨_, .dict h1 h2 h3 .nil .nil⟩
theorem RnL.reads {h : Heap} : ∀ {vs : List Value} {ds : List D}, RnL h vs ds → ∃ as, ReadsAll h vs ds as
  | _, _, .nil => ⟨_, .nil⟩
  | _, _, .cons x r => let ⟨_, p⟩ := Rn.reads x; let ⟨_, q⟩ := RnL.reads r; ⟨_, .cons p q⟩
end
section
variable {P : Program} {w : World} {h : Heap}
/-- the text of a thing, and the things inside it -/
def Tells (P : Program) (w : World) (h : Heap) (v : Value) (d : D) : Prop := ∃ bs, ReadAtMost h d.depth bs ∧ ReprK P w bs h d.depth v d.shown
def TellsL (P : Program) (w : World) (h : Heap) (vs : List Value) (ds : List D) : Prop := ∃ bs, ReadAtMost h (PyData.depthAll ds) bs ∧ ReprAllK P w bs h (PyData.depthAll ds) vs (PyData.shownAll ds)
theorem no_atMost {n : Nat} : ReadAtMost h n [] := fun _ z => nomatch z
mutual
theorem Rn.tells : ∀ {v : Value} {d : D}, Rn h v d → d.showable = true → d.shown.length ≤ sizeLine → Tells P w h v d
  | _, _, .non, _, _ => ⟨[], no_atMost, ReprK.of_is ReprIs.none _ _ _⟩
  | _, _, .bl b, _, _ => ⟨[], no_atMost, ReprK.of_is (ReprIs.bool b) _ _ _⟩
  | _, _, .int i t, hs, _ => ⟨[], no_atMost, ReprK.of_is (ReprIs.int t (of_decide_eq_true hs)) _ _ _⟩
  | _, _, .str x t, _, hz => ⟨[], no_atMost, ReprK.of_is (ReprIs.str x t hz) _ _ _⟩
  | _, _, .lst (a := a) (vs := vs) (xs := xs) h1 h2 h3 h4, hs, hz => by
    have hz : (listText (PyData.shownAll xs)).length ≤ sizeLine := hz
    obtain ⟨bs, hb, hk⟩ := RnL.tells h4 hs fun t ht => Nat.le_trans (listText_mem_le ht) hz
    obtain ⟨_, r⟩ := Rn.reads (Rn.lst h1 h2 h3 h4)
    have dd : PyData.depthAll xs < (PyData.list xs).depth := Nat.lt_succ_self _
    have na := not_mem_of_deeper r dd hb
    refine ⟨a :: bs, ReadAtMost.cons r (Nat.le_of_lt dd) hb, ?_⟩
    show ReprK P w _ h (PyData.depthAll xs + 1) _ (listText (PyData.shownAll xs))
    obtain ⟨l⟩ := vs
    cases l with
    | nil =>
      cases h4
      exact ReprK.listEmpty h1 h2 h3
    | cons x l => exact ReprK.list h1 h2 h3 na (by simpa using hk.length_eq) fun i y e => hk.item i y (by simpa using e)
  | _, _, .tup (a := a) (xs := xs) h1 h2 h3 h4, hs, hz => by
    have hz : (tupleText (PyData.shownAll xs)).length ≤ sizeLine := hz
    obtain ⟨bs, hb, hk⟩ := RnL.tells h4 hs fun t ht => Nat.le_trans (tupleText_mem_le ht) hz
    obtain ⟨_, r⟩ := Rn.reads (Rn.tup h1 h2 h3 h4)
    have dd : PyData.depthAll xs < (PyData.tuple xs).depth := Nat.lt_succ_self _
    exact ⟨a :: bs, ReadAtMost.cons r (Nat.le_of_lt dd) hb, ReprK.tuple h1 h2 h3 (not_mem_of_deeper r dd hb) hk⟩
  | _, _, .dct (a := a) h1 h2 h3 h4, _, _ => by
    obtain ⟨_, r⟩ := Rn.reads (Rn.dct h1 h2 h3 h4)
    exact ⟨[a], ReadAtMost.cons (n := 0) r (Nat.zero_le _) no_atMost, ReprK.dict (d := 0) h1 h2 h3 h4 (fun z => nomatch z) .nil⟩
theorem RnL.tells : ∀ {vs : List Value} {ds : List D}, RnL h vs ds → PyData.showableAll ds = true → (∀ t ∈ PyData.shownAll ds, t.length ≤ sizeLine) → TellsL P w h vs ds
  | _, _, .nil, _, _ => ⟨[], no_atMost, .nil⟩
  | _, _, .cons (d := d) (ds := ds) x r, hs, hz => by
    have hs : (d.showable && PyData.showableAll ds) = true := hs
    rw [Bool.and_eq_true] at hs
    have hz : ∀ t ∈ d.shown :: PyData.shownAll ds, t.length ≤ sizeLine := hz
    obtain ⟨b1, m1, k1⟩ := Rn.tells x hs.1 (hz _ List.mem_cons_self)
    obtain ⟨b2, m2, k2⟩ := RnL.tells r hs.2 fun t ht => hz t (List.mem_cons_of_mem _ ht)
    have l1 : d.depth ≤ PyData.depthAll (d :: ds) := Nat.le_max_left _ _
    have l2 : PyData.depthAll ds ≤ PyData.depthAll (d :: ds) := Nat.le_max_right _ _
    exact ⟨b1 ++ b2, (m1.mono l1).append (m2.mono l2), .cons ((k1.more fun b q => List.mem_append_left _ q).level_le l1) (k2.more_le (fun b q => List.mem_append_right _ q) l2)⟩
end
end
section
variable {X : Cx} {pins : List (Addr × Obj)} {σ : L2.St} {H : Hp} {s : Shared}
mutual
theorem Im.rn (I : Inv X pins σ H s) : ∀ {v : V} (d : D) {u : Value}, Im X.K H v d → nilDs d = true → RelV v u → Rn s.heap u d
  | _, .none, _, .non, _, r => by cases r; exact .non
  | _, .bool b, _, .bl _, _, r => by cases r; exact .bl b
  | _, .int i, _, .int _, _, r => by obtain ⟨t, rfl⟩ := r; exact .int i t
  | _, .str x, _, .str _, _, r => by obtain ⟨t, rfl⟩ := r; exact .str x t
  | _, .tuple ds, _, .tup h q, c, r => by
    cases r
    obtain ⟨its, rv, ⟨o, e, e2, n, e3⟩, _⟩ := I.tuple h.sq
    exact .tup e e2 e3 (by simpa using ImL.rn I ds q c rv)
  | _, .list ds, _, .lst h q, c, r => by
    cases r
    obtain ⟨its, rv, ⟨o, n, e, e2, _, e3⟩, _⟩ := I.list h.sq
    exact .lst e e2 e3 (by simpa using ImL.rn I ds q c rv)
  | _, .dict [], _, .dic h q, c, r => by
    cases r
    cases q
    obtain ⟨_, _, ns, vs, kv, d⟩ := I.hok _ _ h
    cases kv
    obtain ⟨o, es, ep, e, ex, hd, _, hl, _⟩ := d
    have : es = #[] := by
      apply Array.toList_inj.mp
      generalize es.toList = l at hl
      cases hl
      rfl
    subst this
    exact .dct e ex.1 hd ns
theorem ImL.rn (I : Inv X pins σ H s) : ∀ {vs : List V} (ds : List D) {us : List Value}, ImL X.K H vs ds → nilDsL ds = true → Vals vs us → RnL s.heap us ds
  | _, [], _, .nil, _, r => by cases r; exact .nil
  | _, d :: ds, _, .cons h q, c, r => by
    have c : (nilDs d && nilDsL ds) = true := c
    rw [Bool.and_eq_true] at c
    cases r with
    | cons r1 r2 => exact .cons (Im.rn I d h c.1 r1) (ImL.rn I ds q c.2 r2)
end
theorem Vw.rn {v : V} {d : D} {u : Value} (I : Inv X pins σ H s) (h : Vw X.K H v d) (c : nilDs d = true) (r : RelV v u) : Rn s.heap u d := by
  cases h with
  | im h => exact Im.rn I d h c r
  | lst e q =>
    cases r
    obtain ⟨its, rv, ⟨o, n, e, e2, _, e3⟩, _⟩ := I.list (.inl (.inl e))
    exact .lst e e2 e3 (by simpa using ImL.rn I _ q c rv)
  | dic e q =>
    rename_i kvs ds
    cases ds with
    | cons p t => cases c
    | nil =>
    cases r
    cases q
    obtain ⟨_, ns, vs, kv, d⟩ := I.hok _ _ e
    cases kv
    obtain ⟨o, es, ep, e, ex, hd, _, hl, _⟩ := d
    have : es = #[] := by
      apply Array.toList_inj.mp
      generalize es.toList = l at hl
      cases hl
      rfl
    subst this
    exact .dct e ex.1 hd ns
noncomputable def reprE : List D → Option D
  | [d] => if cb (d.showable = true ∧ nilDs d = true ∧ d.depth ≤ 60 ∧ d.shown.length ≤ sizeLine) = true then some (.str d.shown) else none
  | _ => none
end
end Q
namespace M
open PySem PySem.Spec PyProof.Rows L2 Gd
/-! ### len(set(t)), t a tuple of texts -/
/-- how many different texts there are, some seen before -/
def dcount : List Str → List Str → Nat
  | _, [] => 0
  | seen, x :: xs => (if seen.contains x = true then 0 else 1) + dcount (seen ++ [x]) xs
section
variable {prog : Program} {w : World} {A : Around} {R : Result → Shared → Prop} {I : Addr} {fp wr : List Addr} {G : Array GenState → Array GenState → Prop} {n : Nat} {P : Nat → Value → Prop} {St : Nat → Shared → Prop}
end
section
variable {prog : Program} {w : World} {A : Around} {E : Value → Shared → Prop} {s : Shared}
end
section
variable {X : Cx}
/-- len(set(t)), t a tuple of texts -/
def tLenSetT (K : PySem.W.Frag) (ta : TE) : TE := fun σ H Q => ta σ H fun x H1 => ∃ l, ∃ xs : List Str, x = .ref l ∧ SqT K H1 l (xs.map V.str) ∧ xs.length ≤ 1000 ∧ Q (.int (dcount [] xs)) H1
end
end M
namespace Q
open PySem PySem.Spec PyProof.Rows L2 Gd
variable [Tbl]
variable {X : Cx} {n : Nat} {W : XW}
/-! ### len(set(t)), x.strip(y), x.join(y) -/
def lenSetD : D → Option D
  | .tuple ds => (strsD ds).bind fun ns => if ns.length ≤ 1000 then some (.int (M.dcount [] ns : Nat)) else none
  | _ => none
/-- a method of a text with one argument -/
@[simp] def eStrM (F : Str → D → Option D) (f g : Mo R) : Mo R := fun ρ => (f ρ).bind fun a ρ1 => match a with
  | .d (.str z) => (g ρ1).bind fun b ρ2 => lift ((look ρ2 b).bind (F z)) ρ2
  | _ => .no
def stripF (z : Str) : D → Option D
  | .str y => if z.length ≤ 10000000 then some (.str (Txt.stripChars z y)) else none
  | _ => none
def joinL (z : Str) (ds : List D) : Option D := (strsD ds).bind fun ys => if (ys.map (·.length)).sum + ys.length * z.length ≤ 16777216 then some (.str (Txt.join z ys)) else none
def joinF (z : Str) : D → Option D
  | .list ds => joinL z ds
  | .tuple ds => joinL z ds
  | _ => none
end Q
namespace Q
open PySem PySem.Spec PyProof.Rows L2 Gd
variable [Tbl]
variable {X : Cx} {n : Nat} {W : XW}
/-! ### len of a dict -/
def lenK : List D → Option D
  | [.dict ds] => if keysOk ds = true then some (.int ds.length) else none
  | _ => none
end Q
namespace Q
open PySem PySem.Spec PyProof.Rows L2 Gd
variable [Tbl]
/-! ### errors: what a raise leaves, what a try keeps -/
section
variable {X : Cx} {pins : List (Addr × Obj)} {σ : L2.St} {H : Hp} {s : Shared}
/-- the thing at a, held so far by a pin alone, is known from now on -/
theorem hold_thing {a : Addr} {oe : Obj} (I : Inv X pins σ H s) (ea : s.heap.get? a = some oe) (fe : ∃ vs, oe.data = .fields vs) (na : H a = none) (n0 : X.s_0.heap.get? a = none) (nL : a ≠ X.env.locals) (np : ∀ p ∈ X.pn ++ pins, p.1 ≠ a) :
    Inv X pins σ (upd H a (.frz oe (.ext fun h => h.get? a = some oe))) s := by
  have old : ∀ {b : Addr} {u : HO}, H b = some u → upd H a (.frz oe (.ext fun h => h.get? a = some oe)) b = some u := fun {b u} q => by
    rw [upd_ne (ne_of_none q na)]
    exact q
  have nw : ∀ {b : Addr}, b ≠ a → H b = none → upd H a (.frz oe (.ext fun h => h.get? a = some oe)) b = none := fun {b} ne q => by
    rw [upd_ne ne]
    exact q
  refine ⟨I.ok, I.os, I.bare, ⟨I.base.keep, I.base.slot, fun b o q n x => ?_, I.base.there, fun b xs q => old (I.base.tups b xs q), fun b o u q => old (I.base.frzs b o u q), fun b ps q => ?_⟩, I.loc, I.cell, nw nL.symm I.free, fun x c q => ?_, fun p hp => ?_, fun b u q => ?_, I.len⟩
  · refine nw (fun z => ?_) (I.base.free b o q n x)
    rw [z, n0] at q
    cases q
  · obtain ⟨m, z⟩ := I.base.tbls b ps q
    exact ⟨m, old z⟩
  · refine nw (fun z => ?_) (I.freeC x c q)
    obtain ⟨v, oc, hc, hd⟩ := I.cell x c q
    rw [z, ea] at hc
    cases hc
    obtain ⟨vs, hv⟩ := fe
    rw [hv] at hd
    cases hd
  · obtain ⟨h1, h2, h3, h4, h5⟩ := I.pin p hp
    exact ⟨h1, nw (np p hp) h2, h3, h4, h5⟩
  · by_cases hb : b = a
    · subst hb
      rw [upd_same] at q
      cases q
      exact ⟨ea, ea, ⟨oe, ea⟩, fun h1 h2 z k => k _ z⟩
    · rw [upd_ne hb] at q
      exact (I.hok b u q).stay (fun _ _ _ z => z) (fun c z => old z) fun c xs z => old z
end
/-- what is wished of an error of a try's body that the clause may keep in slot j -/
def wKeep (K : PySem.W.Frag) (c : Value) (i j : Nat) (Wout : WX) (D : Ends) : WX := fun cls d σ H =>
  ∃ b, PySem.W.exmOne K cls c = some b ∧
    (b = true → ∀ (a : Addr) (oe : Obj), H a = none → Zc cls d oe → (∃ vs, oe.data = .fields vs) → D.nx (((σ.set i (some (.ref a))).set j (some (.ref a))).set i none) (upd H a (.frz oe (.ext fun h => h.get? a = some oe)))) ∧ (b = false → Wout cls d σ H)
section
variable {X : Cx} {x n z : Str} {c : Value} {i j : Nat} {body : List Stmt} {np p1 p2 p3 pos pos' : Pos} {tb : WX → TS} {Wout : WX}
end
end Q
namespace Q
open PySem PySem.Spec PyProof.Rows L2 Gd
variable [Tbl]
/-! ### defs that may raise -/
def errD (f : Str) (d : D) : D := .tuple [.str f, d]
/-- a wish about an error's class and field, as a wish about its class and dict -/
def wE (K : PySem.W.Frag) (Wx : WX) : XW := fun c d σ H => ∀ (C dd : Addr) (f : Str) (v : V) (d' : D), d = errD f d' → PySem.W.nsIn K mainGlobals c = some (some (.ref C)) → H dd = some (.xd [(f, v)]) → Im K H v d' → Wx (.ref C) (some dd) σ H
structure FnGX (P : Program) (w : World) (K : PySem.W.Frag) (mg : Str → Option Value) (base : Heap) (k : Nat) (f : Addr) (fd : FuncData) (ps : List Str) (sp : Sp) : Prop where
  len : ∀ vs H Q E, sp vs H Q E → vs.length = ps.length
  go : ∀ {A : Around} {outer : List Env} {s : Shared} {H : Hp} {args : Args} {us : List Value} {vs : List V} {Q : VK} {E : XK}, A.guards = some [] → Room k A →
    Env0 P w K mg base A outer s H → BindsTo s fd args (ps.zip us) → Vals vs us → sp vs H Q E → codeAny (model P w) A (.call (.ref f) args) (CR (L2.CX P w) outer P w H s Q E) s
section
variable {P : Program} {w : World} {K : PySem.W.Frag} {mg : Str → Option Value} {base : Heap} {k : Nat} {f : Addr} {fd : FuncData} {ps : List Str} {sp : Sp}
theorem okGX {x qual : Str} {st : Stmt} {N : List Str} (F : Fun K x qual st f fd) (S : FnScope N ps (defScope st)) (len : ∀ vs H Q E, sp vs H Q E → vs.length = ps.length)
    (B : ∀ (cdv : Value) (A : Around) (outer : List Env) (s : Shared) (H : Hp) (vs : List V) (Q : VK) (E : XK), A.guards = some [] → Room k (A.deeper (envOfC qual (defScope st) s.heap.objs.size f cdv)) → sp vs H Q E →
      ∃ t, PSs (cxOf (L2.CX P w) P w K mg base N qual (defScope st) f cdv A outer s H E) (defBody st) t ∧ t { nx := fun _ H' => Q .non H', rt := Q } (start N vs) H) : FnGX P w K mg base (k + 1) f fd ps sp := by
  obtain ⟨oc, od, kV, doc, pm, an, cdv, ct, osl, rfl, lk, hcd⟩ := F.ex
  refine ⟨len, fun {A outer s H args us vs Q E} g room env0 bt rel want => ?_⟩
  have kin : K.In s.heap := env0.mod.kin.keeps fun b o q => (env0.bs b o q).1
  have nol : s.heap.NoLimit := env0.mod.nolimit.keeps fun b o q => (env0.bs b o q).1
  refine codeAny_call_function room.depth (kin _ _ lk) rfl S.co S.gen rfl (PySem.W.codeRec_of kin hcd) (bt _ _ _ _ ?_)
  refine wpAny_newFunctionEnv_cells S.kind ?_ fun env ee s1 inn => ?_
  · rintro ⟨n, v⟩ hy
    refine (S.par n (List.of_mem_zip hy).1).elim Or.inl fun q => Or.inr ⟨q, ?_⟩
    exact PySem.W.cellsFrom_some _ _ _ (Or.inl q)
  subst ee
  refine ⟨nol.keeps inn.toInCall.keep, codeAny_func ?_⟩
  obtain ⟨t, ht, hq⟩ := B cdv A outer s H vs Q E g (room.deeper _) want
  have I0 := inv_start (CX := L2.CX P w) (E := E) S room.hd env0 (len _ _ _ _ want) rel inn
  refine wpAny_mono (ht.run [] s1 (start N vs) H _ I0 hq) (fun fl s' z => ?_) fun _ _ z => z
  cases fl with
  | ret u =>
    obtain ⟨v, σ', H', J, rv, q⟩ := z
    exact ⟨v, H', J.os, J.bare, J.base, J.hok, rv, q⟩
  | next =>
    obtain ⟨σ', H', J, q⟩ := z
    exact ⟨V.non, H', J.os, J.bare, J.base, J.hok, rfl, q⟩
  | brk => exact z.elim fun _ z => z.elim fun _ z => z.2.elim
  | cont => exact z.elim fun _ z => z.elim fun _ z => z.2.elim
end
section
variable {X : Cx} {k : Nat} {f : Addr} {fd : FuncData} {ps : List Str} {sp : Sp} {x : Str} {p pos : Pos} {e : Expr} {es : List Expr} {t : TA} {Wx : WX}
/-- f(e, ..) of such a def: what it raises is wished for at the caller's slots -/
def tCallX (Wx : WX) (sp : Sp) (t : TA) : TE := fun σ H Q => t σ H fun vs H1 => sp vs H1 Q fun cls d H' => Wx cls d σ H'
theorem pe_callGX (F : FnGX X.prog X.w X.K X.mg X.base k f fd ps sp) (tk : Takes X Wx) (g : X.A.guards = some []) (room : Room k X.A) (hg : Gl X x) (hm : X.mg x = some (.ref f)) (hk : PySem.W.keepIn X.K (.ref f) = true) (hb : Binds X.K fd ps [])
    (ha : PA X (e :: es) t) (hdb : (x == ("__debug__" : Str)) = false := by decide) (he : starEach (e :: es) X.env = (false, eval e X.env) :: starEach es X.env := by rfl) (hpl : (backTo pos (starEach es X.env)).any (·.1) = false := by rfl) :
    PE X (.Call (.Name x p) (e :: es) [] pos) (tCallX Wx sp t) := ⟨fun pins s σ H Q I h => by
  refine wpAny_Call_Name_kw (ld_glob I hg hm ?_ hdb)
  refine PySem.W.callWith_K (h₀ := X.base) I.ok.mod.kin hk (thn (ha.run pos pins s σ H _ I h) ?_) he hpl
  rintro us s1 ⟨vs, H1, I1, r, q⟩
  refine ⟨I1.kIn, ?_⟩
  have r0 : Vals (vs ++ []) (us ++ []) := r.append .nil
  have z := F.len _ _ _ _ q
  have r1 : Vals vs (us ++ []) := by
    rw [List.append_nil]
    exact r
  have z : (us ++ []).length = ps.length := by
    rw [← z]
    exact r1.length.symm
  refine wpAny_call (codeAny_mono (F.go g room I1.env0 (hb s1 us I1.kIn z) r1 q) fun res s' hq => ?_)
  cases res with
  | error u => exact tk _ _ (XE.of_call I1 (fun cls d H' w => w) hq)
  | ok fl =>
    cases fl with
    | ret u => exact I1.after hq
    | next => exact False.elim hq
    | brk => exact False.elim hq
    | cont => exact False.elim hq⟩
end
def OutX (K : PySem.W.Frag) (vs : List V) (H : Hp) (as : List Sl) (r : Rt Sl) (Q : VK) (E : XK) : Prop := match r with
  | .no => False
  | .ok s as' => ∀ v H', Stp K vs.length H (vs.map some) as H' (vs.map some) as' → SR K H H' (vs.map some) as' v s → Q v H'
  | .ex c d as' => ∀ H', Stp K vs.length H (vs.map some) as H' (vs.map some) (as'.take vs.length) → wE K (fun cls dd _ H => E cls dd H) c d [] H'
def spX (K : PySem.W.Frag) (F : Fn) : Sp := fun vs H Q E => ∃ as, Good K H (vs.map some) as ∧ OutX K vs H as (F as) Q E
@[simp] def outX (n : Nat) : Rt Out → Rt Sl
  | .ok o ρ => fin n ρ o
  | .ex c d ρ => .ex c d ρ
  | .no => .no
@[simp] def fnX (n N : Nat) (b : Mo Out) : Fn := fun as => if as.length = n then outX n (b (as ++ List.replicate (N - n) .no)) else .no
section
variable {P : Program} {w : World} {K : PySem.W.Frag} {mg : Str → Option Value} {base : Heap} {k : Nat} {f : Addr} {fd : FuncData}
theorem okDX {x qual : Str} {st : Stmt} {N ps : List Str} {b : Mo Out} (F : Fun K x qual st f fd) (S : FnScope N ps (defScope st)) (hN : ps.length ≤ N.length)
    (B : ∀ (cdv : Value) (A : Around) (outer : List Env) (s : Shared) (H : Hp) (E : XK), A.guards = some [] → Room k (A.deeper (envOfC qual (defScope st) s.heap.objs.size f cdv)) →
      XSs (cxOf (L2.CX P w) P w K mg base N qual (defScope st) f cdv A outer s H E) ps.length (wE K fun cls d _ H' => E cls d H') (defBody st) b) : FnGX P w K mg base (k + 1) f fd ps (spX K (fnX ps.length N.length b)) := by
  have lenF : ∀ {vs : List V} {as : List Sl} {H : Hp} {Q : VK} {E : XK}, OutX K vs H as (fnX ps.length N.length b as) Q E → as.length = ps.length := fun {vs as H Q E} e => by
    unfold fnX at e
    split at e
    · next l => exact l
    · exact e.elim
  refine okGX F S (fun vs H Q E ⟨as, G, e⟩ => ?_) (fun cdv A outer s0 H vs Q E hg hr h => ?_)
  · have := G.len
    rw [List.length_map, lenF e] at this
    exact this
  · obtain ⟨as, G, e⟩ := h
    have la := lenF e
    have lv : vs.length = ps.length := by
      have := G.len
      rw [List.length_map, la] at this
      exact this
    refine ⟨_, B cdv A outer s0 H E hg hr, as ++ List.replicate (N.length - ps.length) .no, ?_, ?_⟩
    · unfold L2.start
      rw [lv]
      exact G.pad _
    · unfold fnX at e
      rw [if_pos la] at e
      have st0 : L2.start N vs = vs.map some ++ List.replicate (N.length - ps.length) none := by
        unfold L2.start
        rw [lv]
      rw [st0]
      have unp : ∀ {σ' : St} {H' : Hp} {ρ' : Ev}, Stp K ps.length H (vs.map some ++ List.replicate (N.length - ps.length) none) (as ++ List.replicate (N.length - ps.length) .no) H' σ' ρ' → ps.length ≤ ρ'.length := fun {σ' H' ρ'} s => by
        rcases Nat.lt_or_ge ρ'.length ps.length with lt | ge
        · exfalso
          have l1 := s.good.len
          have := (s.par ρ'.length lt).1
          rw [List.getElem?_eq_none (by omega), List.getElem?_append_left (by rw [List.length_map, lv]; exact lt), List.getElem?_map, List.getElem?_eq_getElem (by omega)] at this
          cases this
        · exact ge
      show AftS K ps.length (wE K fun cls d _ H' => E cls d H') { nx := fun _ H' => Q .non H', rt := Q } H (vs.map some ++ List.replicate (N.length - ps.length) none) (as ++ List.replicate (N.length - ps.length) .no) (b (as ++ List.replicate (N.length - ps.length) .no))
      generalize b (as ++ List.replicate (N.length - ps.length) .no) = z at e
      cases z with
      | no => exact e.elim
      | ex c d ρ' =>
        intro σ' H' st
        have e : ∀ H', Stp K vs.length H (vs.map some) as H' (vs.map some) (ρ'.take vs.length) → wE K (fun cls dd _ H => E cls dd H) c d [] H' := e
        rw [lv] at e
        exact e H' (st.unpad G la (unp st))
      | ok o ρ' =>
        have e : OutX K vs H as (fin ps.length ρ' o) Q E := e
        cases o with
        | bk => exact e.elim
        | ct => exact e.elim
        | nx =>
          intro σ' H' s
          have e : ∀ v H', Stp K vs.length H (vs.map some) as H' (vs.map some) (ρ'.take ps.length) → SR K H H' (vs.map some) (ρ'.take ps.length) v (.dat .none) → Q v H' := e
          rw [lv] at e
          exact e _ _ (s.unpad G la (unp s)) (.dat .non)
        | rf o =>
          intro p u σ' H' st np ep r no
          have e : ∀ v H', Stp K vs.length H (vs.map some) as H' (vs.map some) (ρ'.take ps.length) → SR K H H' (vs.map some) (ρ'.take ps.length) v (.own o) → Q v H' := e
          rw [lv] at e
          refine e _ _ (st.unpad G la (unp st)) (.own np ep r fun z => no ?_)
          obtain ⟨j, o1, ej, es⟩ := z
          obtain ⟨lj, ej⟩ := take_some ej
          exact ⟨j, o1, ej, by rw [(st.par j lj).1, List.getElem?_append_left (by rw [List.length_map, lv]; exact lj)]; exact es⟩
        | rt r =>
          intro v σ' H' st rv
          cases rv with
          | @d x im =>
            have e : ∀ v H', Stp K vs.length H (vs.map some) as H' (vs.map some) (ρ'.take ps.length) → SR K H H' (vs.map some) (ρ'.take ps.length) v (.dat x) → Q v H' := e
            rw [lv] at e
            exact e _ _ (st.unpad G la (unp st)) (.dat im)
          | @v i ei =>
            unfold fin at e
            dsimp only at e
            split at e
            · next le =>
              split at e
              · next o eo =>
                have e : ∀ v H', Stp K vs.length H (vs.map some) as H' (vs.map some) (ρ'.take ps.length) → SR K H H' (vs.map some) (ρ'.take ps.length) v (.own o) → Q v H' := e
                rw [lv] at e
                obtain ⟨p, u, e1, e2, r⟩ := st.good.own i o eo
                rw [ei] at e1
                cases e1
                refine e _ _ (st.unpad G la (unp st)) (.own ?_ e2 r fun z => ?_)
                · rcases st.news p ⟨i, o, eo, ei⟩ with z | z
                  · exfalso
                    obtain ⟨j, o1, ej, es⟩ := z.pad G.len
                    have lj : j < ps.length := by
                      have := (List.getElem?_eq_some_iff.mp ej).1
                      omega
                    obtain ⟨o2, e2⟩ := (st.par j lj).2 o1 (by rw [List.getElem?_append_left (by omega)]; exact ej)
                    have e3 : σ'[j]? = some (some (.ref p)) := by rw [(st.par j lj).1, List.getElem?_append_left (by rw [List.length_map, lv]; exact lj)]; exact es
                    have := st.good.dif i j o o2 p eo e2 ei e3
                    omega
                  · exact z
                · obtain ⟨j, o1, ej, es⟩ := z
                  obtain ⟨lj, ej⟩ := take_some ej
                  have e3 : σ'[j]? = some (some (.ref p)) := by rw [(st.par j lj).1, List.getElem?_append_left (by rw [List.length_map, lv]; exact lj)]; exact es
                  have := st.good.dif i j o o1 p eo ej ei e3
                  omega
              · exact e.elim
            · exact e.elim
end
/-! ### calls of such defs -/
@[simp] def applyX (F : Fn) (rs : List R) (ρ : Ev) : Rt Sl := match argS ρ rs with
  | none => .no
  | some as => if nodupB (vIdx rs) = true then (match F as with
      | .ok s as' => .ok s (backE ρ rs as')
      | .ex c d as' => .ex c d (backE ρ rs (as'.take rs.length))
      | .no => .no) else .no
@[simp] def eCallX (F : Fn) (m : Mo (List R)) : Mo R := fun ρ => (m ρ).bind fun rs ρ1 => (applyX F rs ρ1).bind fun s ρ2 => match s with
  | .dat x => .ok (.d x) ρ2
  | _ => .no
@[simp] def fCallX (F : Fn) (m : Mo (List R)) : Mo Ob := fun ρ => (m ρ).bind fun rs ρ1 => (applyX F rs ρ1).bind fun s ρ2 => match s with
  | .own o => .ok o ρ2
  | _ => .no
section
variable {X : Cx} {n : Nat} {W : XW} {k : Nat} {f : Addr} {fd : FuncData} {ps : List Str} {x : Str} {p pos : Pos} {e : Expr} {es : List Expr} {m : Mo (List R)} {F : Fn} {Wx : WX}
theorem xd_callX (tk : Takes X Wx) (hW : ∀ c d σ H, W c d σ H → wE X.K Wx c d σ H) (G : FnGX X.prog X.w X.K X.mg X.base k f fd ps (spX X.K F)) (g : X.A.guards = some []) (room : Room k X.A) (hg : Gl X x) (hm : X.mg x = some (.ref f)) (hk : PySem.W.keepIn X.K (.ref f) = true) (hb : Binds X.K fd ps [])
    (ha : XA X n W (e :: es) m) (hdb : (x == ("__debug__" : Str)) = false := by decide) (he : starEach (e :: es) X.env = (false, eval e X.env) :: starEach es X.env := by rfl) (hpl : (backTo pos (starEach es X.env)).any (·.1) = false := by rfl) :
    XD X n W (.Call (.Name x p) (e :: es) [] pos) (eCallX F m) := weakE (pe_callGX (Wx := Wx) G tk g room hg hm hk hb ha hdb he hpl) fun σ H Q ⟨ρ, Gd, h⟩ => by
  refine ⟨ρ, Gd, (Aft.bind h).mono fun rs ρ1 H1 s1 h1 vs rvs => ?_⟩
  unfold applyX at h1
  cases ea : argS ρ1 rs with
  | none =>
    rw [ea] at h1
    exact h1.elim
  | some as =>
    rw [ea] at h1
    dsimp only at h1
    split at h1
    · next nd =>
      have nd := nodupB_iff nd
      refine ⟨as, args_good s1.good rvs ea nd, ?_⟩
      generalize F as = r at h1
      cases r with
      | no => exact h1.elim
      | ex c d as' =>
        intro H' st C dd ff v d' e1 e2 e3 e4
        rw [rvs.len] at st
        exact hW _ _ _ _ (h1 H' (call_stp s1.good rvs ea nd (by rw [rvs.len]; exact st)).1) C dd ff v d' e1 e2 e3 e4
      | ok s as' =>
        cases s with
        | no => exact h1.elim
        | exc _ _ _ => exact h1.elim
        | own o => exact h1.elim
        | dat d =>
          intro v H' st sr
          cases sr with
          | dat im => exact h1 H' (call_stp s1.good rvs ea nd st).1 v (.d im)
    · exact h1.elim
end
end Q
namespace Q
open PySem PySem.Spec PyProof.Rows L2 Gd
variable [Tbl]
/-! ### an error's class: what the written part says of it -/
structure ExcT (K : PySem.W.Frag) (mg : Str → Option Value) (c f : Str) (C fI : Addr) : Prop where
  gC : mg c = some (.ref C)
  nC : PySem.W.nsIn K mainGlobals c = some (some (.ref C))
  ox : OexC K C
  noN : PySem.W.findIn K (.ref C) f = some none
  iC : PySem.W.findIn K (.ref C) "__init__" = some (some (.ref fI))
  tI : PySem.W.typeIn K (.ref fI) = some (.type "function")
  xf : XfC K C
  cl : (PySem.W.clsIn K C).isSome = true
  ca : PySem.W.findIn K (.ref C) "__class__" = some (some (.builtin "object.__class__"))
  mo : PySem.W.mroIn K C (.type "object") = some true
/-- what of the built-in part isinstance asks -/
structure ExcB (K : PySem.W.Frag) : Prop where
  hn : PySem.W.specialIn K (.builtin "object.__class__") "__get__" = some (some (.builtin "getset_descriptor.__get__"))
  ht : PySem.W.takesIn K (.builtin "object.__class__") = some true
/-- self.f = f in __init__ -/
def spIni (C : Addr) (f : Str) : Sp := fun vs H Q _ => ∃ (a : Addr) (y : V), vs = [.ref a, y] ∧ H a = some (exo a C none) ∧ ∀ dx, H dx = none → dx ≠ a → Q .non (upd (upd H dx (exd dx [(f, y)])) a (exo a C (some dx)))
section
variable {P : Program} {w : World} {K : PySem.W.Frag} {mg : Str → Option Value} {base : Heap} {fI C : Addr} {fd : FuncData} {c f : Str}
theorem ok_ini {qual : Str} {st : Stmt} {q1 q2 q3 q4 : Pos} (F : Fun K "__init__" qual st fI fd) (S : FnScope ["self", f] ["self", f] (defScope st)) (hb : defBody st = [.Assign [.Attribute (.Name "self" q1) f q2] (.Name f q3) q4]) (T : ExcT K mg c f C fI)
    (d1 : (f == ("__debug__" : Str)) = false) (d2 : (f == ("__classdict__" : Str)) = false) : FnOk P w K mg base (L2.CX P w) 1 fI fd ["self", f] (spIni C f) :=
  F.okX S (fun vs H Q E h => by
    obtain ⟨a, y, rfl, _⟩ := h
    rfl) fun cdv A outer s H vs Q E hr h => by
    obtain ⟨a, y, rfl, ea, q⟩ := h
    have v1 : Vis (defScope st) "self" := (S.par "self" (by simp)).elim .inl fun z => .inr (.inl z)
    have v2 : Vis (defScope st) f := (S.par f (by simp)).elim .inl fun z => .inr (.inl z)
    rw [hb]
    refine ⟨_, pss_one (ps_ost (pe_var (i := 0) rfl v1) (pe_var (i := 1) rfl v2 d1 d2)), ?_⟩
    exact ⟨y, rfl, .ref a, rfl, a, C, rfl, T.ox, T.noN, .inl ⟨ea, q⟩⟩
end
@[simp] def bRaise (c f : Str) (m : Mo (List R)) : Mo Out := fun ρ => (m ρ).bind fun rs ρ1 => match datas rs with
  | some [x] => .ex c (errD f x) ρ1
  | _ => .no
section
variable {X : Cx} {n : Nat} {W : XW} {Wx : WX} {c f : Str} {C fI : Addr} {fd : FuncData} {k : Nat} {e : Expr} {p pos pos2 : Pos} {m : Mo (List R)}
theorem xs_raise (hc : X.calm = true) (tk : Takes X Wx) (hW : ∀ c d σ H, W c d σ H → wE X.K Wx c d σ H) (T : ExcT X.K X.mg c f C fI) (F1 : FnOk X.prog X.w X.K X.mg X.base (L2.CX X.prog X.w) k fI fd ["self", f] (spIni C f)) (hb : Binds X.K fd ["self", f] [])
    (hr : Room (k + 1) X.A) (hg : Gl X c) (ha : XA X n W [e] m) (hdb : (c == ("__debug__" : Str)) = false := by decide) (he : starEach [e] X.env = (false, eval e X.env) :: starEach [] X.env := by rfl) (hpl : (backTo pos (starEach [] X.env)).any (·.1) = false := by rfl) :
    XS X n W (.Raise (some (.Call (.Name c p) [e] [] pos)) none pos2) (bRaise c f m) :=
  weakS (ps_raise hc tk (pmk_oex T.ox T.iC T.tI F1 hr hb (dvs := []) .nil L2.passL hg T.gC ha hdb he hpl)) fun E σ H ⟨ρ, G, h⟩ => by
    refine ⟨ρ, G, (AftS.bind h).mono fun rs ρ1 H1 s1 h1 vs rvs => ?_⟩
    split at h1
    · next x ed =>
      have im := rvs.datas ed
      cases im with
      | @cons v _ _ _ im r =>
        cases r
        refine ⟨by show 1 ≤ 1000; decide, fun a na => ⟨a, v, rfl, upd_same, fun dx nd ne => ⟨rfl, dx, [(f, v)], upd_same, by rw [upd_ne ne, upd_same], by rw [upd_ne ne] at nd; exact nd, ?_⟩⟩⟩
        have nd1 : H1 dx = none := by
          rw [upd_ne ne] at nd
          exact nd
        have eq : upd (del (upd (upd (upd H1 a (exo a C none)) dx (exd dx [(f, v)])) a (exo a C (some dx))) a) dx (.xd [(f, v)]) = upd H1 dx (.xd [(f, v)]) := by
          funext b
          by_cases h1 : b = dx
          · rw [h1, upd_same, upd_same]
          · rw [upd_ne h1, upd_ne h1]
            by_cases h2 : b = a
            · rw [h2, del_same, na]
            · rw [del_ne h2, upd_ne h2, upd_ne h1, upd_ne h2]
        rw [eq]
        have sm : Same H1 (upd H1 dx (.xd [(f, v)])) := same_upd nd1
        exact hW _ _ _ _ (h1 _ _ (Stp.same s1.good sm)) C dx f v x rfl T.nC upd_same (im.same sm)
    · exact h1.elim
end
/-! ### a try that keeps its error -/
section
variable {K : PySem.W.Frag} {n : Nat} {H H' : Hp} {σ σ' : L2.St} {ρ ρ' : Ev}
theorem Stp.set_exc (s : Stp K n H σ ρ H' σ' ρ') {i : Nat} (hn : n ≤ i) (hi : i < ρ'.length) {a : Addr} {c f : Str} {d : D} (x : ExcAt K H' a c f d) : Stp K n H σ ρ H' (σ'.set i (some (.ref a))) (ρ'.set i (.exc c f d)) := by
  have his : i < σ'.length := by
    rw [s.good.len]
    exact hi
  have G := s.good
  have ow : ∀ p, Own (σ'.set i (some (.ref a))) (ρ'.set i (.exc c f d)) p → Own σ' ρ' p := fun p h => by
    obtain ⟨j, o, e1, e2⟩ := h
    by_cases z : i = j
    · subst z
      rw [set_at hi] at e1
      cases e1
    · rw [set_ne z] at e1 e2
      exact ⟨j, o, e1, e2⟩
  have get : ∀ {j : Nat} {t : Sl}, (ρ'.set i (.exc c f d))[j]? = some t → (i = j ∧ t = .exc c f d) ∨ (i ≠ j ∧ ρ'[j]? = some t) := fun {j t} h => by
    by_cases z : i = j
    · subst z
      rw [set_at hi] at h
      cases h
      exact .inl ⟨rfl, rfl⟩
    · rw [set_ne z] at h
      exact .inr ⟨z, h⟩
  refine ⟨⟨by rw [List.length_set, List.length_set, G.len], fun j e h => ?_, fun j o h => ?_, fun j k o o' p h1 h2 h3 h4 => ?_, G.tab, fun j c' f' e h => ?_⟩, fun j hj => ?_, s.kept, fun p h => s.news p (ow p h), s.live⟩
  · rcases get h with ⟨_, z⟩ | ⟨z, h⟩
    · cases z
    · rw [set_ne z]
      exact G.dat j e h
  · rcases get h with ⟨_, z⟩ | ⟨z, h⟩
    · cases z
    · rw [set_ne z]
      exact G.own j o h
  · rcases get h1 with ⟨_, z⟩ | ⟨z1, h1⟩
    · cases z
    · rcases get h2 with ⟨_, z⟩ | ⟨z2, h2⟩
      · cases z
      · rw [set_ne z1] at h3
        rw [set_ne z2] at h4
        exact G.dif j k o o' p h1 h2 h3 h4
  · rcases get h with ⟨z, y⟩ | ⟨z, h⟩
    · cases y
      rw [← z]
      exact ⟨a, set_at his, x⟩
    · rw [set_ne z]
      exact G.exc j c' f' e h
  · have ne : i ≠ j := by omega
    rw [set_ne ne, set_ne ne]
    exact s.par j hj
theorem Stp.set_no (s : Stp K n H σ ρ H' σ' ρ') {i : Nat} (hn : n ≤ i) (hi : i < ρ'.length) : Stp K n H σ ρ H' (σ'.set i none) (ρ'.set i .no) := by
  have G := s.good
  have get : ∀ {j : Nat} {t : Sl}, (ρ'.set i .no)[j]? = some t → t ≠ .no → i ≠ j ∧ ρ'[j]? = some t := fun {j t} h ne => by
    by_cases z : i = j
    · subst z
      rw [set_at hi] at h
      cases h
      exact absurd rfl ne
    · rw [set_ne z] at h
      exact ⟨z, h⟩
  have ow : ∀ p, Own (σ'.set i none) (ρ'.set i .no) p → Own σ' ρ' p := fun p h => by
    obtain ⟨j, o, e1, e2⟩ := h
    obtain ⟨z, e1⟩ := get e1 (fun w => nomatch w)
    rw [set_ne z] at e2
    exact ⟨j, o, e1, e2⟩
  refine ⟨⟨by rw [List.length_set, List.length_set, G.len], fun j e h => ?_, fun j o h => ?_, fun j k o o' p h1 h2 h3 h4 => ?_, G.tab, fun j c' f' e h => ?_⟩, fun j hj => ?_, s.kept, fun p h => s.news p (ow p h), s.live⟩
  · obtain ⟨z, h⟩ := get h (fun w => nomatch w)
    rw [set_ne z]
    exact G.dat j e h
  · obtain ⟨z, h⟩ := get h (fun w => nomatch w)
    rw [set_ne z]
    exact G.own j o h
  · obtain ⟨z1, h1⟩ := get h1 (fun w => nomatch w)
    obtain ⟨z2, h2⟩ := get h2 (fun w => nomatch w)
    rw [set_ne z1] at h3
    rw [set_ne z2] at h4
    exact G.dif j k o o' p h1 h2 h3 h4
  · obtain ⟨z, h⟩ := get h (fun w => nomatch w)
    rw [set_ne z]
    exact G.exc j c' f' e h
  · have ne : i ≠ j := by omega
    rw [set_ne ne, set_ne ne]
    exact s.par j hj
end
@[simp] def keepX (tab : List (Str × Bool)) (i j : Nat) : Rt Out → Rt Out
  | .ok o ρ => .ok o ρ
  | .ex c (.tuple [.str f, x]) ρ => match tab.lookup c with
    | some true => nxt ((put j (.exc c f x) ρ).bind (put i .no))
    | some false => .ex c (.tuple [.str f, x]) ρ
    | none => .no
  | _ => .no
@[simp] def bTry (tab : List (Str × Bool)) (i j : Nat) (m : Mo Out) : Mo Out := fun ρ => keepX tab i j (m ρ)
section
variable {X : Cx} {n : Nat} {W : XW} {Wx : WX} {x y z : Str} {cv : Value} {tab : List (Str × Bool)} {i j : Nat} {body : List Stmt} {np p1 p2 p3 pos pos' : Pos} {m : Mo Out}
/-! ### what is asked of a kept error -/
@[simp] def eIsX (tab : List (Str × Bool)) (i : Nat) : Mo R := fun ρ => match ρ[i]? with
  | some (.exc c _ _) => lift ((tab.lookup c).map .bool) ρ
  | _ => .no
@[simp] def eFldX (cs : List Str) (f : Str) (i : Nat) : Mo R := fun ρ => match ρ[i]? with
  | some (.exc c f' d) => lift (if f' = f ∧ c ∈ cs then some d else none) ρ
  | _ => .no
@[simp] def eNonX (i : Nat) : Mo R := fun ρ => match ρ[i]? with
  | some (.exc _ _ _) => .ok (.d (.bool false)) ρ
  | some (.dat d) => .ok (.d (.bool (noneB d))) ρ
  | _ => .no
theorem inst_of {a : Addr} {c f : Str} {d : D} {pins : List (Addr × Obj)} {σ : L2.St} {H : Hp} {s : Shared} (I : Inv X pins σ H s) (x : ExcA X.K H a c f d) : ∃ (C : Addr) (oe : Obj) (od : Obj) (v : V) (u : Value), PySem.W.nsIn X.K mainGlobals c = some (some (.ref C)) ∧ PySem.W.InstAt s.heap a oe C (some od) ∧ PySem.W.lookIn f od = some (some u) ∧ RelV v u ∧ Im X.K H v d := by
  obtain ⟨dd, C, oe, w, v, h1, h2, h3, ⟨vs, h4⟩, h5, h6, h7⟩ := x
  obtain ⟨ha, _⟩ := I.hok a _ h1
  have hx : ObjOk X.prog X.w H s.heap dd (.xd [(f, v)]) := I.hok dd _ h5
  obtain ⟨mA, hns, hr⟩ := hx
  obtain ⟨od, ho, hl⟩ := lookIn_ns hns
  have l : List.lookup f [(f, v)] = some v := by simp [List.lookup]
  obtain ⟨u, hu, ru⟩ := RelO.some_of (v := v) (o := mA f) (by rw [← l]; exact hr f)
  exact ⟨C, oe, od, v, u, h6, ⟨ha, h2, by unfold PySem.W.notCls; rw [h4] <;> rfl, by rw [h3]; exact ho⟩, by rw [hl, hu], ru, h7⟩
/-- isinstance(x, T), x a kept error -/
def rIsX (K : PySem.W.Frag) (tab : List (Str × Bool)) (t : V) : List V → Hp → VK → Prop := fun xs H Q => ∃ (a : Addr) (c f : Str) (d : D) (b : Bool), xs = [.ref a, t] ∧ ExcA K H a c f d ∧ tab.lookup c = some b ∧ Q (.bl b) H
/-- x.f, x a kept error -/
theorem xd_fldX {cs : List Str} {i : Nat} {x f : Str} {p1 pos : Pos} (hT : ∀ (c f' : Str) (C : Addr), PySem.W.nsIn X.K mainGlobals c = some (some (.ref C)) → f' = f → c ∈ cs → XfC X.K C ∧ PySem.W.findIn X.K (.ref C) f = some none)
    (hv : PE X (.Name x p1) (tVar i)) (hb : attributeBase (.Name x p1) f X.env (eval (.Name x p1) X.env) = eval (.Name x p1) X.env := by rfl) (hne : ("" : Str) ∉ cs := by decide) : XD X n W (.Attribute (.Name x p1) f pos) (eFldX cs f i) := ⟨fun pins s σ H Q I ⟨ρ, G, h⟩ => by
  unfold eFldX at h
  split at h
  · next c f' d e =>
    obtain ⟨a, e1, xa⟩ := G.exc i c f' d e
    by_cases hf : f' = f ∧ c ∈ cs
    · rw [if_pos hf] at h
      obtain ⟨rfl, hc⟩ := hf
      refine attr_of hb (thn (hv.run pins s σ H (fun v H1 => v = .ref a ∧ H1 = H) I ⟨.ref a, e1, rfl, rfl⟩) ?_)
      rintro u s1 ⟨v, H1, I1, rx, rfl, rfl⟩
      cases rx
      obtain ⟨C, oe, od, v, u, nC, J, hl, ru, im⟩ := inst_of I1 (xa.err fun z => hne (z ▸ hc))
      obtain ⟨xf, no⟩ := hT c f' C nC rfl hc
      exact HandSPX.exc_get I1.kIn J xf.ga xf.gg xf.exC (PySem.W.findObj_own xf.hdC no rfl hl) (handed_of ru) ⟨v, H1, I1.tok _, ru, Aft.ok G h _ (.d im)⟩
    · rw [if_neg hf] at h
      exact h.elim
  · exact h.elim⟩
end
end Q
namespace Q
open PySem PySem.Spec PyProof.Rows L2 Gd
variable [Tbl]
/-! ### tables of classes -/
theorem tab_nil {P : Str → Bool → Prop} : ∀ c b, ([] : List (Str × Bool)).lookup c = some b → P c b := fun c b h => by cases h
theorem tab_cons {P : Str → Bool → Prop} {c0 : Str} {b0 : Bool} {r : List (Str × Bool)} (h0 : P c0 b0) (hr : ∀ c b, r.lookup c = some b → P c b) : ∀ c b, ((c0, b0) :: r).lookup c = some b → P c b := fun c b h => by
  by_cases e : c = c0
  · subst e
    simp [List.lookup] at h
    rw [← h]
    exact h0
  · have e2 : (c == c0) = false := by simpa using e
    simp [List.lookup, e2] at h
    exact hr c b h
theorem nsC {K : PySem.W.Frag} {mg : Str → Option Value} {c f : Str} {C fI C' : Addr} (T : ExcT K mg c f C fI) (h : PySem.W.nsIn K mainGlobals c = some (some (.ref C'))) : C' = C := by
  have := T.nC.symm.trans h
  cases this
  rfl
theorem tab_ex {K : PySem.W.Frag} {mg : Str → Option Value} {c f : Str} {C fI : Addr} {cv : Value} {b : Bool} (T : ExcT K mg c f C fI) (h : PySem.W.exmOne K (.ref C) cv = some b) : ∀ C', PySem.W.nsIn K mainGlobals c = some (some (.ref C')) → PySem.W.exmOne K (.ref C') cv = some b := fun C' e => by
  rw [nsC T e]
  exact h
theorem fld_nil {K : PySem.W.Frag} {f : Str} : ∀ (c f' : Str) (C : Addr), PySem.W.nsIn K mainGlobals c = some (some (.ref C)) → f' = f → c ∈ ([] : List Str) → XfC K C ∧ PySem.W.findIn K (.ref C) f = some none := fun _ _ _ _ _ h => nomatch h
theorem fld_cons {K : PySem.W.Frag} {mg : Str → Option Value} {c0 f : Str} {C0 fI : Addr} {r : List Str} (T : ExcT K mg c0 f C0 fI) (hr : ∀ (c f' : Str) (C : Addr), PySem.W.nsIn K mainGlobals c = some (some (.ref C)) → f' = f → c ∈ r → XfC K C ∧ PySem.W.findIn K (.ref C) f = some none) :
    ∀ (c f' : Str) (C : Addr), PySem.W.nsIn K mainGlobals c = some (some (.ref C)) → f' = f → c ∈ c0 :: r → XfC K C ∧ PySem.W.findIn K (.ref C) f = some none := fun c f' C e ef h => by
  by_cases z : c = c0
  · subst z
    rw [nsC T e]
    exact ⟨T.xf, T.noN⟩
  · exact hr c f' C e ef ((List.mem_cons.mp h).resolve_left z)
theorem kcls_ref {K : PySem.W.Frag} {t : Value} {C : Addr} {b : Bool} (h1 : PySem.W.isClsIn K C = true) (h2 : PySem.W.typeIn K (.ref C) = some (.type "type")) (h3 : PySem.W.subIn K t (.ref C) = some b) : PySem.W.kitCls K t (.ref C) = some b := by
  have h1 : (PySem.W.clsIn K C).isSome = true := h1
  show (if ((PySem.W.clsIn K C).isSome && PySem.W.typeIn K (.ref C) == some (.type "type")) = true then PySem.W.subIn K t (.ref C) else none) = some b
  rw [h1, h2, if_pos (by rfl)]
  exact h3
theorem exm_own {K : PySem.W.Frag} {t : Value} {C : Addr} {b : Bool} (h0 : PySem.W.subIn K (.ref C) (.type "BaseException") = some true) (h1 : PySem.W.isClsIn K C = true) (h2 : PySem.W.typeIn K (.ref C) = some (.type "type")) (h3 : PySem.W.subIn K t (.ref C) = some b) : PySem.W.exmOne K t (.ref C) = some b := by
  unfold PySem.W.exmOne
  rw [h0, if_pos (by rfl)]
  exact kcls_ref h1 h2 h3
def cbody : Stmt → List Stmt
  | .ClassDef (body := b) .. => b
  | _ => []
end Q
namespace Q
open PySem PySem.Spec PyProof.Rows L2 Gd
variable [Tbl]
/-! ### d[k] = v -/
def unKV : List (D × D) → Option (List (Key × D))
  | [] => some []
  | (k, v) :: r => match keyOf k, unKV r with
    | some k, some r => some ((k, v) :: r)
    | _, _ => none
theorem ImKV.len2 {K : PySem.W.Frag} {H : Hp} : ∀ {kvs : List (Key × V)} {ds : List (D × D)}, ImKV K H kvs ds → kvs.length = ds.length
  | _, _, .nil => rfl
  | _, _, .cons _ r => by rw [List.length_cons, List.length_cons, ImKV.len2 r]
@[simp] def setKd (i : Nat) (x : D) (j : R) (ρ : Ev) : Rt Out := match look ρ j, ρ[i]? with
  | some kd, some (.own (.dk ds)) => match keyOf kd, unKV ds with
    | some k, some gd => if ds.length < sizeLine then .ok .nx (ρ.set i (.own (.dk (toKV (putG gd k x))))) else .no
    | _, _ => .no
  | _, _ => .no
@[simp] def bSetK (i : Nat) (f : Mo R) (g : Mo R) : Mo Out := fun ρ => (f ρ).bind fun r ρ1 => match r, ρ1[i]? with
  | .d x, some (.own (.dk _)) => (g ρ1).bind fun j ρ2 => setKd i x j ρ2
  | _, _ => .no
section
variable {X : Cx} {n : Nat} {W : XW}
end
end Q
namespace Q
open PySem PySem.Spec PyProof.Rows L2 Gd
variable [Tbl]
/-! ### a, b, .. = x, y, .. of any kinds -/
@[simp] def runMs : List M1 → Ev → Rt (List Sl)
  | [], ρ => .ok [] ρ
  | m :: ms, ρ => (runM m ρ).bind fun s ρ1 => (runMs ms ρ1).bind fun ss ρ2 => .ok (s :: ss) ρ2
@[simp] def puts : List Nat → List Sl → Ev → Option Ev
  | [], [], ρ => some ρ
  | i :: is, s :: ss, ρ => (put i s ρ).bind (puts is ss)
  | _, _, _ => none
@[simp] def bMany (is : List Nat) (ms : List M1) : Mo Out := fun ρ => (runMs ms ρ).bind fun ss ρ1 => nxt (puts is ss ρ1)
inductive SRs (K : PySem.W.Frag) (H0 H : Hp) (σ : L2.St) (ρ : Ev) : List V → List Sl → Prop
  | nil : SRs K H0 H σ ρ [] []
  | cons {v : V} {s : Sl} {vs : List V} {ss : List Sl} : SR K H0 H σ ρ v s → (∀ (p : Addr) (o : Ob), v = .ref p → s = .own o → ∀ (k : Nat) (o' : Ob), vs[k]? = some (.ref p) → ss[k]? = some (.own o') → False) → SRs K H0 H σ ρ vs ss → SRs K H0 H σ ρ (v :: vs) (s :: ss)
section
variable {K : PySem.W.Frag} {n : Nat} {H0 H1 H H' : Hp} {σ σ' : L2.St} {ρ ρ' : Ev}
theorem SRs.get : ∀ {vs : List V} {ss : List Sl} {k : Nat} {v : V} {s : Sl}, SRs K H0 H σ ρ vs ss → vs[k]? = some v → ss[k]? = some s → SR K H0 H σ ρ v s
  | _, _, 0, _, _, .cons h _ _, a, b => by
    cases a
    cases b
    exact h
  | _, _, k + 1, _, _, .cons _ _ r, a, b => SRs.get (k := k) r a b
end
def tMs (K : PySem.W.Frag) (n : Nat) (W : XW) (ms : List M1) : TA := fun σ H Q => ∃ ρ, Good K H σ ρ ∧ Aft K n W H σ ρ (runMs ms ρ) fun ss ρ' H' => ∀ vs, SRs K H H' σ ρ' vs ss → Q vs H'
section
variable {X : Cx} {n : Nat} {W : XW}
abbrev XMs (X : Cx) (n : Nat) (W : XW) (es : List Expr) (ms : List M1) : Prop := PA X es (tMs X.K n W ms)
def setAll (σ : L2.St) : List Nat → List V → L2.St
  | i :: is, v :: vs => setAll (σ.set i (some v)) is vs
  | _, _ => σ
def gNames (is : List Nat) : TGs := fun vs σ H Q => vs.length = is.length ∧ Q (setAll σ is vs) H
end
end Q
namespace Q
open PySem PySem.Spec PyProof.Rows L2 Gd
variable [Tbl]
/-! ### f(x), x new and f's own from then on -/
@[simp] def eCallN (F : Fn) (m : Mo Ob) : Mo R := fun ρ => (m ρ).bind fun o ρ1 => (F [.own o]).bnd fun s _ => match s with
  | .dat x => .ok (.d x) ρ1
  | _ => .no
section
variable {X : Cx} {n : Nat} {W : XW} {k : Nat} {f : Addr} {fd : FuncData} {ps : List Str} {x : Str} {p pos : Pos} {e : Expr} {m : Mo Ob} {F : Fn}
end
end Q
namespace SetS
open PySem PySem.Spec PyProof.Rows L2 Gd PySem.Froz
/-! ### sets of texts whose walk is known: add, sorted -/
def keyS (e : Int × Value) : Str := match e.2 with
  | .str k _ => k
  | _ => Str.empty
/-- the set at a holds the texts l -/
def Is (P : Program) (w : World) (h : Heap) (a : Addr) (l : List Str) : Prop :=
  ∃ D : SD, h.get? a = some (sObj "set" D) ∧ TxOk P w D l ∧ (D.1.toList.map keyS).Perm l ∧ (∀ e ∈ D.1.toList, ∃ u, e.2 = Value.str (keyS e) u) ∧ Ris D.2.2.place.toList ∧ (w.params.followText "set-order" = true ∨ D.2.2.led = true)
def add (l : List Str) (k : Str) : List Str := if l.contains k = true then l else k :: l
section
variable {P : Program} {w : World} {A : Around} {E : Value → Shared → Prop} {s : Shared} {h h' : Heap} {a : Addr} {l : List Str}
theorem Is.at (R : Is P w h a l) (k : ∀ o, h.get? a = some o → h'.get? a = some o) : Is P w h' a l := by
  obtain ⟨D, ho, rest⟩ := R
  exact ⟨D, k _ ho, rest⟩
theorem tail_ris {ep : Nat} {es : Array (Int × Value)} {t : SetTable} {d : Bool} (r : Ris t.place.toList) : Ris (tailTx ep es t d).2.2.place.toList := by
  unfold tailTx
  split
  · exact relayAll_ris _ _ _
  · exact r
theorem tail_led {ep : Nat} {es : Array (Int × Value)} {t : SetTable} {d : Bool} : (tailTx ep es t d).2.2.led = t.led := by
  unfold tailTx
  split
  · exact relayAll_led _ _ _
  · rfl
theorem tail_perm {ep : Nat} {es : Array (Int × Value)} {t : SetTable} {d : Bool} : (tailTx ep es t d).1.toList.Perm es.toList := by
  unfold tailTx
  split
  · exact relayAll_perm _ _ _
  · exact List.Perm.refl _
theorem add_ris {hs : Int} {v : Value} {D : SD} (r : Ris D.2.2.place.toList) : Ris (addTx hs v D).2.2.place.toList := by
  unfold addTx
  refine tail_ris ?_
  have q := layNew_ris D.2.2 D.1 hs v r
  split <;> exact q
theorem add_led {hs : Int} {v : Value} {D : SD} : (addTx hs v D).2.2.led = D.2.2.led := by
  unfold addTx
  rw [tail_led]
  have q := layNew_led D.2.2 D.1 hs v
  split <;> exact q
theorem add_perm {hs : Int} {v : Value} {D : SD} : (addTx hs v D).1.toList.Perm ((hs, v) :: D.1.toList) := by
  unfold addTx
  refine tail_perm.trans ((layNew_perm D.2.2 D.1 hs v).trans ?_)
  rw [Array.toList_push]
  exact List.perm_append_singleton _ _
/-- what an add makes of it -/
theorem Is.more {k : Str} {u : Tok} {D : SD} (F : TxOk P w D l) (pm : (D.1.toList.map keyS).Perm l) (g : ∀ e ∈ D.1.toList, ∃ u, e.2 = Value.str (keyS e) u) (r : Ris D.2.2.place.toList) (led : w.params.followText "set-order" = true ∨ D.2.2.led = true)
    (ho : h.get? a = some (sObj "set" (addTx (hashStr w k) (.str k u) D))) : Is P w h a (k :: l) := by
  refine ⟨_, ho, add_ok u F, (add_perm.map keyS).trans (pm.cons k), fun e he => ?_, add_ris r, led.imp id fun z => by rw [add_led]; exact z⟩
  rcases List.mem_cons.mp (add_perm.mem_iff.mp he) with z | z
  · rw [z]
    exact ⟨u, rfl⟩
  · exact g e z
theorem add_hashed {k : Str} {u : Tok} {Q : Bool → Shared → Prop} (R : Is P w s.heap a l) (room : l.length + 1 < scanBound)
    (hQ : ∀ b h', Heap.SameBut a s.heap h' → Is P w h' a (add l k) → Q b { s with heap := h' }) : wpAny (model P w) A (setAddHashed a (.str k u) (hashStr w k)) Q E s := by
  obtain ⟨D, ho, F, pm, g, r, led⟩ := R
  by_cases c : l.contains k = true
  · have hk : k ∈ l := List.contains_iff_mem.mp c
    have hQ' := hQ false s.heap (Heap.SameBut.refl a s.heap) (by
      unfold add
      rw [if_pos c]
      exact ⟨D, ho, F, pm, g, r, led⟩)
    obtain ⟨es, ep, t⟩ := D
    have hd : (sObj "set" (es, ep, t)).data = .set es ep t := rfl
    have hf : t.fits es.size = true := F.fit
    have hel : ElemsOf (strKind P w) es.toList := F.el
    have hsz : es.size = l.length := F.sz
    have hkey : (strKind P w).is k (.str k u) = true := is_str k u
    obtain ⟨e, he, ez⟩ := (F.mem k).mp hk
    unfold setAddHashed setAddHashedIn
    refine wpAny_holding (wpAny_bind (wpAny_setState_of ho hd hf ?_))
    dsimp only
    rw [byScan_of rfl (by omega) hel]
    simp only [↓reduceIte]
    unfold setAddByScan
    refine wpAny_bind ?_
    refine wpAny_bind (wpAny_rule ?_)
    refine wpAny_bind (wpAny_setScan_of (knd := strKind P w) (k := k) hkey ho hd hf hel ?_)
    cases hfi : List.findIdx? (fun e => (strKind P w).is k e.2) es.toList with
    | none =>
      have z := List.findIdx?_eq_none_iff.mp hfi e he
      rw [ez] at z
      cases z
    | some j =>
      dsimp only
      exact wpAny_pure (wpAny_pure hQ')
  · have hk : k ∉ l := fun z => c (List.contains_iff_mem.mpr z)
    refine add_x ho F hk room (hQ true _ (Heap.SameBut.update _ a _) ?_)
    unfold add
    rw [if_neg c]
    exact Is.more F pm g r led (get_upd _ ho rfl)
theorem call_add {k : Str} {u : Tok} {Q : Value → Shared → Prop} (R : Is P w s.heap a l) (room : l.length + 1 < scanBound)
    (hQ : ∀ h', Heap.SameBut a s.heap h' → Is P w h' a (add l k) → Q .none { s with heap := h', toks := s.toks + 1 }) : wpAny (model P w) A (call (.builtin "set.add") [.ref a, .str k u]) Q E s := by
  have hT : s.TypeIs (.ref a) "set" := by
    obtain ⟨D, ho, _⟩ := id R
    exact ⟨_, ho, rfl⟩
  refine wpAny_call_entry F.slot_set_add hT F.entry_set_add ?_ (F.args_set_add_2 _ _)
  unfold Builtin.«set.add» Builtin.Frozenset.oneOther
  simp only [List.isEmpty_nil, bind_assoc]
  unfold Builtin.Frozenset.addrOf setAdd
  refine wpAny_bind (wpAny_pure ?_)
  try dsimp only
  refine wpAny_bind (wpAny_pure ?_)
  try dsimp only
  refine wpAny_bind ?_
  refine wpAny_holding ?_
  refine wpAny_bind ((strKind P w).pyHash (is_str k u) ?_)
  refine add_hashed (s := { s with toks := s.toks + 1 }) R room fun b h' sb r => ?_
  show wpAny _ _ (ret Value.none) _ _ _
  exact wpAny_pure ⟨_, rfl, hQ h' sb r⟩
theorem fresh {h : Heap} : Is P w (h.push { cls := .type "set", dict := none, data := .set #[] 0 (.fresh 0 0 (!w.params.followText "set-order")) }) h.objs.size [] :=
  ⟨(#[], 0, .fresh 0 0 (!w.params.followText "set-order")), Heap.get?_push_size _ rfl, TxOk.nil (by rfl), List.Perm.refl _, (fun e he => nomatch he), List.Pairwise.nil, by
    show _ ∨ (!w.params.followText "set-order") = true
    cases w.params.followText "set-order"
    · exact .inr rfl
    · exact .inl rfl⟩
theorem strs_of : ∀ (vs : List Value), (∀ v ∈ vs, ∃ k u, v = Value.str k u) → StrsAre vs (vs.map fun v => keyS (0, v))
  | [], _ => .nil
  | v :: vs, h => by
    obtain ⟨k, u, rfl⟩ := h v List.mem_cons_self
    exact .cons k u (strs_of vs fun v hv => h v (List.mem_cons_of_mem _ hv))
theorem call_sorted {Q : Value → Shared → Prop} (R : Is P w s.heap a l) (hh : A.handled = none) (h64 : l.length < 64)
    (hQ : ∀ s' p (out : Array Value) (c : Nat) (ys : List Str), (∀ b o, s.heap.get? b = some o → s'.heap.get? b = some o) → s'.gens = s.gens → s'.os = s.os → s.heap.objs.size ≤ p →
      s'.heap.get? p = some (seqObj "list" out c) → StrsAre out.toList ys → ys.Perm l → sortedS ys = true → Q (.ref p) s') :
    wpAny (model P w) A (call (.builtin "sorted") [.ref a]) Q E s := by
  obtain ⟨D, ho, F, pm, g, r, led⟩ := R
  have hsz : D.1.size = l.length := F.sz
  refine Calls.call_function_entry kind_sorted plain_sorted entry_sorted (args_sorted1 _) ?_
  unfold Builtin.«sorted»
  refine wpAny_bind (m := checkCount "sorted" 1 1 _) (wpAny_pure ?_)
  refine wpAny_bind (collect_set (A := A.in1) (es := D.1) (ep := D.2.1) (t := D.2.2) hh ⟨_, ho, rfl, rfl⟩ F.fit (by rw [hsz]; exact Nat.lt_trans h64 (by decide)) r led fun s1 vs k1 hz g1 o1 pv => ?_)
  have hvl : vs.length = l.length := by rw [pv.length_eq, List.length_map, Array.length_toList]; exact hsz
  have hS : StrsAre vs (vs.map fun v => keyS (0, v)) := strs_of vs fun v hv => by
    obtain ⟨e, he, q⟩ := List.mem_map.mp (pv.mem_iff.mp hv)
    obtain ⟨u, eu⟩ := g e he
    exact ⟨_, u, by rw [← q]; exact eu⟩
  have pk : (vs.map fun v => keyS (0, v)).Perm l := by
    have q := pv.map fun v => keyS (0, v)
    rw [List.map_map] at q
    exact q.trans pm
  refine wpAny_bind (wpAny_newList ?_ (by rw [hvl, sizeLine_eq]; omega))
  have hoL : (s1.heap.push (seqObj "list" vs.toArray 0)).get? s1.heap.objs.size = some (seqObj "list" vs.toArray 0) := Heap.get?_push_size _ rfl
  refine wpAny_bind (wpAny_holding (wpAny_call_entry slot_list_sort ⟨_, hoL, rfl⟩ entry_list_sort (list_sort_treeK strKind_oneLt (s := { s1 with heap := s1.heap.push (seqObj "list" vs.toArray 0) }) hoL hS.keysOf (fun _ _ _ e => keyKind_strs (by rw [← e]; exact hS)) (by omega) fun st hp hs => ⟨_, rfl, ?_⟩) (args_list_sort _)))
  obtain ⟨ys, g1', g2', g3'⟩ := sorted_out_str hS hp hs
  obtain ⟨c, hc⟩ := sortedHeap_at (vs := vs) (out := (arrOf st).map (·.2)) hoL
  refine wpAny_pure ⟨_, rfl, hQ _ s1.heap.objs.size _ c ys (fun b u e => ?_) g1 o1 hz hc g1' (g2'.trans pk) g3'⟩
  have q := k1 b u e
  have hlt := Heap.lt_size q
  show (sortedHeap (s1.heap.push (seqObj "list" vs.toArray 0)) s1.heap.objs.size vs _).get? b = some u
  rw [sortedHeap_old (Nat.ne_of_lt hlt) (by rw [size_push']; exact Nat.lt_succ_of_lt hlt)]
  exact Heap.get?_push_of_some _ q
end
end SetS
namespace SetS
open PySem PySem.Spec PyProof.Rows L2 Gd PySem.Froz PpSet
/-! ### the text set as a tracked thing -/
def SO (P : Program) (w : World) (a : Addr) (l : List Str) : HO := .ext fun h => Is P w h a l
theorem so_new {w : World} {P : Program} {H : Hp} {h : Heap} {a : Addr} {l : List Str} (R : Is P w h a l) : ObjOk P w H h a (SO P w a l) := by
  have ⟨D, ho, _⟩ := R
  exact ⟨R, ⟨_, ho⟩, fun h1 h2 p k => Is.at p k⟩
section
variable {X : Cx}
theorem so_get {pins : List (Addr × Obj)} {σ : L2.St} {H : Hp} {s : Shared} {a : Addr} {l : List Str} (I : Inv X pins σ H s) (ha : H a = some (SO X.prog X.w a l)) : Is X.prog X.w s.heap a l := (I.hok a _ ha).1
theorem so_add {pins : List (Addr × Obj)} {σ : L2.St} {H : Hp} {s : Shared} {E : Value → Shared → Prop} {D : Addr} {l : List Str} {k : Str} {v : Value} {Q : Value → Shared → Prop} (I : Inv X pins σ H s) (hD : H D = some (SO X.prog X.w D l)) (room : l.length + 1 < scanBound) (r : RelV (.str k) v)
    (h : ∀ s', Inv X pins σ (upd H D (SO X.prog X.w D (add l k))) s' → Q .none s') : wpAny (model X.prog X.w) X.A (call (.builtin "set.add") [.ref D, v]) Q E s := by
  have R := so_get I hD
  obtain ⟨u, rfl⟩ := r
  refine call_add R room fun h' sb new => ?_
  have he : ∃ u, h'.get? D = some u := by
    have ⟨D', ho, _⟩ := new
    exact ⟨_, ho⟩
  exact h _ (I.write (e := D) (t' := s.toks + 1) (by rw [hD]; trivial) (.inl rfl) (fun b u hb hu => (sb.2 b hb).trans hu) he (so_new new))
/-- sorted(s), s a tracked set of texts -/
def rSortS (P : Program) (w : World) : List V → Hp → VK → Prop := fun vs H Q => ∃ (a : Addr) (l : List Str), vs = [V.ref a] ∧ H a = some (SO P w a l) ∧ l.length < 64 ∧ ∀ (ys : List Str) (p : Addr), ys.Perm l → sortedS ys = true → H p = none → Q (.ref p) (upd H p (.lst (ys.map V.str)))
theorem cr_sortS (hc : X.calm = true) : CallR X (.builtin "sorted") (rSortS X.prog X.w) := by
  rintro pins s σ H vs us Q I r ⟨a, l, rfl, ha, h64, q⟩
  obtain ⟨u, rfl, rx⟩ := vals1 r
  cases rx
  refine call_sorted (so_get I ha) (I.ok.hd hc) h64 fun s' p out c ys kk hg ho hz hp hs pm so => ?_
  have small : (ys.map V.str).length ≤ sizeLine := by
    rw [List.length_map, pm.length_eq, sizeLine_eq]
    omega
  have hn : H p = none := I.hok.fresh hz
  have J : Inv X pins σ (upd H p (.lst (ys.map V.str))) s' :=
    I.call' (ch := []) ho (Un.laid kk hz hn) (I.hok.laid kk hz ⟨small, out.toList, c, vals_of_strs hs, by rw [Array.toArray_toList]; exact hp⟩) (by rw [hg]; exact I.bare) (fun _ z => nomatch z)
  exact ⟨.ref p, _, J, rfl, q ys p pm so hn⟩
end
/-! ### the comprehension with two fors -/
section
variable {prog : Program} {w : World} {A : Around} {R : Result → Shared → Prop} {s : Shared} {env : Env} {elt t1 it1 t2 it2 : Expr} {scope : Scope} {pos : Pos} {it acc : Value}
abbrev Sc2 (elt t1 it1 t2 it2 : Expr) (scope : Scope) (pos : Pos) : Expr := .SetComp elt [⟨t1, it1, [], 0⟩, ⟨t2, it2, [], 0⟩] scope pos
theorem turn_in : compTurn (Sc2 elt t1 it1 t2 it2 scope pos) 1 it acc env = (do
      standAt it2.pos
      match ← pyNext it with
      | none => pure (.done .next)
      | some v =>
        letOwnedTupleGo t2 it v
        assign t2 env v
        let mut ok := true
        for c in ([] : List Expr) do
          if ok then ok ← isTrue c env (eval c env)
        if ok then
          (do let v ← eval elt env; standAt elt.pos; let _ ← call (.builtin "set.add") [acc, v])
        again (.compLoop (Sc2 elt t1 it1 t2 it2 scope pos) 1 it acc env)) := by rfl
theorem turn_out : compTurn (Sc2 elt t1 it1 t2 it2 scope pos) 0 it acc env = (do
      standAt it1.pos
      match ← pyNext it with
      | none => pure (.done .next)
      | some v =>
        letOwnedTupleGo t1 it v
        assign t1 env v
        let mut ok := true
        for c in ([] : List Expr) do
          if ok then ok ← isTrue c env (eval c env)
        if ok then
          let x ← eval it2 env
          standAt it2.pos
          let x ← foldedSetIterable it2 env x
          let _ ← runOwn (.compStart (Sc2 elt t1 it1 t2 it2 scope pos) 1 (← holding [x] (pyIter x)) acc env) env
        again (.compLoop (Sc2 elt t1 it1 t2 it2 scope pos) 0 it acc env)) := by rfl
abbrev No : Value → Shared → Prop := fun _ _ => False
theorem loop_in (I : Nat → Shared → Prop)
    (turn : ∀ n s, I n s → wpAny (model prog w) A (pyNext it) (fun r s₁ => match r with
      | none => R (.ok .next) s₁
      | some v => wpAny (model prog w) A (letOwnedTupleGo t2 it v) (fun _ s₁' => wpAny (model prog w) A (assign t2 env v) (fun _ s₂ =>
          wpAny (model prog w) A (eval elt env) (fun x s₄ => wpAny (model prog w) A (call (.builtin "set.add") [acc, x]) (fun _ s₅ => ∃ m, m < n ∧ I m s₅) No s₄) No s₂) No s₁') No s₁) No s)
    (n : Nat) (h : I n s) : codeAny (model prog w) A (.compLoop (Sc2 elt t1 it1 t2 it2 scope pos) 1 it acc env) R s := by
  refine codeAny_loop rfl I (fun n s hI => ?_) n h
  show wpAny _ A ((compTurn (Sc2 elt t1 it1 t2 it2 scope pos) 1 it acc env).onRaise (fun x => do noteFrame x env; theTreesLotGoes x)) _ _ s
  refine wpAny_noted ?_
  rw [turn_in]
  refine wpAny_bind (wpAny_standAt (wpAny_bind (thnF (turn n s hI) fun r s₁ h₁ => ?_)))
  cases r with
  | none => exact wpAny_pure h₁
  | some v =>
    refine wpAny_bind (thnF h₁ fun _ s₁' h₁' => ?_)
    refine wpAny_bind (thnF h₁' fun _ s₂ h₂ => wpAny_bind (wpAny_tests_nil ?_))
    exact wpAny_bind (wpAny_bind (thnF h₂ fun x s₄ h₄ => wpAny_bind (wpAny_standAt (wpAny_bind (thnF h₄ fun _ s₅ h₅ => wpAny_pure (wpAny_pure ⟨rfl, h₅⟩))))))
theorem start_in
    (h0 : codeAny (model prog w) A (.compLoop (Sc2 elt t1 it1 t2 it2 scope pos) 1 it acc env) R s)
    (h : wpAny (model prog w) A (pyIter it) (fun it' s' => codeAny (model prog w) A (.compLoop (Sc2 elt t1 it1 t2 it2 scope pos) 1 it' acc env) R s')
      (notedBy (model prog w) A env fun x s' => R (.error x) s') s) :
    codeAny (model prog w) A (.compStart (Sc2 elt t1 it1 t2 it2 scope pos) 1 it acc env) R s := by
  refine codeAny_of_tree ?_
  show wpAny _ _ ((compStart (Sc2 elt t1 it1 t2 it2 scope pos) 1 it acc env).onRaise (fun x => do noteFrame x env; standAt theWindowsPlace)) _ _ s
  refine wpAny_notedAt ?_
  unfold compStart
  show wpAny _ _ (ask >>= _) _ _ s
  refine wpAny_bind (wpAny_askSetting (wpAny_ite ?_))
  split
  · first
      | exact wpAny_bind (wpAny_pure (wpAny_pure (And.intro rfl h0)))
      | exact wpAny_pure (And.intro rfl h0)
  · first
      | exact wpAny_bind (wpAny_rule (wpAny_bind (wpAny_standAt (wpAny_bind (wpAny_mono h (fun it' s' h' => wpAny_pure (And.intro rfl h')) fun _ _ x => x)))))
      | (refine wpAny_bind (wpAny_rule ?_); show wpAny _ _ (standAt it2.pos >>= _) _ _ s; exact wpAny_bind (wpAny_standAt (wpAny_bind (wpAny_mono h (fun it' s' h' => wpAny_pure (And.intro rfl h')) fun _ _ x => x))))
theorem loop_out (hs : ∀ x, foldedSetIterable it2 env x = pure x) (I : Nat → Shared → Prop)
    (turn : ∀ n s, I n s → wpAny (model prog w) A (pyNext it) (fun r s₁ => match r with
      | none => R (.ok .next) s₁
      | some v => wpAny (model prog w) A (letOwnedTupleGo t1 it v) (fun _ s₁' => wpAny (model prog w) A (assign t1 env v) (fun _ s₂ =>
          wpAny (model prog w) A (eval it2 env) (fun x s₄ => wpAny (model prog w) A (pyIter x) (fun it' s₅ =>
            codeAny (model prog w) A (.compStart (Sc2 elt t1 it1 t2 it2 scope pos) 1 it' acc env) (fun r s' => ∃ f, r = .ok f ∧ ∃ m, m < n ∧ I m s') s₅) No s₄) No s₂) No s₁') No s₁) No s)
    (n : Nat) (h : I n s) : codeAny (model prog w) A (.compLoop (Sc2 elt t1 it1 t2 it2 scope pos) 0 it acc env) R s := by
  refine codeAny_loop rfl I (fun n s hI => ?_) n h
  show wpAny _ A ((compTurn (Sc2 elt t1 it1 t2 it2 scope pos) 0 it acc env).onRaise (fun x => do noteFrame x env; theTreesLotGoes x)) _ _ s
  refine wpAny_noted ?_
  rw [turn_out]
  refine wpAny_bind (wpAny_standAt (wpAny_bind (thnF (turn n s hI) fun r s₁ h₁ => ?_)))
  cases r with
  | none => exact wpAny_pure h₁
  | some v =>
    refine wpAny_bind (thnF h₁ fun _ s₁' h₁' => ?_)
    refine wpAny_bind (thnF h₁' fun _ s₂ h₂ => wpAny_bind (wpAny_tests_nil ?_))
    refine wpAny_bind (thnF h₂ fun x s₄ h₄ => ?_)
    refine wpAny_bind (wpAny_standAt (wpAny_bind (wpAny_of_eq (hs x) ?_)))
    refine wpAny_bind (wpAny_holding (thnF h₄ fun it' s₅ h₅ => ?_))
    refine wpAny_bind (wpAny_runOwn (codeAny_mono h₅ fun r s' ⟨f, e, h⟩ => ?_))
    subst e
    exact wpAny_pure ⟨rfl, h⟩
theorem start_out
    (h0 : codeAny (model prog w) A (.compLoop (Sc2 elt t1 it1 t2 it2 scope pos) 0 it acc env) R s)
    (h : wpAny (model prog w) A (pyIter it) (fun it' s' => codeAny (model prog w) A (.compLoop (Sc2 elt t1 it1 t2 it2 scope pos) 0 it' acc env) R s')
      (notedBy (model prog w) A env fun x s' => R (.error x) s') s) :
    codeAny (model prog w) A (.compStart (Sc2 elt t1 it1 t2 it2 scope pos) 0 it acc env) R s := PpSet.codeAny_compStart_set h0 h
end
end SetS
namespace SetS
open PySem PySem.Spec PyProof.Rows L2 Gd PySem.Froz PpSet
theorem wipe_out' {σ : L2.St} {i : Nat} : ∀ {vs : List Nat}, i ∉ vs → (wipe σ vs)[i]? = σ[i]?
  | [], _ => rfl
  | v :: vs, h => by
    unfold wipe
    rw [List.getElem?_set_ne fun z => h (by rw [z]; exact List.mem_cons_self), wipe_out' fun z => h (List.mem_cons_of_mem _ z)]
def tSc2 (P : Program) (w : World) (wi1 : TI) (g1 : TG) (wi2 : TI) (g2 : TG) (te : TE) (vs vs2 : List Nat) : TE := fun σ H Q => wi1 σ H fun J H1 => ∀ D, H1 D = none → ∃ W : Nat → Nat → Hp → Prop, (∃ m, W 0 m (upd H1 D (SO P w D []))) ∧ ∀ i m H, W i m H →
  (J.stop i H ∧ Q (.ref D) H) ∨ (J.go i H ∧ ∃ Nx : Hp → Prop, (∀ H', Nx H' → ∃ m', m' < m ∧ W (i + 1) m' H') ∧ ∀ x H', J.yld i H x H' → g1 x (wipe σ vs) H' fun σ2 H2 => wipe σ2 vs = wipe σ vs ∧ wi2 σ2 H2 fun J2 H3 =>
    ∃ W2 : Nat → Nat → Hp → Prop, (∃ m, W2 0 m H3) ∧ ∀ i m H, W2 i m H → (J2.stop i H ∧ Nx H) ∨ (J2.go i H ∧ ∃ Nx2 : Hp → Prop, (∀ H', Nx2 H' → ∃ m', m' < m ∧ W2 (i + 1) m' H') ∧ ∀ x H', J2.yld i H x H' → g2 x (wipe σ2 vs2) H' fun σ3 H4 =>
      wipe σ3 vs2 = wipe σ2 vs2 ∧ te σ3 H4 fun y H5 => ∃ c l, y = .str c ∧ H5 D = some (SO P w D l) ∧ l.length + 1 < scanBound ∧ Nx2 (upd H5 D (SO P w D (add l c)))))
section
variable {X : Cx}
theorem sc2_core {pins : List (Addr × Obj)} {s : Shared} {σ : L2.St} {H : Hp} {Q : VK} {elt tg iter tg2 iter2 : Expr} {scope : Scope} {own : List (PySem.Str × Nat)} {vs2 : List Nat} {pos pos' : Pos} {wi1 wi2 : TI} {g1 g2 : TG} {te : TE} {use : Option (Value → Sem Unit)} {Qf : Value → Shared → Prop}
    (hc : X.calm = true) (hN : X.N.Nodup) (I : Inv X pins σ H s) (hi : PI X tg iter wi1) (ok : BlkOk X.N X.env.scope scope own) (hv2 : ∀ v ∈ vs2, v ∈ own.map (·.2))
    (hg : ∀ (s : Shared) (H : Hp) (C : Addr) (cl : List (PySem.Str × Addr)) (fp : List Addr), PG (X.blk s H scope (compEnvC scope cl C X.env) fp) tg g1)
    (hi2 : ∀ (s : Shared) (H : Hp) (C : Addr) (cl : List (PySem.Str × Addr)) (fp : List Addr), PI (X.blk s H scope (compEnvC scope cl C X.env) fp) tg2 iter2 wi2)
    (hg2 : ∀ (s : Shared) (H : Hp) (C : Addr) (cl : List (PySem.Str × Addr)) (fp : List Addr), PG (X.blk s H scope (compEnvC scope cl C X.env) fp) tg2 g2)
    (he : ∀ (s : Shared) (H : Hp) (C : Addr) (cl : List (PySem.Str × Addr)) (fp : List Addr), PE (X.blk s H scope (compEnvC scope cl C X.env) fp) elt te) (hs : ∀ x, foldedSetIterable iter X.env x = pure x) (hs2 : ∀ (env : Env) x, foldedSetIterable iter2 env x = pure x)
    (h : tSc2 X.prog X.w wi1 g1 wi2 g2 te (own.map (·.2)) vs2 σ H Q)
    (hRR : ∀ D C s' m H', Inv X pins σ H' s' → Q (.ref D) H' → s'.heap.Ns C m → FpOk X pins H' C → compPost (model X.prog X.w) X.A X.xe use Qf (.ref D) C (.ok .next) s') :
    wpAny (model X.prog X.w) X.A (comprehension (Sc2 elt tg iter tg2 iter2 scope pos) scope X.env pos' (newSet (.type "set")) false (eval iter X.env) use) Qf X.xe s := by
  have hfree : ∀ y ∈ scope.names, y.2 = .free → ∃ c, X.env.cells.lookup y.1 = some c := fun y hy e => by
    rcases ok.free y hy e with k | k
    · exact I.ok.has _ (.inl k)
    · exact I.ok.has _ (.inr k)
  refine wpAny_comprehension_free (use := use) rfl hs (closure_ok hfree) ok.kind (fun y hy e => by rw [ok.uniq y hy, e])
    (thn (hi.run pins s σ H _ I h) fun xv s1 hx => thn hx fun itv s2 h2 => ?_)
  obtain ⟨it, fp, tn, J, H2, e, I2, T, st2, f2, q⟩ := h2
  subst e
  refine newSet_ok (newEnv_comp ?_)
  generalize hD : s2.heap.objs.size = D
  have hDn : H2 D = none := I2.hok.fresh (Nat.le_of_eq hD)
  obtain ⟨W, ⟨m0, w0⟩, turn⟩ := q D hDn
  generalize hs3 : ({ s2 with heap := s2.heap.push { cls := .type "set", dict := none, data := .set #[] 0 (.fresh 0 0 (!X.w.params.followText "set-order")) } } : Shared) = s3
  have I3 : Inv X pins σ (upd H2 D (SO X.prog X.w D [])) s3 := by
    rw [← hs3]
    refine I2.laid (t' := s2.toks) (fun b o e => Heap.get?_push_of_some _ e) (Nat.le_of_eq hD) ?_
    rw [← hD]
    exact so_new fresh
  have h3 : s3.heap = s2.heap.push { cls := .type "set", dict := none, data := .set #[] 0 (.fresh 0 0 (!X.w.params.followText "set-order")) } := by rw [← hs3]
  have sz : ∀ b ∈ fp, b < s2.heap.objs.size := fun b hb => by
    obtain ⟨o, e, _⟩ := T.obj _ _ st2 b hb
    exact Heap.lt_size e
  have f3 : ∀ b ∈ fp, FpOk X pins (upd H2 D (SO X.prog X.w D [])) b ∧ b < s3.heap.objs.size := fun b hb => by
    have hlt := sz b hb
    refine ⟨⟨?_, (f2 b hb).2⟩, by rw [h3, Heap.size_push]; exact Nat.lt_succ_of_lt hlt⟩
    rw [upd_ne (by rw [← hD]; exact Nat.ne_of_lt hlt)]
    exact (f2 b hb).1
  have st3 : tn 0 s3.heap := T.keep _ _ _ st2 fun b _ o e => by rw [h3]; exact Heap.get?_push_of_some _ e
  have I4 := block_start I3 ok hN f3
  show codeAny _ _ (.compStart (Sc2 elt tg iter tg2 iter2 scope pos) 0 (.ref it) (.ref D) (compEnvC scope (cellsFrom (s3.heap.objs.size + 1) scope.names (cloFrom X.env.cells scope.names [])) s3.heap.objs.size X.env)) (compPost (model X.prog X.w) X.A X.xe use Qf (.ref D) s3.heap.objs.size) { s3 with heap := pushCells (s3.heap.push { cls := .type "dict", data := .dict #[] }) scope.names }
  generalize hcl : cellsFrom (s3.heap.objs.size + 1) scope.names (cloFrom X.env.cells scope.names []) = cl at I4 ⊢
  have pg := hg s3 (upd H2 D (SO X.prog X.w D [])) s3.heap.objs.size cl fp
  have pi2 := hi2 s3 (upd H2 D (SO X.prog X.w D [])) s3.heap.objs.size cl fp
  have pg2 := hg2 s3 (upd H2 D (SO X.prog X.w D [])) s3.heap.objs.size cl fp
  have pe := he s3 (upd H2 D (SO X.prog X.w D [])) s3.heap.objs.size cl fp
  have nfp : ∀ b ∈ fp, (upd H2 D (SO X.prog X.w D [])) b = none := fun b hb => (f3 b hb).1.1
  generalize hce : compEnvC scope cl s3.heap.objs.size X.env = ce at I4 pg pg2 pi2 pe ⊢
  have cL : ce.locals = s3.heap.objs.size := by subst hce; rfl
  generalize hH3 : upd H2 D (SO X.prog X.w D []) = H3 at I3 I4 pg pg2 pi2 pe w0 nfp f3
  generalize hs4 : ({ s3 with heap := pushCells (s3.heap.push { cls := .type "dict", data := .dict #[] }) scope.names } : Shared) = s4 at I4 ⊢
  have st4 : tn 0 s4.heap := T.keep _ _ _ st3 fun b _ o e => by rw [← hs4]; exact pushCells_keeps _ _ _ _ (Heap.get?_push_of_some _ e)
  have stat : ∀ {σ' : L2.St} {H' : Hp} {s' : Shared}, Inv (X.blk s3 H3 scope ce fp) [] σ' H' s' → (∀ b ∈ fp, H' b = none) → ∀ b ∈ fp, FpOk (X.blk s3 H3 scope ce fp) [] H' b := fun {σ' H' s'} I' hn b hb =>
    ⟨hn b hb, (I'.ok.exf b hb).1, I'.ok.exfs b hb, .inl hb, fun x c e => (I'.ok.exf b hb).2 x c e, fun p hp => absurd (show p ∈ ([] : List (Addr × Obj)) ++ [] from hp) (by simp)⟩
  have loop : codeAny (model X.prog X.w) X.A (.compLoop (Sc2 elt tg iter tg2 iter2 scope pos) 0 (.ref it) (.ref D) ce) (compPost (model X.prog X.w) X.A X.xe use Qf (.ref D) s3.heap.objs.size) s4 := by
    refine loop_out (hs2 ce) (fun n s' => ∃ i H', Inv (X.blk s3 H3 scope ce fp) [] (wipe σ (own.map (·.2))) H' s' ∧ tn i s'.heap ∧ (∀ b ∈ fp, H' b = none) ∧ W i n H') ?_ m0 ⟨0, H3, I4, st4, nfp, w0⟩
    rintro n s5 ⟨i, H5, I5, st5, n5, w5⟩
    rcases turn i n H5 w5 with ⟨stop, qq⟩ | ⟨go, Nx, hNx, step⟩
    · have td := T.done (X.blk s3 H3 scope ce fp) rfl rfl rfl hc i [] s5 _ H5 (fun _ _ => False) I5 (stat I5 n5) st5 stop
      refine thnF td fun r s6 ⟨hr, I6⟩ => ?_
      subst hr
      have I7 : Inv X pins σ H5 s6 := I3.call' (ch := fp) I6.os I6.base I6.hok I6.bare fun b hb => ⟨(f3 b hb).1.2.2.2.1, (f3 b hb).1.2.1, (f3 b hb).1.2.2.2.2.1, (f3 b hb).1.2.2.2.2.2⟩
      have nC : H5 s3.heap.objs.size = none := by
        have z : H5 ce.locals = none := I6.free
        rw [cL] at z
        exact z
      obtain ⟨m, hn, _⟩ := I6.loc
      have hn : s6.heap.Ns ce.locals m := hn
      rw [cL] at hn
      exact hRR D s3.heap.objs.size s6 m H5 I7 qq hn (I3.fpOk (Nat.le_refl _) nC)
    · have ti := T.item (X.blk s3 H3 scope ce fp) rfl rfl rfl hc i [] s5 _ H5 (fun _ _ => False) I5 (stat I5 n5) st5 go
      refine thnF ti fun r s6 ⟨u, hr, h6⟩ => ?_
      subst hr
      refine thnF h6 fun _ s7 ⟨x, H7, I7, r7, y7, st7, n7⟩ => ?_
      have I7' := I7.pinned (stat I7 n7) (T.obj _ _ st7)
      refine thnF (pg.run _ s7 _ H7 x u _ I7' r7 (step x H7 y7)) fun _ s8 ⟨σ8, H8, I8, hw8, q8⟩ => ?_
      refine thnF (pi2.run _ s8 σ8 H8 _ I8 q8) fun xv s9 h9 => thnF h9 fun itv s10 h10 => ?_
      obtain ⟨itb, fpb, tnb, J2, H10, e, I10, T2, st10, f10, W2, ⟨m20, w20⟩, turn2⟩ := h10
      subst e
      -- the outer turn's end
      have fin : ∀ {s' : Shared} {H' : Hp}, Inv (X.blk s3 H3 scope ce fp) ([] ++ pinsAt fp s7.heap) (wipe σ8 vs2) H' s' → Nx H' → ∃ m, m < n ∧ ∃ i H', Inv (X.blk s3 H3 scope ce fp) [] (wipe σ (own.map (·.2))) H' s' ∧ tn i s'.heap ∧ (∀ b ∈ fp, H' b = none) ∧ W i m H' := fun {s' H'} I' nx => by
        obtain ⟨m', hm, w'⟩ := hNx H' nx
        have pin' : ∀ b ∈ fp, ∀ o, s7.heap.get? b = some o → s'.heap.get? b = some o ∧ H' b = none := fun b hb o e =>
          let z := I'.pin (b, o) (List.mem_append_right _ (List.mem_append_right _ (mem_pinsAt hb e)))
          ⟨z.1, z.2.1⟩
        have hl : (wipe σ (own.map (·.2))).length = (wipe σ8 vs2).length := by rw [← hw8, wipe_length, wipe_length]
        refine ⟨m', hm, i + 1, H', (I'.unpinned (pins := [])).weak hl (fun j v e => ?_), T.keep _ _ _ st7 fun b hb o e => (pin' b hb o e).1, fun b hb => ?_, w'⟩
        · rw [← hw8] at e
          obtain ⟨e1, e2⟩ := wipe_some e
          rw [wipe_out' fun z => e2 (hv2 _ z)]
          exact e1
        · obtain ⟨o, e, _⟩ := T.obj _ _ st7 b hb
          exact (pin' b hb o e).2
      have stat2 : ∀ {H' : Hp}, (∀ b ∈ fpb, H' b = none) → ∀ b ∈ fpb, FpOk (X.blk s3 H3 scope ce fp) ([] ++ pinsAt fp s7.heap) H' b := fun {H'} hn b hb => ⟨hn b hb, (f10 b hb).2⟩
      have I10' : Inv (X.blk s3 H3 scope ce fp) ([] ++ pinsAt fp s7.heap) (wipe σ8 vs2) H10 s10 := I10.weak (wipe_length _ _) fun j v e => (wipe_some e).1
      have loop2 : codeAny (model X.prog X.w) X.A (.compLoop (Sc2 elt tg iter tg2 iter2 scope pos) 1 (.ref itb) (.ref D) ce) (fun r s' => ∃ f, r = .ok f ∧ ∃ m, m < n ∧ ∃ i H', Inv (X.blk s3 H3 scope ce fp) [] (wipe σ (own.map (·.2))) H' s' ∧ tn i s'.heap ∧ (∀ b ∈ fp, H' b = none) ∧ W i m H') s10 := by
        refine loop_in (fun n2 s' => ∃ j H', Inv (X.blk s3 H3 scope ce fp) ([] ++ pinsAt fp s7.heap) (wipe σ8 vs2) H' s' ∧ tnb j s'.heap ∧ (∀ b ∈ fpb, H' b = none) ∧ W2 j n2 H') ?_ m20 ⟨0, H10, I10', st10, fun b hb => (f10 b hb).1, w20⟩
        rintro n2 s11 ⟨j, H11, I11, st11, n11, w11⟩
        rcases turn2 j n2 H11 w11 with ⟨stop, nx⟩ | ⟨go2, Nx2, hNx2, step2⟩
        · have td := T2.done (X.blk s3 H3 scope ce fp) rfl rfl rfl hc j _ s11 _ H11 (fun _ _ => False) I11 (stat2 n11) st11 stop
          refine thnF td fun r s12 ⟨hr, I12⟩ => ?_
          subst hr
          exact ⟨_, rfl, fin I12 nx⟩
        · have ti := T2.item (X.blk s3 H3 scope ce fp) rfl rfl rfl hc j _ s11 _ H11 (fun _ _ => False) I11 (stat2 n11) st11 go2
          refine thnF ti fun r s12 ⟨u2, hr, h12⟩ => ?_
          subst hr
          refine thnF h12 fun _ s13 ⟨x2, H13, I13, r13, y13, st13, n13⟩ => ?_
          have I13' := I13.pinned (stat2 n13) (T2.obj _ _ st13)
          refine thnF (pg2.run _ s13 _ H13 x2 u2 _ I13' r13 (step2 x2 H13 y13)) fun _ s14 ⟨σ14, H14, I14, hw14, q14⟩ => ?_
          refine thnF (pe.run _ s14 σ14 H14 _ I14 q14) fun z s15 ⟨yv, H15, I15, r15, cb, l, ey, hD15, hz15, nx⟩ => ?_
          subst ey
          refine so_add (X := X.blk s3 H3 scope ce fp) I15 hD15 hz15 r15 fun s16 I16 => ?_
          obtain ⟨m', hm, w'⟩ := hNx2 _ nx
          have pin' : ∀ b ∈ fpb, ∀ o, s13.heap.get? b = some o → s16.heap.get? b = some o ∧ (upd H15 D (SO X.prog X.w D (add l cb))) b = none := fun b hb o e =>
            let z := I16.pin (b, o) (List.mem_append_right _ (List.mem_append_right _ (mem_pinsAt hb e)))
            ⟨z.1, z.2.1⟩
          have hl : (wipe σ8 vs2).length = σ14.length := by rw [← hw14, wipe_length]
          refine ⟨m', hm, j + 1, _, (I16.unpinned (pins := [] ++ pinsAt fp s7.heap)).weak hl (fun k v e => ?_), T2.keep _ _ _ st13 fun b hb o e => (pin' b hb o e).1, fun b hb => ?_, w'⟩
          · rw [← hw14] at e
            exact (wipe_some e).1
          · obtain ⟨o, e, _⟩ := T2.obj _ _ st13 b hb
            exact (pin' b hb o e).2
      exact start_in loop2 (T2.self X.A 0 _ _ _ st10 loop2)
  exact start_out loop (T.self X.A 0 _ _ _ st4 loop)
theorem pe_sc2 {elt tg iter tg2 iter2 : Expr} {scope : Scope} {own : List (PySem.Str × Nat)} {vs2 : List Nat} {pos : Pos} {wi1 wi2 : TI} {g1 g2 : TG} {te : TE}
    (hc : X.calm = true) (hN : X.N.Nodup) (hi : PI X tg iter wi1) (ok : BlkOk X.N X.env.scope scope own) (hv2 : ∀ v ∈ vs2, v ∈ own.map (·.2))
    (hg : ∀ (s : Shared) (H : Hp) (C : Addr) (cl : List (PySem.Str × Addr)) (fp : List Addr), PG (X.blk s H scope (compEnvC scope cl C X.env) fp) tg g1)
    (hi2 : ∀ (s : Shared) (H : Hp) (C : Addr) (cl : List (PySem.Str × Addr)) (fp : List Addr), PI (X.blk s H scope (compEnvC scope cl C X.env) fp) tg2 iter2 wi2)
    (hg2 : ∀ (s : Shared) (H : Hp) (C : Addr) (cl : List (PySem.Str × Addr)) (fp : List Addr), PG (X.blk s H scope (compEnvC scope cl C X.env) fp) tg2 g2)
    (he : ∀ (s : Shared) (H : Hp) (C : Addr) (cl : List (PySem.Str × Addr)) (fp : List Addr), PE (X.blk s H scope (compEnvC scope cl C X.env) fp) elt te) (hs : ∀ x, foldedSetIterable iter X.env x = pure x := by intro _; rfl) (hs2 : ∀ (env : Env) x, foldedSetIterable iter2 env x = pure x := by intro _ _; rfl) :
    PE X (Sc2 elt tg iter tg2 iter2 scope pos) (tSc2 X.prog X.w wi1 g1 wi2 g2 te (own.map (·.2)) vs2) := by
  refine ⟨fun pins s σ H Q I h => ?_⟩
  rw [PpSet.eval_SetComp]
  refine sc2_core hc hN I hi ok hv2 hg hi2 hg2 he hs hs2 h fun D C s' m H' I' q hn f => ⟨m, hn, fun h'' sb => ?_⟩
  obtain ⟨f0, f1, f2, f3, f4, f5⟩ := f
  exact ⟨.ref D, H', I'.turned (t' := s'.toks) (fun b o hb e => (sb.2 b hb).trans e) f0 f1 f3 f4 f5, rfl, q⟩
end
end SetS
namespace Q
open PySem PySem.Spec PyProof.Rows L2 Gd
variable [Tbl]
/-! ### sorted({elt for x in xs for y in ys}), elt a text -/
def comp2D (g1 : Tg) (it2 : Mo (List D)) (g2 : Tg) (e : Mo R) (vs vs2 : List Nat) : List D → Mo (List D)
  | [], ρ => .ok [] ρ
  | d :: ds, ρ => match g1 d ρ with
    | none => .no
    | some ρ1 => (it2 ρ1).bnd fun ds2 ρ2 => (compD g2 bYes e vs2 ds2 (wipeE ρ2 vs2)).bnd fun xs ρ3 => (comp2D g1 it2 g2 e vs vs2 ds (wipeE ρ3 vs)).bnd fun ys ρ4 => .ok (xs ++ ys) ρ4
def addAll : List Str → List Str → List Str
  | l, [] => l
  | l, x :: xs => addAll (SetS.add l x) xs
theorem addAll_app : ∀ (xs l ys : List Str), addAll l (xs ++ ys) = addAll (addAll l xs) ys
  | [], _, _ => rfl
  | x :: xs, l, ys => addAll_app xs (SetS.add l x) ys
theorem add_len (l : List Str) (x : Str) : (SetS.add l x).length ≤ l.length + 1 := by
  unfold SetS.add
  split
  · exact Nat.le_succ _
  · exact Nat.le_refl _
theorem addAll_len : ∀ (xs l : List Str), (addAll l xs).length ≤ l.length + xs.length
  | [], l => Nat.le_refl _
  | x :: xs, l => by
    have a := addAll_len xs (SetS.add l x)
    have b := add_len l x
    show (addAll (SetS.add l x) xs).length ≤ l.length + (xs.length + 1)
    omega
def setOut (ρ1 : Ev) (vs : List Nat) (xs : List D) (ρ2 : Ev) : Rt Ob := match strsD xs with
  | some ns => if ns.length ≤ 4000 ∧ (addAll [] ns).length < 64 then .ok (.lst ((srt (addAll [] ns)).map PyData.str)) (mixE ρ1 ρ2 vs) else .no
  | none => .no
def fSc2 (it1 : Mo (List D)) (g1 : Tg) (it2 : Mo (List D)) (g2 : Tg) (e : Mo R) (vs vs2 : List Nat) : Mo Ob := fun ρ => (it1 ρ).bind fun ds ρ1 => if noOwn ρ1 vs = true then (comp2D g1 it2 g2 e vs vs2 ds (wipeE ρ1 vs)).bnd fun xs ρ2 => setOut ρ1 vs xs ρ2 else .no
theorem wk_it {J : It} {n : Nat} {G : Hp → Prop} {Y : Nat → Hp → V → Hp → Prop} (w : Walk J n G Y) {Step : V → Hp → (Hp → Prop) → Prop} {H0 : Hp} {Qd : Hp → Prop} (Pv : Nat → Hp → Prop) (h0 : Pv 0 H0) (hG : ∀ i H, i ≤ n → Pv i H → G H)
    (hs : ∀ i x H H', i < n → Pv i H → Y i H x H' → Step x H' (Pv (i + 1))) (hd : ∀ H, Pv n H → Qd H) :
    ∃ W : Nat → Nat → Hp → Prop, (∃ m, W 0 m H0) ∧ ∀ i m H, W i m H →
      (J.stop i H ∧ Qd H) ∨ (J.go i H ∧ ∃ Nx : Hp → Prop, (∀ H', Nx H' → ∃ m', m' < m ∧ W (i + 1) m' H') ∧ ∀ x H', J.yld i H x H' → Step x H' Nx) := by
  refine ⟨fun i m H => m = n - i ∧ i ≤ n ∧ Pv i H, ⟨n, by simp, Nat.zero_le _, h0⟩, ?_⟩
  rintro i m H ⟨rfl, hi, p⟩
  have q := hG i H hi p
  by_cases hlt : i < n
  · exact .inr ⟨w.goes i H hlt q, Pv (i + 1), fun H' p' => ⟨n - (i + 1), by omega, rfl, hlt, p'⟩, fun x H' y => hs i x H H' hlt p (w.yields i H x H' hlt q y)⟩
  · have e : i = n := by omega
    subst e
    exact .inl ⟨w.stops H q, hd H p⟩
theorem Rt.bnd_ok {α β : Type} {r : Rt α} {k : α → Ev → Rt β} {b : β} {ρ : Ev} (h : r.bnd k = .ok b ρ) : ∃ a ρ1, r = .ok a ρ1 ∧ k a ρ1 = .ok b ρ := by
  cases r with
  | no => cases h
  | ex c d ρ' => cases h
  | ok a ρ1 => exact ⟨a, ρ1, rfl, h⟩
section
variable {K : PySem.W.Frag} {n : Nat} {W : XW}
theorem ow_keep {Ha Hb : Hp} {σa σb : St} {ρa ρb : Ev} {D : Addr} {o : HO} (nt : ∀ ps, o ≠ .tbl ps) (e : Ha D = some o) (no : ¬ Own σa ρa D) (s : Stp K n Ha σa ρa Hb σb ρb) : Hb D = some o ∧ ¬ Own σb ρb D := by
  refine ⟨s.kept _ _ e no nt, fun z => ?_⟩
  rcases s.news _ z with z | z
  · exact no z
  · rw [e] at z
    cases z
theorem so_nt {P : Program} {w : World} {a : Addr} {l : List Str} (ps) : SetS.SO P w a l ≠ .tbl ps := fun z => by
  unfold SetS.SO at z
  cases z
theorem so_code {P : Program} {w : World} {a : Addr} {l : List Str} (q : Str) : SetS.SO P w a l ≠ LamX.CodeO a q := fun z => by
  unfold SetS.SO LamX.CodeO at z
  injection z with z
  have hg : ({ objs := Array.replicate (a + 1) ({ cls := .none, data := .fields #[.none, .str q 0] } : Obj) } : Heap).get? a = some { cls := .none, data := .fields #[.none, .str q 0] } :=
    Heap.get?_some_iff.mpr ⟨by simp, rfl⟩
  have h2 := (congrFun z _).mpr ⟨_, _, _, hg, rfl, rfl⟩
  obtain ⟨D, ho, _⟩ := h2
  rw [hg] at ho
  cases ho
theorem Stp.besideX {H H' : Hp} {σ σ' : St} {ρ ρ' : Ev} (s : Stp K n H σ ρ H' σ' ρ') {p : Addr} {h u : HO} (np : H p = none) (e : H' p = some h) (m : Mut (some h)) (m1 : ∀ ps, h ≠ .tbl ps) (m2 : ∀ q, h ≠ LamX.CodeO p q) (no : ¬ Own σ' ρ' p) : Stp K n H σ ρ (L2.upd H' p u) σ' ρ' := by
  refine ⟨s.good.grow (grow_upd e m m2) (fun q o hq eq => ?_) (TabOk.updX e m m1 m2), s.par, fun b o eb nb nt => ?_, s.news, fun b hb => s.live b (live_upd e b hb)⟩
  · rw [upd_ne fun z => no (by rw [← z]; exact hq)]
    exact eq
  · rw [upd_ne (ne_of_none eb np)]
    exact s.kept b o eb nb nt
theorem sc2_run {P : Program} {w : World} {is1 is2 vs vs2 : List Nat} {it1 it2 : Mo (List D)} {g1 g2 : Tg} {e : Mo R} (hi1 : ∀ i ∈ is1, i ∈ vs) (hi2 : ∀ i ∈ is2, i ∈ vs2) (h2 : ∀ v ∈ vs2, v ∈ vs) (hn : ∀ v ∈ vs, n ≤ v) (σ : St) (H : Hp) (Q : VK) (h : tF K n W (fSc2 it1 g1 it2 g2 e vs vs2) σ H Q) :
    SetS.tSc2 P w (tI K n W it1) (tG K n is1 g1) (tI K n W0 it2) (tG K n is2 g2) (tX K n W0 e) vs vs2 σ H fun x H1 => SetS.rSortS P w [x] H1 Q := by
  obtain ⟨ρ, G, h⟩ := h
  have hn2 : ∀ v ∈ vs2, n ≤ v := fun v hv => hn v (h2 v hv)
  refine ⟨ρ, G, (Aft.bind h).mono fun ds ρ1 H1 s1 h1 J wk D hD => ?_⟩
  split at h1
  case isFalse => exact h1.elim
  case isTrue hno =>
  have sD := same_upd (o := SetS.SO P w D []) hD
  have no1 : ¬ Own (wipe σ vs) (wipeE ρ1 vs) D := fun z => new_own s1.good hD z.wipe
  have stD : Stp K n H1 (wipe σ vs) (wipeE ρ1 vs) (upd H1 D (SetS.SO P w D [])) (wipe σ vs) (wipeE ρ1 vs) := Stp.same (s1.good.wipe vs) sD
  obtain ⟨ns, ρ2, ec, l4, l64, h1⟩ : ∃ (ns : List Str) (ρ2 : Ev), comp2D g1 it2 g2 e vs vs2 ds (wipeE ρ1 vs) = .ok (ns.map PyData.str) ρ2 ∧ ns.length ≤ 4000 ∧ (addAll [] ns).length < 64 ∧
      Aft K n W H1 σ ρ1 (Rt.ok (Ob.lst ((srt (addAll [] ns)).map PyData.str)) (mixE ρ1 ρ2 vs)) fun o ρ' H' => ∀ p h, H p = none → H' p = some h → ObR K H' h o → ¬ Own σ ρ' p → Q (.ref p) H' := by
    cases hc : comp2D g1 it2 g2 e vs vs2 ds (wipeE ρ1 vs) with
    | no =>
      rw [hc] at h1
      exact h1.elim
    | ex c d ρ' =>
      rw [hc] at h1
      exact h1.elim
    | ok xs ρ2 =>
      rw [hc] at h1
      have h1 : Aft K n W H1 σ ρ1 (setOut ρ1 vs xs ρ2) fun o ρ' H' => ∀ p h, H p = none → H' p = some h → ObR K H' h o → ¬ Own σ ρ' p → Q (.ref p) H' := h1
      unfold setOut at h1
      cases es : strsD xs with
      | none =>
        rw [es] at h1
        exact h1.elim
      | some ns =>
        rw [es] at h1
        dsimp only at h1
        split at h1
        · next q => exact ⟨ns, ρ2, by rw [strsD_eq es], q.1, q.2, h1⟩
        · exact h1.elim
  refine wk_it wk (fun i H' => ∃ ρ' pn xn, Stp K n H1 (wipe σ vs) (wipeE ρ1 vs) H' (wipe σ vs) ρ' ∧ H' D = some (SetS.SO P w D (addAll [] pn)) ∧ ¬ Own (wipe σ vs) ρ' D ∧ ns = pn ++ xn ∧ comp2D g1 it2 g2 e vs vs2 (ds.drop i) ρ' = .ok (xn.map PyData.str) ρ2)
    ⟨_, [], ns, stD, upd_same, no1, rfl, ec⟩ (fun i H' _ hP => ?_) (fun i x H' H2 hi hP hY => ?_) (fun H' hP => ?_)
  · obtain ⟨ρ', _, _, st, _⟩ := hP
    exact st.grow (s1.good.wipe vs)
  · obtain ⟨ρ', pn, xn, st, eD, no, en, ec⟩ := hP
    obtain ⟨sm, d, ed, imx⟩ := hY
    have lt : i < ds.length := hi
    have es : ds.drop i = d :: ds.drop (i + 1) := by
      rw [List.drop_eq_getElem_cons lt]
      rw [List.getElem?_eq_getElem lt] at ed
      rw [Option.some.inj ed]
    rw [es] at ec
    have st2 := st.trans (Stp.same st.good sm)
    have eD2 := sm _ _ eD
    unfold comp2D at ec
    cases eg : g1 d ρ' with
    | none =>
      rw [eg] at ec
      cases ec
    | some ρ3 =>
      rw [eg] at ec
      obtain ⟨ds2, ρ4, e4, ec⟩ := Rt.bnd_ok ec
      obtain ⟨ys, ρ5, e5, ec⟩ := Rt.bnd_ok ec
      obtain ⟨zs, ρ6, e6, ec⟩ := Rt.bnd_ok ec
      have exs : ys ++ zs = xn.map PyData.str ∧ ρ6 = ρ2 := by
        injection ec with a b
        exact ⟨a, b⟩
      obtain ⟨exs, rfl⟩ := exs
      obtain ⟨yn, zn, rfl, rfl, rfl⟩ := List.map_eq_append_iff.mp exs.symm
      refine ⟨ρ', d, st2.good, imx, ρ3, eg, fun σ3 H3 s3 nj l3 => ?_⟩
      have l3 : σ3.length = σ.length := by rw [l3, wipe_length]
      have ew : wipe σ3 vs = wipe σ vs := wipe_eq l3 fun j hj => nj j fun z => hj (hi1 j z)
      obtain ⟨eD3, no3⟩ := ow_keep (so_nt) eD2 no s3
      have st3 := st2.trans s3
      refine ⟨ew, ρ3, s3.good, ?_⟩
      rw [e4]
      intro H4 s4 J2 wk2
      obtain ⟨eD4, no4⟩ := ow_keep so_nt eD3 no3 s4
      have st4 := st3.trans s4
      have stI : Stp K n H1 (wipe σ vs) (wipeE ρ1 vs) H4 (wipe σ3 vs2) (wipeE ρ4 vs2) := st4.wiped hn2
      refine wk_it wk2 (fun j H' => ∃ ρ' qn rn, Grow H4 H' ∧ Stp K n H1 (wipe σ vs) (wipeE ρ1 vs) H' (wipe σ3 vs2) ρ' ∧ H' D = some (SetS.SO P w D (addAll [] (pn ++ qn))) ∧ ¬ Own (wipe σ3 vs2) ρ' D ∧ yn = qn ++ rn ∧ compD g2 bYes e vs2 (ds2.drop j) ρ' = .ok (rn.map PyData.str) ρ5)
        ⟨_, [], yn, Grow.refl _, stI, by rw [List.append_nil]; exact eD4, fun z => no4 z.wipe, rfl, e5⟩ (fun j H' _ hP => ?_) (fun j x H' H5 hj hP hY => ?_) (fun H' hP => ?_)
      · obtain ⟨ρ', _, _, gr, _⟩ := hP
        exact gr
      · obtain ⟨ρ7, qn, rn, grJ, stJ, eDJ, noJ, eyn, ecJ⟩ := hP
        obtain ⟨sm, d2, ed, imx⟩ := hY
        have lt : j < ds2.length := hj
        have es : ds2.drop j = d2 :: ds2.drop (j + 1) := by
          rw [List.drop_eq_getElem_cons lt]
          rw [List.getElem?_eq_getElem lt] at ed
          rw [Option.some.inj ed]
        rw [es] at ecJ
        have stK := stJ.trans (Stp.same stJ.good sm)
        have eDK := sm _ _ eDJ
        unfold compD at ecJ
        cases eg2 : g2 d2 ρ7 with
        | none =>
          rw [eg2] at ecJ
          cases ecJ
        | some ρ8 =>
          rw [eg2] at ecJ
          have ecJ : (e ρ8).bnd (fun r ρ3 => match r with
            | .d x => (compD g2 bYes e vs2 (ds2.drop (j + 1)) (wipeE ρ3 vs2)).bnd fun xs ρ4 => .ok (x :: xs) ρ4
            | .v _ => .no) = .ok (rn.map PyData.str) ρ5 := ecJ
          obtain ⟨r, ρ9, e9, ecJ⟩ := Rt.bnd_ok ecJ
          refine ⟨ρ7, d2, stK.good, imx, ρ8, eg2, fun σ8 H8 s8 nj8 l8 => ?_⟩
          have l8 : σ8.length = σ3.length := by rw [l8, wipe_length]
          have ew8 : wipe σ8 vs2 = wipe σ3 vs2 := wipe_eq l8 fun k hk => nj8 k fun z => hk (hi2 k z)
          obtain ⟨eD8, no8⟩ := ow_keep so_nt eDK noJ s8
          refine ⟨ew8, ρ8, s8.good, ?_⟩
          rw [e9]
          intro H9 s9 v rv
          obtain ⟨eD9, no9⟩ := ow_keep so_nt eD8 no8 s9
          have st9 := (stK.trans s8).trans s9
          cases rv with
          | v _ => cases ecJ
          | @d x9 imv =>
            obtain ⟨us, ρ10, e10, ecJ⟩ := Rt.bnd_ok (show (compD g2 bYes e vs2 (ds2.drop (j + 1)) (wipeE ρ9 vs2)).bnd (fun xs ρ4 => Rt.ok (x9 :: xs) ρ4) = .ok (rn.map PyData.str) ρ5 from ecJ)
            obtain ⟨ex, rfl⟩ : x9 :: us = rn.map PyData.str ∧ ρ10 = ρ5 := by
              injection ecJ with a b
              exact ⟨a, b⟩
            cases rn with
            | nil => cases ex
            | cons c rn =>
              injection ex with ex1 ex2
              subst ex1
              subst ex2
              have ev : v = .str c := by cases imv; rfl
              have lq : (addAll [] (pn ++ qn)).length ≤ 0 + (pn ++ qn).length := addAll_len (pn ++ qn) []
              have le : ns.length = pn.length + (yn.length + zn.length) := by rw [en, List.length_append, List.length_append]
              have ly : yn.length = qn.length + (rn.length + 1) := by rw [eyn, List.length_append]; rfl
              rw [List.length_append] at lq
              refine ⟨c, _, ev, eD9, Nat.lt_of_le_of_lt (show (addAll [] (pn ++ qn)).length + 1 ≤ 4000 by omega) (by decide), wipeE ρ9 vs2, qn ++ [c], rn, (grJ.trans (Grow.same sm)).trans ((s8.grow stK.good).trans ((s9.grow s8.good).trans (grow_upd eD9 trivial so_code))), ?_, ?_, fun z => ?_, by rw [eyn, List.append_assoc]; rfl, e10⟩
              · have := (st9.besideX (u := SetS.SO P w D (SetS.add (addAll [] (pn ++ qn)) c)) hD eD9 trivial so_nt so_code no9).wiped (vs := vs2) hn2
                rw [ew8] at this
                exact this
              · rw [upd_same, ← List.append_assoc, addAll_app (pn ++ qn) [] [c]]
                rfl
              · rw [← ew8] at z
                exact no9 z.wipe
      · obtain ⟨ρ7, qn, rn, grJ, stJ, eDJ, noJ, eyn, ecJ⟩ := hP
        rw [List.drop_length] at ecJ
        obtain ⟨e0, rfl⟩ : ([] : List PyData) = rn.map PyData.str ∧ ρ7 = ρ5 := by
          injection ecJ with a b
          exact ⟨a, b⟩
        cases rn with
        | cons _ _ => cases e0
        | nil =>
        rw [List.append_nil] at eyn
        subst eyn
        have ew2 : wipe (wipe σ3 vs2) vs = wipe σ vs := by
          rw [← ew]
          exact wipe_eq (by rw [wipe_length]) fun k hk => by rw [wipe_out fun z => hk (h2 k z), wipe_out hk]
        refine ⟨wipeE ρ7 vs, pn ++ yn, zn, ?_, eDJ, fun z => ?_, by rw [en, List.append_assoc], e6⟩
        · have := stJ.wiped (vs := vs) hn
          rw [ew2] at this
          exact this
        · rw [← ew2] at z
          exact noJ z.wipe
  · obtain ⟨ρ', pn, xn, st, eD, no, en, ec⟩ := hP
    rw [List.drop_length] at ec
    obtain ⟨e0, rfl⟩ : ([] : List PyData) = xn.map PyData.str ∧ ρ' = ρ2 := by
      injection ec with a b
      exact ⟨a, b⟩
    cases xn with
    | cons _ _ => cases e0
    | nil =>
    rw [List.append_nil] at en
    subst en
    refine ⟨D, _, rfl, eD, l64, fun ys p pm so hp => ?_⟩
    have stF := Stp.mixed s1.good hn (noOwn_at hno) st
    rw [srt_one pm so]
    exact h1 _ (stF.trans (Stp.same stF.good (same_upd hp))) p _ (s1.live _ (stF.live p hp)) upd_same (.lst (ImL.of_strs _)) (new_own stF.good hp)
end
section
variable {X : Cx} {n : Nat} {W : XW}
theorem xf_sortSc2 {elt tg iter tg2 iter2 : Expr} {scope : Scope} {own : List (Str × Nat)} {is1 is2 vs vs2 : List Nat} {p cpos pos : Pos} {it1 it2 : Mo (List D)} {g1 g2 : Tg} {e : Mo R} (hc : X.calm = true) (hgs : Gl X "sorted") (hms : X.mg "sorted" = none) (hN : X.N.Nodup) (hv : vs = own.map (·.2)) (hi1 : ∀ i ∈ is1, i ∈ vs) (hi2 : ∀ i ∈ is2, i ∈ vs2) (h2 : ∀ v ∈ vs2, v ∈ vs) (hn : ∀ v ∈ vs, n ≤ v)
    (hi : XI X n W tg iter it1) (ok : BlkOk X.N X.env.scope scope own)
    (hg : ∀ (s : Shared) (H : Hp) (C : Addr) (cl : List (Str × Addr)) (fp : List Addr), PG (X.blk s H scope (compEnvC scope cl C X.env) fp) tg (tG X.K n is1 g1))
    (hj : ∀ (s : Shared) (H : Hp) (C : Addr) (cl : List (Str × Addr)) (fp : List Addr), PI (X.blk s H scope (compEnvC scope cl C X.env) fp) tg2 iter2 (tI X.K n W0 it2))
    (hg2 : ∀ (s : Shared) (H : Hp) (C : Addr) (cl : List (Str × Addr)) (fp : List Addr), PG (X.blk s H scope (compEnvC scope cl C X.env) fp) tg2 (tG X.K n is2 g2))
    (he : ∀ (s : Shared) (H : Hp) (C : Addr) (cl : List (Str × Addr)) (fp : List Addr), PE (X.blk s H scope (compEnvC scope cl C X.env) fp) elt (tX X.K n W0 e)) (hs : ∀ x, foldedSetIterable iter X.env x = pure x := by intro _; rfl) (hs2 : ∀ (env : Env) x, foldedSetIterable iter2 env x = pure x := by intro _ _; rfl)
    (hst : starEach [SetS.Sc2 elt tg iter tg2 iter2 scope cpos] X.env = (false, eval (SetS.Sc2 elt tg iter tg2 iter2 scope cpos) X.env) :: starEach [] X.env := by rfl) :
    XF X n W (.Call (.Name "sorted" p) [SetS.Sc2 elt tg iter tg2 iter2 scope cpos] [] pos) (fSc2 it1 g1 it2 g2 e vs vs2) := by
  subst hv
  refine weakE (pe_callB (SetS.cr_sortS hc) hgs hms (by decide +kernel) (pa_cons (SetS.pe_sc2 hc hN hi ok h2 hg hj hg2 he hs hs2) pa_nil) (by decide) (by decide) hst (by rfl)) fun σ H Q h => ?_
  exact sc2_run hi1 hi2 h2 hn σ H Q h
end
end Q
namespace Q
open PySem PySem.Spec PyProof.Rows L2 Gd
variable [Tbl]
/-! ### max(xs), min(xs), xs a list of ints -/
def intsD : List D → Option (List Int)
  | [] => some []
  | .int i :: ds => (intsD ds).map (i :: ·)
  | _ => none
theorem ImL.ints {K : PySem.W.Frag} {H : Hp} : ∀ {xs : List V} {ns : List Int}, ImL K H xs (ns.map PyData.int) → xs = ns.map V.int
  | _, [], .nil => rfl
  | _, _ :: _, .cons h r => by
    cases h
    rw [ImL.ints r]
    rfl
def max1D : List D → Option D
  | [.list ds] => (intsD ds).bind fun ns => ns.max?.map PyData.int
  | _ => none
def min1D : List D → Option D
  | [.list ds] => (intsD ds).bind fun ns => ns.min?.map PyData.int
  | _ => none
section
variable {X : Cx}
end
end Q
namespace SetS
open PySem PySem.Spec PyProof.Rows L2 Gd PySem.Froz
/-! ### set(t), t a tuple of texts, told so that its walk is known -/
section
variable {prog : Program} {w : World} {A : Around} {R : Result → Shared → Prop} {I : Addr} {fp wr : List Addr} {G : Array GenState → Array GenState → Prop} {n : Nat} {P : Nat → Value → Prop} {St : Nat → Shared → Prop}
end
section
variable {prog : Program} {w : World} {A : Around} {E : Value → Shared → Prop} {s : Shared}
end
section
variable {X : Cx}
/-- set(t), t a tuple of texts -/
def rSetT (K : PySem.W.Frag) (P : Program) (w : World) : List V → Hp → VK → Prop := fun vs H Q => ∃ (a : Addr) (xs : List Str), vs = [V.ref a] ∧ SqT K H a (xs.map V.str) ∧ xs.length ≤ 4000 ∧ ∀ D, H D = none → Q (.ref D) (upd H D (SO P w D (xs.foldl add [])))
end
end SetS
namespace Q
open PySem PySem.Spec PyProof.Rows L2 Gd
variable [Tbl]
/-! ### sorted(set(t)), t a tuple of texts -/
def sortSetD : D → Option (List D)
  | .tuple ds => (strsD ds).bind fun ns => if ns.length ≤ 4000 ∧ (ns.foldl SetS.add []).length < 64 then some ((srt (ns.foldl SetS.add [])).map PyData.str) else none
  | _ => none
def fSortSet (f : Mo R) : Mo Ob := fun ρ => (f ρ).bind fun r ρ1 => match (look ρ1 r).bind sortSetD with
  | some ds => .ok (.lst ds) ρ1
  | none => .no
section
variable {X : Cx} {n : Nat} {W : XW}
end
end Q
namespace Q
open PySem PySem.Spec PyProof.Rows L2 Gd
variable [Tbl]
/-! ### a, b, c = xs, xs a list -/
@[simp] def gL (c : Nat) (g : Tgs) : Tg := fun d ρ => match d with
  | .list ds => if ds.length = c then g ds ρ else none
  | _ => none
section
variable {X : Cx} {n : Nat}
end
end Q
namespace SetS
open PySem PySem.Spec PyProof.Rows L2 Gd PySem.Froz
/-! ### one - other, as sets -/
section
variable {P : Program} {w : World} {A : Around} {E : Value → Shared → Prop} {s : Shared} {a : Addr} {es : Array (Int × Value)} {ep : Nat} {t : SetTable} {o : Obj}
end
end SetS
namespace SetS
open PySem PySem.Spec PyProof.Rows L2 Gd PySem.Froz PpSet
section
variable {P : Program} {w : World} {A : Around} {E : Value → Shared → Prop} {s : Shared} {a b : Addr} {la lb : List Str}
end
end SetS
namespace SetS
open PySem PySem.Spec PyProof.Rows L2 Gd PySem.Froz PpSet
section
variable {P : Program} {w : World} {A : Around} {E : Value → Shared → Prop} {s : Shared} {a b : Addr} {la lb : List Str}
end
section
variable {X : Cx}
/-- a set of texts of which the size alone is told -/
def SN (P : Program) (w : World) (a : Addr) (n : Nat) : HO := .ext fun h => ∃ S, h.SetOf (strKind P w) a S n
def rSubS (P : Program) (w : World) : V → V → Hp → VK → Prop := fun x y H Q => ∃ a la b lb, x = .ref a ∧ y = .ref b ∧ H a = some (SO P w a la) ∧ H b = some (SO P w b lb) ∧ la.Nodup ∧ la.length / 4 ≤ lb.length ∧ la.length ≤ 4000 ∧ lb.length ≤ 4000 ∧
  ∀ D, H D = none → Q (.ref D) (upd H D (SN P w D (la.filter fun k => !lb.contains k).length))
def rLenS (P : Program) (w : World) : List V → Hp → VK → Prop := fun vs H Q => ∃ (a : Addr) (n : Nat), vs = [V.ref a] ∧ H a = some (SN P w a n) ∧ n ≤ 4000 ∧ Q (.int (n : Nat)) H
end
end SetS
namespace Q
open PySem PySem.Spec PyProof.Rows L2 Gd
variable [Tbl]
/-! ### len(set(xs) - set(ys)), tuples of texts -/
def tupS : D → Option (List Str)
  | .tuple ds => (strsD ds).bind fun ns => if ns.length ≤ 4000 then some ns else none
  | _ => none
def dd (xs : List Str) : List Str := xs.foldl SetS.add []
def eSubLen (f g : Mo R) : Mo R := fun ρ => (f ρ).bind fun a ρ1 => match (look ρ1 a).bind tupS with
  | some xs => (g ρ1).bind fun b ρ2 => match (look ρ2 b).bind tupS with
    | some ys => if (dd xs).length / 4 ≤ (dd ys).length then .ok (.d (.int (((dd xs).filter fun k => !(dd ys).contains k).length : Nat))) ρ2 else .no
    | none => .no
  | none => .no
section
variable {K : PySem.W.Frag} {n : Nat} {W : XW}
theorem Aft.from {α : Type} {H H2 : Hp} {σ : St} {ρ ρ2 : Ev} {r : Rt α} {Q : α → Ev → Hp → Prop} (st : Stp K n H σ ρ H2 σ ρ2) (h : Aft K n W H σ ρ r Q) : Aft K n W H2 σ ρ2 r Q := by
  cases r with
  | no => exact h
  | ok a ρ' => exact fun H' s => h H' (st.trans s)
  | ex c d ρ' => exact fun H' s => h H' (st.trans s)
end
section
variable {X : Cx} {n : Nat} {W : XW}
end
end Q
namespace Q
open PySem PySem.Spec PyProof.Rows L2 Gd
/-! ### a lambda that is handed to a def -/
/-- what its call gives -/
def toTh : Rt R → Rt D
  | .ok (.d x) _ => .ok x []
  | .ex c d _ => .ex c d []
  | _ => .no
/-- what a lambda may keep of the slots -/
@[simp] def datS (ρ : Ev) : Ev := ρ.map fun s => match s with
  | .own _ => .no
  | s => s
@[simp] def thR (r : Rt D) (ρ : Ev) : Rt R := match r with
  | .ok x _ => .ok (.d x) ρ
  | .ex c d _ => .ex c d ρ
  | .no => .no
@[simp] def eThk (f : Addr) (i : Nat) (r : Rt D) : Mo R := fun ρ => match ρ[i]? with
  | some (.exc c _ (.dict [(.tuple [], .int a)])) => if c = "" ∧ a = ((f : Nat) : Int) then thR r ρ else .no
  | _ => .no
def thS (f : Addr) : Sl := .exc "" "" (.dict [(.tuple [], .int ((f : Nat) : Int))])
/-- the def that got it -/
def thOf (N : Nat) (b : Addr → Rt D → Mo Out) : Addr → Rt D → Option D := fun f r => match b f r (thS f :: List.replicate (N - 1) .no) with
  | .ok (.rt (.d x)) _ => some x
  | .ok .nx _ => some .none
  | _ => none
noncomputable def eLam (G : Addr → Rt D → Option D) (m : Mo R) : Mo R := fun ρ => @dite _ (∃ x, ∀ f, G f (toTh (m (datS ρ))) = some x) (Classical.propDecidable _) (fun h => .ok (.d h.choose) ρ) fun _ => .no
theorem eLam_eq {G : Addr → Rt D → Option D} {m : Mo R} {ρ : Ev} {x : D} (h : ∀ f, G f (toTh (m (datS ρ))) = some x) : eLam G m ρ = .ok (.d x) ρ := by
  unfold eLam
  have hx : ∃ x, ∀ f, G f (toTh (m (datS ρ))) = some x := ⟨x, h⟩
  rw [dif_pos hx]
  have e := hx.choose_spec 0
  rw [h 0] at e
  rw [← Option.some.inj e]
section
variable {X : Cx} {pins : List (Addr × Obj)} {σ : L2.St} {H : Hp} {s : Shared}
/-- the lambda's function is made: what was known stays known -/
theorem lam_new {TT : List (Addr × Str)} {cc PT : Addr} {prm : Arguments} {bd : Expr} {scp : Scope} {lp : Pos} {EE : Value → Shared → Prop} {QQ : Value → Shared → Prop} (II : Inv X pins σ H s) (tb : LamX.TabB X.base X.mg cc PT) (hcc : X.env.code = .ref cc)
    (mT : (PT, X.env.qual ++ "<lambda>") ∈ TT) (uT : ∀ p ∈ TT, p.1 = PT → p.2 = X.env.qual ++ "<lambda>") (tT : LamX.Tabs TT H) (dT : defaultsOf prm X.env = ([], [])) (fT : ∀ y ∈ scp.names, y.2 = .free → ∃ c, X.env.cells.lookup y.1 = some c)
    (go : ∀ (f k : Addr) (pm ctv : Value) (G : Hp) (s2 : Shared), Inv X pins σ G s2 → LamX.ExtN H G → LamX.Tabs TT G → (∀ b, G b = none → H b = none) →
      s2.heap.get? f = some (PySem.W.kla_obj "<lambda>" (X.env.qual ++ "<lambda>") prm bd scp (cloFrom X.env.cells scp.names []) pm k ctv) → G f = none → f ∉ frs X.stack → G k = some (LamX.CodeO k (X.env.qual ++ "<lambda>")) → QQ (.ref f) s2) :
    wpAny (model X.prog X.w) X.A (eval (.Lambda prm bd scp lp) X.env) QQ EE s := by
  obtain ⟨tps, eP, et, ea⟩ := tT _ mT
  have bT : s.heap.BuiltinsAt X.mg PT := tb.bm.keeps II.bk
  have gP : s.heap.get? PT = some { cls := .none, data := .fields tps } := II.hok PT _ eP
  have far : ∀ f, s.heap.objs.size ≤ f → f ∉ frs X.stack := fun f le z => (List.mem_cons.mp (II.stkSub _ z)).elim (fun e => absurd (e ▸ II.lt) (Nat.not_lt.mpr le)) (II.nofs le)
  refine PySem.W.kla_eval dT ?_
  cases hc : codeAmong lp tps.toList with
  | some cv =>
    obtain ⟨k, rfl, hk⟩ := ea lp cv hc
    refine PySem.W.kla_makeFunctionHit (clos := cloFrom X.env.cells scp.names []) (mg := X.mg) (c := cc) (P := PT) (ps := tps) (closure_ok fT) II.ok.glob (II.mod.glob.keeps II.bk) hcc (tb.code.keeps II.bk) gP et hc bT fun ctv g t kp le => ?_
    exact go g.objs.size k ((X.mg "__name__").getD .none) ctv H _ (II.kept fun b o e => Heap.get?_push_of_some _ (kp b o e)) (LamX.ExtN.refl H) tT (fun b e => e) (Heap.get?_push_size _ rfl) (II.hok.fresh le) (far _ le) hk
  | none =>
    refine PySem.W.kla_makeFunction (clos := cloFrom X.env.cells scp.names []) (mg := X.mg) (c := cc) (P := PT) (ps := tps) (closure_ok fT) II.ok.glob (II.mod.glob.keeps II.bk) hcc (tb.code.keeps II.bk) gP et hc tb.gP bT fun k ctv g t ex ge lt rec_ gt => ?_
    obtain ⟨k2, oc, vs, tq, e2, hoc, hd, hv⟩ := rec_
    cases e2
    have le : s.heap.objs.size ≤ g.objs.size := Nat.le_trans ge (Nat.le_of_lt lt)
    have nk : H k = none := II.hok.fresh ge
    have nPk : PT ≠ k := ne_of_none eP nk
    have inv2 := LamX.inv_table (t' := t) (more := #[rawInt lp.line, rawInt lp.col, .ref k]) (q := X.env.qual ++ "<lambda>") (h' := g.push (PySem.W.kla_obj "<lambda>" (X.env.qual ++ "<lambda>") prm bd scp (cloFrom X.env.cells scp.names []) ((X.mg "__name__").getD .none) k ctv)) II eP
      (fun b o nb e => Heap.get?_push_of_some _ (ex b o nb e)) (Heap.get?_push_of_some _ gt) ge ⟨oc, vs, tq, Heap.get?_push_of_some _ hoc, hd, hv⟩
    have at1 : ∀ b, b ≠ PT → b ≠ k → upd (upd H PT (.tbl (tps ++ #[rawInt lp.line, rawInt lp.col, .ref k]))) k (LamX.CodeO k (X.env.qual ++ "<lambda>")) b = H b := fun b n1 n2 => by rw [upd_ne n2, upd_ne n1]
    have eN : LamX.ExtN H (upd (upd H PT (.tbl (tps ++ #[rawInt lp.line, rawInt lp.col, .ref k]))) k (LamX.CodeO k (X.env.qual ++ "<lambda>"))) := fun b o e n => by
      rw [at1 b (fun z => n tps (Option.some.inj (e.symm.trans (z ▸ eP)))) (ne_of_none e nk)]
      exact e
    refine go g.objs.size k ((X.mg "__name__").getD .none) ctv _ _ inv2 eN (fun p hp => ?_) (fun b e => ?_) (Heap.get?_push_size _ rfl) ?_ (far _ le) upd_same
    · by_cases hb : p.1 = PT
      · refine ⟨tps ++ #[rawInt lp.line, rawInt lp.col, .ref k], by rw [hb, upd_ne nPk, upd_same], ?_, fun ps cv hcv => ?_⟩
        · have eL : (tps ++ #[rawInt lp.line, rawInt lp.col, Value.ref k]).toList = tps.toList ++ [rawInt lp.line, rawInt lp.col, .ref k] := by simp
          rw [eL]
          exact PySem.TriplesOk_snoc _ _ _ _ et
        · have eL : (tps ++ #[rawInt lp.line, rawInt lp.col, Value.ref k]).toList = tps.toList ++ [rawInt lp.line, rawInt lp.col, .ref k] := by simp
          rw [eL] at hcv
          rw [uT p hp hb]
          rcases LamX.among_app _ et hcv with z | z
          · obtain ⟨c0, q1, q2⟩ := ea ps cv z
            exact ⟨c0, q1, eN _ _ q2 LamX.codeO_ne⟩
          · exact ⟨k, z, upd_same⟩
      · obtain ⟨us, a1, a2, a3⟩ := tT p hp
        refine ⟨us, by rw [upd_ne (ne_of_none a1 nk), upd_ne hb]; exact a1, a2, fun ps cv hcv => ?_⟩
        obtain ⟨c0, q1, q2⟩ := a3 ps cv hcv
        exact ⟨c0, q1, eN _ _ q2 LamX.codeO_ne⟩
    · by_cases h1 : b = k
      · rw [h1, upd_same] at e
        cases e
      · by_cases h2 : b = PT
        · rw [h2, upd_ne nPk, upd_same] at e
          cases e
        · rw [at1 b h2 h1] at e
          exact e
    · rw [at1 _ (Nat.ne_of_gt (Nat.lt_of_lt_of_le (Heap.lt_size gP) le)) (Nat.ne_of_gt lt)]
      exact II.hok.fresh le
end
end Q
namespace Q
open PySem PySem.Spec PyProof.Rows L2 Gd
section
variable {X : Cx} {pins : List (Addr × Obj)} {σ : L2.St} {H : Hp} {s : Shared}
/-- a(), in the def that got the lambda -/
theorem lam_act {Ng : List Str} {qg : Str} {sg : Scope} {g f k : Addr} {cdg pm ctv : Value} {prm : Arguments} {bd : Expr} {scp : Scope} {j i : Nat} {a : Str} {pn : List (Addr × Obj)} {xe : Value → Shared → Prop} {Wx : WX} {tb : XK → TE} {p1 p2 : Pos}
    (II : Inv X pins σ H s) (LS : LamX.LamS X.env.scope scp) (gf : s.heap.get? f = some (PySem.W.kla_obj "<lambda>" (X.env.qual ++ "<lambda>") prm bd scp (cloFrom X.env.cells scp.names []) pm k ctv)) (nf : H f = none) (nfr : f ∉ frs X.stack)
    (eb : bindArgs (PySem.W.kla_fn "<lambda>" (X.env.qual ++ "<lambda>") prm bd scp (cloFrom X.env.cells scp.names []) pm (.ref k) ctv) ⟨[], []⟩ = pure [])
    (tk : Takes ((cxOf CX0 X.prog X.w X.K X.mg X.base Ng qg sg g cdg X.A X.stack s H E0).nox.tr pn xe) Wx) (room : Room (j + 1) (X.A.deeper (envOfC qg sg s.heap.objs.size g cdg)))
    (B : ∀ (A : Around) (outer : List Env) (s0 : Shared) (H0 : Hp) (E : XK), A.guards = X.A.guards → Room j (A.deeper (LamX.lamEnv X scp s0.heap.objs.size f k)) → PE (LamX.lamCx X A outer s0 H0 E scp f k) bd (tb E))
    (hN : Ng[i]? = some a) (hv : Vis sg a) (hd : (a == ("__debug__" : Str)) = false) (hcd : (a == ("__classdict__" : Str)) = false) :
    PE ((cxOf CX0 X.prog X.w X.K X.mg X.base Ng qg sg g cdg X.A X.stack s H E0).nox.tr pn xe) (.Call (.Name a p1) [] [] p2)
      (fun σZ HZ Q => σZ[i]? = some (some (.ref f)) ∧ HZ k = some (LamX.CodeO k (X.env.qual ++ "<lambda>")) ∧ tb (fun cls d H' => Wx cls d σZ H') σ HZ Q) := by
  refine ⟨fun pinsZ sZ σZ HZ Q IZ ⟨w1, w2, w3⟩ => ?_⟩
  refine wpAny_Call_Name_kw (thn ((pe_var (pos := p1) (i := i) hN hv hd hcd).run pinsZ sZ σZ HZ (fun v G => v = .ref f ∧ G = HZ) IZ ⟨.ref f, w1, rfl, rfl⟩) fun u sB ⟨v, G, IB, rB, e1, e2⟩ => ?_)
  subst e1
  subst e2
  obtain rfl : u = Value.ref f := rB
  have gB : sB.heap.get? f = some (PySem.W.kla_obj "<lambda>" (X.env.qual ++ "<lambda>") prm bd scp (cloFrom X.env.cells scp.names []) pm k ctv) := IB.base.keep f _ gf nf nfr (fun z => nomatch (show f ∈ ([] : List Addr) from z))
  refine PySem.W.callWith_F0 ⟨_, _, _, _, gB⟩ ?_
  have un : Un (frs X.stack) [] H G s.heap sB.heap := IB.base
  obtain ⟨⟨oc, vs, t, hoc, hdc, hvc⟩, _, _⟩ := IB.hok k _ w2
  have main : codeAny (model X.prog X.w) (X.A.deeper (envOfC qg sg s.heap.objs.size g cdg)) (.call (.ref f) ⟨[], []⟩) (CR (L2.CX X.prog X.w) (envOfC qg sg s.heap.objs.size g cdg :: X.stack) X.prog X.w G sB Q fun cls d H' => Wx cls d σZ H') sB := by
    refine PySem.W.kla_callFunE room.depth gB rfl LS.co LS.gen rfl ⟨k, oc, vs, t, rfl, hoc, hdc, hvc⟩ ?_
    rw [eb]
    refine wpAny_pure (wpAny_newFunctionEnv (fun y hy => (LS.own y hy).2) (fun y hy => nomatch hy) (fun hx ns sb => ⟨IB.nolimit.fresh _ sb, ?_⟩) LS.kind)
    have kp : ∀ b o, sB.heap.get? b = some o → hx.get? b = some o := fun b o e => sb.extBut b o (Nat.ne_of_lt (Heap.lt_size e)) (Heap.get?_push_of_some _ e)
    have J := LamX.lam_start2 (A := X.A.deeper (envOfC qg sg s.heap.objs.size g cdg)) (outer := envOfC qg sg s.heap.objs.size g cdg :: X.stack) (E := fun cls d H' => Wx cls d σZ H') (f := f) (c' := k) (tk := sB.toks + 0) II LS IB.env0 room.hd un ns kp
    refine PySem.W.kla_codeExpr (wpAny_mono ((B (X.A.deeper (envOfC qg sg s.heap.objs.size g cdg)) (envOfC qg sg s.heap.objs.size g cdg :: X.stack) sB G (fun cls d H' => Wx cls d σZ H') rfl (room.deeper _)).run [] _ _ G Q J w3) (fun v s' hq => ?_) fun e s' hq => hq)
    obtain ⟨w', H', J', rv, q⟩ := hq
    exact ⟨w', H', J'.os, J'.bare, J'.base, J'.hok, rv, q⟩
  refine wpAny_call (codeAny_mono main fun r s' hq => ?_)
  cases r with
  | error e => exact tk _ _ (XE.of_call IB (fun cls d H' w => w) hq)
  | ok fl =>
    cases fl with
    | ret u => exact IB.after hq
    | next => exact False.elim hq
    | brk => exact False.elim hq
    | cont => exact False.elim hq
end
end Q
namespace Q
open PySem PySem.Spec PyProof.Rows L2 Gd
variable [Tbl]
theorem dat_some {ρ : Ev} {i : Nat} {s : Sl} (h : (datS ρ)[i]? = some s) (ne : s ≠ .no) : ρ[i]? = some s ∧ ∀ o, s ≠ .own o := by
  unfold datS at h
  rw [List.getElem?_map] at h
  cases e : ρ[i]? with
  | none =>
    rw [e] at h
    cases h
  | some t =>
    rw [e] at h
    cases t with
    | own o =>
      cases h
      exact absurd rfl ne
    | no =>
      cases h
      exact absurd rfl ne
    | dat d =>
      cases h
      exact ⟨rfl, fun o z => nomatch z⟩
    | exc c f d =>
      cases h
      exact ⟨rfl, fun o z => nomatch z⟩
theorem dat_own {σ : St} {ρ : Ev} {p : Addr} : ¬ Own σ (datS ρ) p := fun ⟨i, o, e, _⟩ => (dat_some e (fun z => nomatch z)).2 o rfl
theorem Good.dats {K : PySem.W.Frag} {H : Hp} {σ : St} {ρ : Ev} (G : Good K H σ ρ) : Good K H σ (datS ρ) := by
  refine ⟨by unfold datS; rw [List.length_map]; exact G.len, fun i d h => ?_, fun i o h => ?_, fun i j o o' p h => ?_, G.tab, fun i c f d h => ?_⟩
  · exact G.dat i d (dat_some h (fun z => nomatch z)).1
  · exact absurd rfl ((dat_some h (fun z => nomatch z)).2 o)
  · exact absurd rfl ((dat_some h (fun z => nomatch z)).2 o)
  · exact G.exc i c f d (dat_some h (fun z => nomatch z)).1
theorem Grow.ext {H H' : Hp} (e : LamX.ExtN H H') : Grow H H' := ⟨fun b xs h => e _ _ h (fun ps z => nomatch z), fun b o u h => e _ _ h (fun ps z => nomatch z), fun b fs h => e _ _ h (fun ps z => nomatch z), fun b q h => e _ _ h fun ps z => LamX.codeO_ne ps z⟩
theorem key_thk {K : PySem.W.Frag} {H : Hp} {kvs : List (Key × V)} {ds : List (D × D)} (r : ImKV K H kvs ds) {x : D} (e : ds = [(.tuple [], x)]) : False := by
  cases r with
  | nil => cases e
  | @cons k v r d ds h r =>
    injection e with e1 e2
    injection e1 with e3 e4
    cases k <;> cases e3
theorem im_thk {K : PySem.W.Frag} {H : Hp} {v : V} {d x : D} (h : Im K H v d) (e : d = .dict [(.tuple [], x)]) : False := by
  cases h with
  | dic h r =>
    injection e with e
    exact key_thk r e
  | scr h => cases e
  | prm h _ _ => cases e
  | _ => cases e
theorem not_thk {K : PySem.W.Frag} {H : Hp} {v : V} {x : D} : ¬ Im K H v (.dict [(.tuple [], x)]) := fun h => im_thk h rfl
theorem obr_no_tbl {hs : List Key → Int} {K : PySem.W.Frag} {H : Hp} {h : HO} {o : Ob} (x : ObRh hs K H h o) {ps : Array Value} (e : h = .tbl ps) : False := by
  subst e
  cases x
/-- the tables, and that things stay as they were at H1 -/
abbrev ghoT [Tbl] (H1 : Hp) : Tbl := ⟨Tbl.T, fun G => Grow H1 G, fun _ _ u v => v.trans u, Tbl.hs⟩
theorem exc_thk {K : PySem.W.Frag} {H : Hp} {a : Addr} {c f : Str} {i : Int} (x : ExcAt K H a c f (.dict [(.tuple [], .int i)])) : i = ((a : Nat) : Int) := by
  rcases x with ⟨_, _, _, _, v, _, _, _, _, _, _, im⟩ | ⟨_, e⟩
  · exact absurd im not_thk
  · cases e
    rfl
/-- the def that gets a lambda: whatever the lambda's call gives, its body is told -/
structure Gets (P : Program) (w : World) (K : PySem.W.Frag) (mg : Str → Option Value) (base : Heap) (k : Nat) (x : Str) (st : Stmt) (g : Addr) (N : List Str) (a : Str) (b : Addr → Rt D → Mo Out) : Prop where
  run : ∀ [tt : Tbl] (cdv : Value) (A : Around) (outer : List Env) (s : Shared) (H : Hp) (f : Addr) (r : Rt D), A.guards = some [] → Room k (A.deeper (envOfC x (defScope st) s.heap.objs.size g cdv)) →
    (∀ (Wx : WX) (pn : List (Addr × Obj)) (xe : Value → Shared → Prop) (p1 p2 : Pos), Takes ((cxOf CX0 P w K mg base N x (defScope st) g cdv A outer s H E0).nox.tr pn xe) Wx →
      XD ((cxOf CX0 P w K mg base N x (defScope st) g cdv A outer s H E0).nox.tr pn xe) 1 (wE K Wx) (.Call (.Name a p1) [] [] p2) (eThk f 0 r)) →
    XSs (cxOf CX0 P w K mg base N x (defScope st) g cdv A outer s H E0).nox 1 W0 (defBody st) (b f r)
section
variable {X : Cx} {n : Nat} {W : XW} {x a : Str} {st : Stmt} {g c PT : Addr} {fd : FuncData} {N : List Str} {b : Addr → Rt D → Mo Out} {m : Mo R} {prm : Arguments} {bd : Expr} {scp : Scope} {lp p pos : Pos} {k : Nat}
theorem xd_lam (F : Fun X.K x x st g fd) (S : FnScope N [a] (defScope st)) (hN : N[0]? = some a) (hv : Vis (defScope st) a) (gets : Gets X.prog X.w X.K X.mg X.base k x st g N a b)
    (gd : X.A.guards = some []) (room : Room (k + 2) X.A) (hg : Gl X x) (hm : X.mg x = some (.ref g)) (hk : PySem.W.keepIn X.K (.ref g) = true) (hb : Binds X.K fd [a] [])
    (tb : LamX.TabB X.base X.mg c PT) (hcc : X.env.code = .ref c) (mT : (PT, X.env.qual ++ "<lambda>") ∈ Tbl.T) (uT : ∀ p ∈ Tbl.T, p.1 = PT → p.2 = X.env.qual ++ "<lambda>") (LS : LamX.LamS X.env.scope scp) (dT : defaultsOf prm X.env = ([], []))
    (eb : ∀ (q : Str) (cl : List (Str × Addr)) (pm cv ctv : Value), bindArgs (PySem.W.kla_fn "<lambda>" q prm bd scp cl pm cv ctv) ⟨[], []⟩ = pure [])
    (B : ∀ (A : Around) (outer : List Env) (s0 : Shared) (H0 : Hp) (E : XK) (f c' : Addr), A.guards = some [] → Room k (A.deeper (LamX.lamEnv X scp s0.heap.objs.size f c')) → XD (LamX.lamCx X A outer s0 H0 E scp f c') 0 (wE X.K fun cls dd _ H => E cls dd H) bd m)
    (hdb : (x == ("__debug__" : Str)) = false := by decide) (hd : (a == ("__debug__" : Str)) = false := by decide) (hcd : (a == ("__classdict__" : Str)) = false := by decide) :
    XD X n W (.Call (.Name x p) [.Lambda prm bd scp lp] [] pos) (eLam (thOf N.length b) m) := by
  refine ⟨fun pins s σ H Q I ⟨ρ, G, h⟩ => ?_⟩
  unfold eLam at h
  by_cases hx : ∃ x, ∀ f, thOf N.length b f (toTh (m (datS ρ))) = some x
  case neg =>
    rw [dif_neg hx] at h
    exact h.elim
  rw [dif_pos hx] at h
  have hr := hx.choose_spec
  generalize hx.choose = res at h hr
  have h : ∀ H', Stp X.K n H σ ρ H' σ ρ → ∀ v, RR X.K H' σ v (.d res) → Q v H' := h
  refine wpAny_Call_Name_kw (ld_glob I hg hm ?_ hdb)
  refine PySem.W.callWith_K (h₀ := X.base) I.ok.mod.kin hk ?_ (by rfl) (by rfl)
  show wpAny _ _ (spliced ((false, eval (.Lambda prm bd scp lp) X.env) :: backTo pos (starEach [] X.env))) _ _ s
  refine Calls.spliced_cons (lam_new I tb hcc mT uT G.tab.1 dT (LS.has I.ok) fun f c' pm ctv H1 s1 I1 eN T1 lv gf nf nfr hco => ?_)
  refine Calls.spliced_nil ⟨I1.kIn, ?_⟩
  -- what is known from the call on
  have gN : Grow H H1 := Grow.ext eN
  have ownK : ∀ {q u}, Own σ ρ q → H q = some u → H1 q = some u := fun {q u} ho eu => by
    obtain ⟨u', o, e1, r⟩ := G.at ho
    rw [eu] at e1
    cases e1
    exact eN _ _ eu fun ps z => r.no_tbl z
  have rc : codeAny (model X.prog X.w) X.A (.call (.ref g) ⟨[.ref f], []⟩) (CR CX0 X.stack X.prog X.w H1 s1 Q E0) s1 := by
    obtain ⟨oc, od, kV, doc, pm2, an, cdv, ct, osl, rfl, lk, hcd2⟩ := F.ex
    have env0 := I1.env0
    have kin : X.K.In s1.heap := I1.kIn
    have nol : s1.heap.NoLimit := I1.nolimit
    refine codeAny_call_function room.depth (kin _ _ lk) rfl S.co S.gen rfl (PySem.W.codeRec_of kin hcd2) (hb s1 [.ref f] kin rfl _ _ _ _ ?_)
    refine wpAny_newFunctionEnv_cells S.kind ?_ fun env ee s2 inn => ?_
    · rintro ⟨y, v⟩ hy
      refine (S.par y (List.of_mem_zip hy).1).elim Or.inl fun q => Or.inr ⟨q, ?_⟩
      exact PySem.W.cellsFrom_some _ _ _ (Or.inl q)
    subst ee
    refine ⟨nol.keeps inn.toInCall.keep, codeAny_func ?_⟩
    have room1 : Room (k + 1) (X.A.deeper (envOfC x (defScope st) s1.heap.objs.size g cdv)) := Room.deeper (k := k + 1) room _
    have body := gets.run (tt := ghoT H1) cdv X.A X.stack s1 H1 f (toTh (m (datS ρ))) gd (room1.mono (Nat.le_succ k)) (fun Wx pn xe p1 p2 tk => by
      refine weakE (lam_act (i := 0) (p1 := p1) (p2 := p2) (tb := fun E => tX X.K 0 (wE X.K fun cls dd _ H => E cls dd H) m) I1 LS gf nf nfr (eb _ _ _ _ _) tk room1 (fun A outer s0 H0 E g0 r0 => B A outer s0 H0 E f c' (g0.trans gd) r0) hN hv hd hcd) fun σZ HZ QZ hz => ?_
      obtain ⟨ρZ, GZ, hz⟩ := hz
      have gZ : Grow H1 HZ := (@Good.tab (ghoT H1) _ _ _ _ GZ).2
      unfold eThk at hz
      split at hz
      · next c0 q0 i0 e0 =>
        split at hz
        · next hi =>
          obtain ⟨a0, s0, xa⟩ := @Good.exc (ghoT H1) _ _ _ _ GZ _ _ _ _ e0
          have ea := exc_thk xa
          rw [hi.2] at ea
          have ea : f = a0 := Int.ofNat.inj ea
          subst ea
          refine ⟨s0, gZ.2.2.2 _ _ hco, datS ρ, ?_, ?_⟩
          · exact G.dats.grow (gN.trans gZ) (fun p o ho _ => absurd ho dat_own) fun t => ⟨(@Good.tab (ghoT H1) _ _ _ _ GZ).1, Tbl.up _ _ (gN.trans gZ) t.2⟩
          · have back : ∀ {H' : Hp} {ρ1 : Ev}, Stp X.K 0 HZ σ (datS ρ) H' σ ρ1 → @Stp (ghoT H1) X.K 1 HZ σZ ρZ H' σZ ρZ := fun {H' ρ1} st => by
              have kept : ∀ b o, HZ b = some o → (∀ ps, o ≠ .tbl ps) → H' b = some o := fun b o e nt => st.kept b o e dat_own nt
              have gg : Grow HZ H' := Grow.ext kept
              refine @Stp.mk (ghoT H1) _ _ _ _ _ _ _ _ (@Good.grow (ghoT H1) _ _ _ _ _ GZ gg (fun p o ho ep => ?_) fun t => ⟨st.good.tab.1, t.2.trans gg⟩) (fun i _ => ⟨rfl, fun o e => ⟨o, e⟩⟩) (fun b o e _ nt => kept b o e nt) (fun p hp => .inl hp) st.live
              obtain ⟨u, ob, e1, r⟩ := @Good.at (ghoT H1) _ _ _ _ GZ _ ho
              rw [ep] at e1
              cases e1
              exact kept _ _ ep fun ps z => obr_no_tbl r z
            cases em : m (datS ρ) with
            | no =>
              rw [em] at hz
              exact hz.elim
            | ok r ρ1 =>
              cases r with
              | v i =>
                rw [em] at hz
                exact hz.elim
              | d y =>
                rw [em] at hz
                exact fun H' st v rv => by
                  refine hz H' (back st) v ?_
                  cases rv with
                  | d im => exact .d im
            | ex c1 d1 ρ1 =>
              rw [em] at hz
              exact fun H' st C dd fl v d' e1 e2 e3 e4 => hz H' (back st) C dd fl v d' e1 e2 e3 e4
        · exact hz.elim
      · exact hz.elim)
    have I0 := inv_start (CX := CX0) (E := E0) S room.hd env0 (show [V.ref f].length = [a].length from rfl) (.cons rfl .nil) inn
    have st0 : L2.start N [V.ref f] = some (V.ref f) :: List.replicate (N.length - 1) none := rfl
    have good0 : @Good (ghoT H1) X.K H1 (L2.start N [V.ref f]) (thS f :: List.replicate (N.length - 1) .no) := by
      have no : ∀ {i : Nat} {s : Sl}, (thS f :: List.replicate (N.length - 1) Sl.no)[i]? = some s → s = .no ∨ i = 0 ∧ s = thS f := fun {i s} e => by
        cases i with
        | zero => exact .inr ⟨rfl, (Option.some.inj e).symm⟩
        | succ i => exact .inl (List.mem_replicate.mp (List.mem_of_getElem? e)).2
      refine @Good.mk (ghoT H1) _ _ _ _ (by rw [st0]; simp) (fun i d e => ?_) (fun i o e => ?_) (fun i j o o' p e => ?_) ⟨T1, Grow.refl _⟩ fun i c0 f0 d e => ?_
      · rcases no e with z | ⟨_, z⟩ <;> cases z
      · rcases no e with z | ⟨_, z⟩ <;> cases z
      · rcases no e with z | ⟨_, z⟩ <;> cases z
      · rcases no e with z | ⟨rfl, z⟩
        · cases z
        · cases z
          exact ⟨f, rfl, .inr ⟨rfl, rfl⟩⟩
    have noown : ∀ p, ¬ Own (L2.start N [V.ref f]) (thS f :: List.replicate (N.length - 1) .no) p := fun p ⟨i, o, e, _⟩ => by
      cases i with
      | zero => cases e
      | succ i => cases (List.mem_replicate.mp (List.mem_of_getElem? e)).2
    have fin : ∀ {v : V} {σ' : L2.St} {H' : Hp} {ρ' : Ev}, @Stp (ghoT H1) X.K 1 H1 (L2.start N [V.ref f]) (thS f :: List.replicate (N.length - 1) .no) H' σ' ρ' → Im X.K H' v res → Q v H' := fun {v σ' H' ρ'} stc im => by
      have kept : ∀ b o, H1 b = some o → (∀ ps, o ≠ .tbl ps) → H' b = some o := fun b o e nt => @Stp.kept (ghoT H1) _ _ _ _ _ _ _ _ stc b o e (noown b) nt
      have gg : Grow H H' := gN.trans (Grow.ext kept)
      have gd' := @Stp.good (ghoT H1) _ _ _ _ _ _ _ _ stc
      refine h H' ⟨G.grow gg (fun q u ho eu => ?_) (fun t => ⟨(@Good.tab (ghoT H1) _ _ _ _ gd').1, Tbl.up _ _ gg t.2⟩), fun i _ => ⟨rfl, fun o e => ⟨o, e⟩⟩, fun q u eu no nt => kept q u (eN q u eu nt) nt, fun q hq => .inl hq, fun q hq => lv q (@Stp.live (ghoT H1) _ _ _ _ _ _ _ _ stc q hq)⟩ v (.d im)
      obtain ⟨u', o, e1, r⟩ := G.at ho
      rw [eu] at e1
      cases e1
      exact kept _ _ (ownK ho eu) fun ps z => r.no_tbl z
    refine wpAny_mono (body.nox.run [] s2 (L2.start N [V.ref f]) H1 { nx := fun _ H' => Q .non H', rt := Q } I0 ⟨_, good0, ?_⟩) (fun fl s' z => ?_) fun _ _ z => z
    · have e := hr f
      unfold thOf at e
      generalize b f (toTh (m (datS ρ))) (thS f :: List.replicate (N.length - 1) .no) = z at e
      cases z with
      | no => cases e
      | ex c0 d0 ρ0 => cases e
      | ok o ρ0 =>
        cases o with
        | nx =>
          cases e
          exact fun σ' H' stc => fin stc .non
        | bk => cases e
        | ct => cases e
        | rf o => cases e
        | rt r =>
          cases r with
          | v i => cases e
          | d y =>
            cases e
            intro v σ' H' stc rv
            cases rv with
            | d im => exact fin stc im
    · cases fl with
      | ret u =>
        obtain ⟨v, σ', H', J', rv, q⟩ := z
        exact ⟨v, H', J'.os, J'.bare, J'.base, J'.hok, rv, q⟩
      | next =>
        obtain ⟨σ', H', J', q⟩ := z
        exact ⟨V.non, H', J'.os, J'.bare, J'.base, J'.hok, rfl, q⟩
      | brk => exact z.elim fun _ z => z.elim fun _ z => z.2.elim
      | cont => exact z.elim fun _ z => z.elim fun _ z => z.2.elim
  refine wpAny_call (codeAny_mono rc fun r s2 hq => ?_)
  cases r with
  | error e => exact (show False from hq).elim
  | ok fl =>
    cases fl with
    | ret u => exact I1.after hq
    | next => exact False.elim hq
    | brk => exact False.elim hq
    | cont => exact False.elim hq
end
end Q
namespace Q
open PySem PySem.Spec PyProof.Rows L2 Gd
theorem Gets.up {P : Program} {w : World} {K : PySem.W.Frag} {mg : Str → Option Value} {base : Heap} {k j : Nat} {x : Str} {st : Stmt} {g : Addr} {N : List Str} {a : Str} {b : Addr → Rt D → Mo Out} (G : Gets P w K mg base j x st g N a b) (h : j ≤ k) : Gets P w K mg base k x st g N a b :=
  ⟨fun cdv A outer s H f r hg hr act => G.run cdv A outer s H f r hg (hr.mono h) act⟩
end Q
namespace Q
open PySem PySem.Spec PyProof.Rows L2 Gd
variable [Tbl]
/-! ### xs.count(b), xs.index(b), a list of truth values; one thing or another as an own thing -/
def blsD : List D → Option (List Bool)
  | [] => some []
  | .bool b :: ds => (blsD ds).map (b :: ·)
  | _ => none
def lcntD (ds : List D) : D → Option D
  | .bool b => (blsD ds).map fun bs => .int (bs.count b : Nat)
  | _ => none
def lidxD (ds : List D) : D → Option D
  | .bool b => (blsD ds).bind fun bs => if b ∈ bs then some (.int (bs.idxOf b : Nat)) else none
  | _ => none
section
variable {X : Cx}
def rLm (K : PySem.W.Frag) (F : List D → D → Option D) : V → List V → Hp → VK → Prop := fun x xs H Q => ∃ (p : Addr) (ys : List V) (ds : List D) (y : V) (a d : D), x = .ref p ∧ xs = [y] ∧ SqL K H p ys ∧ ImL K H ys ds ∧ Vw K H y a ∧ F ds a = some d ∧ ∀ v, Im K H v d → Q v H
end
@[simp] def eLm (F : List D → D → Option D) (f g : Mo R) : Mo R := fun ρ => (f ρ).bind fun a ρ1 => match a with
  | .d (.list ds) => (g ρ1).bind fun b ρ2 => lift ((look ρ2 b).bind (F ds)) ρ2
  | _ => .no
section
variable {X : Cx} {n : Nat} {W : XW}
@[simp] def fIf (c : Mo Bool) (f g : Mo Ob) : Mo Ob := fun ρ => (c ρ).bind fun b ρ1 => if b = true then f ρ1 else g ρ1
theorem xf_if {c a b : Expr} {pos : Pos} {fc : Mo Bool} {f g : Mo Ob} (hc : XB X n W c fc) (ha : XF X n W a f) (hb : XF X n W b g) : XF X n W (.IfExp c a b pos) (fIf fc f g) := weakE (pe_ifExp hc ha hb) fun σ H Q ⟨ρ, G, h⟩ => by
  refine ⟨ρ, G, (Aft.bind h).mono fun k ρ1 H1 s1 h1 => ?_⟩
  cases k with
  | true => exact iteT ⟨ρ1, s1.good, Aft.mono h1 fun o ρ' H' s2 h2 p u np => h2 p u (s1.live p np)⟩
  | false => exact iteF ⟨ρ1, s1.good, Aft.mono h1 fun o ρ' H' s2 h2 p u np => h2 p u (s1.live p np)⟩
end
end Q
namespace Q
open PySem PySem.Spec PyProof.Rows L2 Gd
variable [Tbl]
/-! ### isinstance(x, (T, ..)), x a kept error -/
def tK (ts : List V) : TA := fun _ H Q => Q ts H
section
variable {X : Cx} {n : Nat} {W : XW} {tab : List (Str × Bool)}
def rIsXs (K : PySem.W.Frag) (tab : List (Str × Bool)) (ts : List V) : List V → Hp → VK → Prop := fun xs H Q => ∃ (a p : Addr) (c f : Str) (d : D) (b : Bool), xs = [.ref a, .ref p] ∧ H p = some (.tup ts) ∧ ExcA K H a c f d ∧ tab.lookup c = some b ∧ Q (.bl b) H
end
end Q
namespace Q
open PySem PySem.Spec PyProof.Rows L2 Gd
variable [Tbl]
/-! ### a list times a number -/
def rep2 : D → D → Option (List D)
  | .list (d :: ds), .int k => if 0 ≤ k ∧ k ≤ 1000 ∧ ds.length < 1000 then some (List.replicate k.toNat (d :: ds)).flatten else none
  | _, _ => none
section
variable {X : Cx} {n : Nat} {W : XW}
end
end Q
namespace SetS
open PySem PySem.Spec PyProof.Rows L2 Gd PySem.Froz
/-! ### set(xs), xs a list of texts -/
section
variable {prog : Program} {w : World} {A : Around} {E : Value → Shared → Prop} {s : Shared}
end
section
variable {X : Cx}
def rSetL (K : PySem.W.Frag) (P : Program) (w : World) : List V → Hp → VK → Prop := fun vs H Q => ∃ (a : Addr) (xs : List Str), vs = [V.ref a] ∧ SqL K H a (xs.map V.str) ∧ xs.length ≤ 4000 ∧ ∀ D, H D = none → Q (.ref D) (upd H D (SO P w D (xs.foldl add [])))
end
end SetS
namespace Q
open PySem PySem.Spec PyProof.Rows L2 Gd
variable [Tbl]
/-! ### sorted(set(xs)), xs a list of texts -/
def sortSetL : D → Option (List D)
  | .list ds => (strsD ds).bind fun ns => if ns.length ≤ 4000 ∧ (ns.foldl SetS.add []).length < 64 then some ((srt (ns.foldl SetS.add [])).map PyData.str) else none
  | _ => none
def fSortSetL (f : Mo R) : Mo Ob := fun ρ => (f ρ).bind fun r ρ1 => match (look ρ1 r).bind sortSetL with
  | some ds => .ok (.lst ds) ρ1
  | none => .no
section
variable {X : Cx} {n : Nat} {W : XW}
end
end Q
namespace Q
open PySem PySem.Spec PyProof.Rows L2 Gd
variable [Tbl]
/-! ### table.get(text), where the table is a dict of texts and ints that the program wrote once -/
def EntsC (w : World) : List DictEntry → List (Str × Int) → Prop
  | [], [] => True
  | e :: es, q :: qs => (e.hash = hashStr w q.1 ∧ (∃ t, e.key = .str q.1 t) ∧ ∃ t, e.val = .int q.2 t) ∧ EntsC w es qs
  | _, _ => False
structure ConstD (w : World) (K : PySem.W.Frag) (mg : Str → Option Value) (x : Str) (qs : List (Str × Int)) : Prop where
  at' : ∃ (p : Addr) (es : Array DictEntry) (m : Nat), mg x = some (.ref p) ∧ (p == sysModules) = false ∧ K.lookup p = some { cls := .type "dict", data := .dict es m } ∧ EntsC w es.toList qs
  one : (qs.map (·.1)).Nodup
theorem EntsC.pairs {P : Program} {w : World} : ∀ {es : List DictEntry} {qs : List (Str × Int)}, EntsC w es qs → ∃ ts : List Tok, ts.length = qs.length ∧ Pairs (strKind P w) es ((qs.zip ts).map fun r => (r.1.1, Value.int r.1.2 r.2))
  | [], [], _ => ⟨[], rfl, .nil⟩
  | e :: es, q :: qs, ⟨⟨_, ⟨t, ek⟩, u, ev⟩, r⟩ => by
    obtain ⟨ts, l, p⟩ := EntsC.pairs (P := P) r
    refine ⟨u :: ts, by rw [List.length_cons, List.length_cons, l], .cons ?_ ev p⟩
    rw [ek]
    exact strKind_is P w q.1 t
theorem EntsC.keys {P : Program} {w : World} : ∀ {es : List DictEntry} {qs : List (Str × Int)}, EntsC w es qs → ∀ e ∈ es, ∃ k, (strKind P w).is k e.key = true ∧ e.hash = (strKind P w).hash k
  | e :: es, q :: qs, ⟨⟨eh, ⟨t, ek⟩, _⟩, r⟩, d, hd => by
    rcases List.mem_cons.mp hd with rfl | hd
    · refine ⟨q.1, ?_, eh⟩
      rw [ek]
      exact strKind_is P w q.1 t
    · exact EntsC.keys r d hd
def getV (qs : List (Str × Int)) (z : Str) : V := ((qs.find? fun q => decide (q.1 = z)).map fun q => V.int q.2).getD .non
def getC (qs : List (Str × Int)) : D → Option D
  | .str z => some (((qs.find? fun q => decide (q.1 = z)).map fun q => PyData.int q.2).getD .none)
  | _ => none
section
variable {X : Cx} {n : Nat} {W : XW}
def tGetC (f : Str → V) (ty : TE) : TE := fun σ H Q => ty σ H fun y H2 => ∃ z, y = .str z ∧ Q (f z) H2
@[simp] def eGetC (qs : List (Str × Int)) (g : Mo R) : Mo R := fun ρ => (g ρ).bind fun b ρ1 => lift ((look ρ1 b).bind (getC qs)) ρ1
/-! ### xs.count(b), xs.index(b), also of a slot's own list -/
def lkL (F : List D → D → Option D) (ρ : Ev) (a b : R) : Option D := match look ρ a, look ρ b with
  | some (.list ds), some y => F ds y
  | _, _ => none
def isLk (ρ : Ev) (a : R) : Bool := match look ρ a with
  | some (.list _) => true
  | _ => false
def eLmV (F : List D → D → Option D) (f g : Mo R) : Mo R := fun ρ => (f ρ).bind fun a ρ1 => if isLk ρ1 a = true then (g ρ1).bind fun b ρ2 => lift (lkL F ρ2 a b) ρ2 else .no
/-! ### t == () -/
def eqAny (a b : D) : Option D := if nilD b = true then (emptyD a).map .bool else eqF a b
end
end Q
namespace Q
open PySem PySem.Spec PyProof.Rows L2 Gd
/-! ### a key that is a def or a lambda: (len(x), x) -/
def keyE (a : Str) (p1 p2 p3 p4 p5 : Pos) (k : Nat) : Expr := .Tuple [.Call (.Name "len" p1) [.Name a p2] [] p3, .Name a p4] k p5
structure KeyPos (a : Str) (p1 p2 p3 p4 p5 : Pos) : Prop where
  two : ∀ env : Env, backTo p5 (starEach [.Call (.Name "len" p1) [.Name a p2] [] p3, .Name a p4] env) = [(false, eval (.Call (.Name "len" p1) [.Name a p2] [] p3) env), (false, eval (.Name a p4) env)]
  one : ∀ env : Env, backTo p3 (starEach [.Name a p2] env) = [(false, eval (.Name a p2) env)]
  kw : ∀ env : Env, backToKw p3 (keywordEach [] env) = []
  nd : (a == ("__debug__" : Str)) = false
end Q
namespace Q
open PySem PySem.Spec PyProof.Rows L2 Gd
variable [Tbl]
/-! ### sorted(xs, key=f), f a def that gives (len(x), x), xs a list of tuples of texts -/
structure KeyF (K : PySem.W.Frag) (x : Str) (st : Stmt) (f : Addr) (fd : FuncData) (a : Str) : Prop where
  F : Fun K x x st f fd
  b : Binds K fd [a] []
  body : ∃ p1 p2 p3 p4 p5 p6 k, defBody st = [.Return (some (keyE a p1 p2 p3 p4 p5 k)) p6] ∧ KeyPos a p1 p2 p3 p4 p5
  kind : (defScope st).kind = .function
  co : (defScope st).isCoroutine = false
  gen : (defScope st).isGenerator = false
  cl : ∀ y ∈ (defScope st).names, y.2 ≠ .cell
  lo : (defScope st).names.lookup a = some NameKind.local
  ln : (defScope st).names.lookup ("len" : Str) = some NameKind.globalImplicit
def txtsD (z : List Str) : D := .tuple (z.map PyData.str)
def keyZ (z : List Str) : D := .tuple [.int (z.length : Nat), txtsD z]
noncomputable def sortZ (zs : List (List Str)) : List (List Str) := zs.mergeSort (PySem.W.dataLe false keyZ)
section
variable {X : Cx}
def KeyRel (X : Cx) (H : Hp) (h : Heap) (v : Value) (b : V × List Str) : Prop := RelV b.1 v ∧ Im X.K H b.1 (txtsD b.2) ∧ ∃ (u : Addr) (its : Array Value), v = .ref u ∧ h.IsTuple u its ∧ ReadsAll h its.toList (b.2.map PyData.str) [] ∧ its.size = b.2.length
def rSortKey (K : PySem.W.Frag) (f : Addr) : List V → List V → Hp → VK → Prop := fun vs zs H Q => ∃ (a : Addr) (xs : List V) (ts : List (List Str)), vs = [V.ref a] ∧ zs = [V.ref f] ∧ SqL K H a xs ∧ ImL K H xs (ts.map txtsD) ∧ (∀ t ∈ ts, t.length ≤ 1000) ∧
  ∀ p us, H p = none → ImL K H us ((sortZ ts).map txtsD) → Q (.ref p) (upd H p (.lst us))
def txtsOf : List D → Option (List Str)
  | [] => some []
  | .str z :: ds => (txtsOf ds).map (z :: ·)
  | _ => none
def setsOf : List D → Option (List (List Str))
  | [] => some []
  | .tuple ds :: r => (txtsOf ds).bind fun z => (setsOf r).map (z :: ·)
  | _ => none
noncomputable def sortKD : List D → Option (List D)
  | [.list ds] => (setsOf ds).bind fun ts => if (ts.all fun t => decide (t.length ≤ 1000)) = true then some ((sortZ ts).map txtsD) else none
  | _ => none
end
end Q
namespace Q
open PySem PySem.Spec PyProof.Rows L2 Gd
variable [Tbl]
/-! ### sorted(xs, key=lambda x: (len(x), x)) -/
section
variable {X : Cx} {n : Nat} {W : XW} {c PT : Addr} {a : Str} {e : Expr} {m : Mo (List R)} {p lp kp pos p1 p2 p3 p4 p5 : Pos} {k : Nat} {prm : Arguments} {scp : Scope}
end
end Q
namespace Q
open PySem PySem.Spec PyProof.Rows L2 Gd
variable [Tbl]
/-! ### dicts whose keys are tuples -/
/-- the hashes are the world's -/
def HsOk (P : Program) (w : World) : Prop := ∀ ks : List Key, (tupleKind (mixKind P w)).hash ks = Tbl.hs ks
def keysD : List D → Option (List Key)
  | [] => some []
  | d :: ds => match keyOf d, keysD ds with
    | some k, some r => some (k :: r)
    | _, _ => none
def keysT : D → Option (List Key)
  | .tuple ds => keysD ds
  | _ => none
def findT (ds : List (D × D)) (ks : List Key) : Option D := (ds.find? fun q => decide (keysT q.1 = some ks)).map (·.2)
def putT (ds : List (D × D)) (ks : List Key) (x : D) : List (D × D) :=
  if (findT ds ks).isSome = true then ds.map (fun q => if keysT q.1 = some ks then (q.1, x) else q) else ds ++ [(.tuple (ks.map keyD), x)]
section
variable {K : PySem.W.Frag} {H : Hp}
theorem ImT.len : ∀ {xs : List (List Key × Addr × Value)} {ds : List (D × D)}, ImT K H xs ds → xs.length = ds.length
  | _, _, .nil => rfl
  | _, _, .cons _ _ _ t => by rw [List.length_cons, List.length_cons, ImT.len t]
theorem ImT.snoc {ks : List Key} {b : Addr} {u : Value} {v : V} {d : D} (nd : NdT H b (ks.map kV)) (rv : RelV v u) (im : Im K H v d) : ∀ {xs : List (List Key × Addr × Value)} {ds : List (D × D)}, ImT K H xs ds → ImT K H (xs ++ [(ks, b, u)]) (ds ++ [(.tuple (ks.map keyD), d)])
  | _, _, .nil => .cons nd rv im .nil
  | _, _, .cons h r i t => .cons h r i (ImT.snoc nd rv im t)
end
section
variable {P : Program} {w : World} {K : PySem.W.Frag} {H : Hp} {h : Heap} {p a : Addr} {xs : List (List Key × Addr × Value)} {ds : List (D × D)}
end
section
variable {X : Cx} {n : Nat} {W : XW}
/-! ### x in d, x not in d -/
def rInT (K : PySem.W.Frag) (neg : Bool) : R2 := fun x y H Q => ∃ p a xs ds b ks, y = .ref p ∧ H p = some (.ext (TDp Tbl.hs a xs)) ∧ ImT K H xs ds ∧ x = .ref b ∧ NdT H b (ks.map kV) ∧ Q (.bl (neg.xor (findT ds ks).isSome)) H
@[simp] def eInT (neg : Bool) (f : Mo R) (i : Nat) : Mo R := fun ρ => (f ρ).bind fun r ρ1 => match (look ρ1 r).bind keysT, ρ1[i]? with
  | some ks, some (.own (.dt ds)) => .ok (.d (.bool (neg.xor (findT ds ks).isSome))) ρ1
  | _, _ => .no
end
end Q
namespace Q
open PySem PySem.Spec PyProof.Rows L2 Gd
variable [Tbl]
/-! ### d[k] = v, {k: v}: keys that are tuples -/
@[simp] def setTd (i : Nat) (x : D) (j : R) (ρ : Ev) : Rt Out := match (look ρ j).bind keysT, ρ[i]? with
  | some ks, some (.own (.dt ds)) => if ds.length < sizeLine then .ok .nx (ρ.set i (.own (.dt (putT ds ks x)))) else .no
  | _, _ => .no
@[simp] def bSetT (i : Nat) (f : Mo R) (g : Mo R) : Mo Out := fun ρ => (f ρ).bind fun r ρ1 => match r, ρ1[i]? with
  | .d x, some (.own (.dt _)) => (g ρ1).bind fun j ρ2 => setTd i x j ρ2
  | _, _ => .no
def sTPut (K : PySem.W.Frag) (td ty tv : TE) : TS := fun E σ H => tv σ H fun v H1 => td σ H1 fun x H2 => ty σ H2 fun y H3 => ∃ p a xs ds b ks, x = .ref p ∧ H3 p = some (.ext (TDp Tbl.hs a xs)) ∧ ImT K H3 xs ds ∧ y = .ref b ∧ NdT H3 b (ks.map kV) ∧ xs.length < sizeLine ∧
  ∀ u, RelV v u → E.nx σ (upd H3 p (.ext (TDp Tbl.hs a (storedH xs ks b u))))
section
variable {X : Cx} {o i value : Expr} {pos pos' : Pos} {td ty tv : TE}
end
section
variable {X : Cx} {n : Nat} {W : XW}
theorem Aft.on {α : Type} {K : PySem.W.Frag} {H H1 : Hp} {σ : L2.St} {ρ ρ1 : Ev} {r : Rt α} {Q : α → Ev → Hp → Prop} (s : Stp K n H σ ρ H1 σ ρ1) (h : Aft K n W H σ ρ r Q) : Aft K n W H1 σ ρ1 r Q := by
  cases r with
  | no => exact h
  | ok a ρ2 => exact fun H2 s2 => h H2 (s.trans s2)
  | ex c d ρ2 => exact fun H2 s2 => h H2 (s.trans s2)
def tNewT (tk tv : TE) : TE := fun σ H Q => ∀ p, H p = none → tPairs [(tk, tv)] σ (upd H p (.ext (TDp Tbl.hs p []))) fun ps H2 => ∃ x y b ks, ps = [(x, y)] ∧ H2 p = some (.ext (TDp Tbl.hs p [])) ∧
  x = .ref b ∧ NdT H2 b (ks.map kV) ∧ ∀ u, RelV y u → Q (.ref p) (upd H2 p (.ext (TDp Tbl.hs p [(ks, b, u)])))
@[simp] def fNewT (fk fv : Mo R) : Mo Ob := fun ρ => (fk ρ).bind fun r ρ1 => (fv ρ1).bind fun v ρ2 => match (look ρ1 r).bind keysT, v with
  | some ks, .d x => .ok (.dt [(.tuple (ks.map keyD), x)]) ρ2
  | _, _ => .no
end
end Q
namespace Q
open PySem PySem.Spec PyProof.Rows L2 Gd
variable [Tbl]
/-! ### calls of defs with defaults that are not written -/
@[simp] def eApp (m : Mo (List R)) (ds : List D) : Mo (List R) := fun ρ => (m ρ).bind fun rs ρ1 => .ok (rs ++ ds.map R.d) ρ1
section
variable {X : Cx} {n : Nat} {W : XW} {k : Nat} {f : Addr} {fd : FuncData} {ps : List Str} {x : Str} {p pos : Pos} {e : Expr} {es : List Expr} {m : Mo (List R)} {F : Fn} {Wx : WX} {sp : Sp} {t : TA} {dvs : List V} {dus : List Value} {dds : List D}
def tApp (t : TA) (dvs : List V) : TA := fun σ H Q => t σ H fun vs H1 => Q (vs ++ dvs) H1
inductive ImC : List V → List D → Prop
  | nil : ImC [] []
  | int {i : Int} {vs : List V} {ds : List D} : ImC vs ds → ImC (.int i :: vs) (.int i :: ds)
end
end Q
namespace Q
open PySem PySem.Spec PyProof.Rows L2 Gd
variable [Tbl]
/-! ### x += e, both ints -/
@[simp] def bAug (i : Nat) (f : Mo R) : Mo Out := fun ρ => match ρ[i]? with
  | some (.dat (.int a)) => (f ρ).bind fun r ρ1 => match look ρ1 r with
    | some (.int b) => nxt (put i (.dat (.int (a + b))) ρ1)
    | _ => .no
  | _ => .no
section
variable {X : Cx} {n : Nat} {W : XW}
/-! ### sorted(xs), xs a list of tuples of texts: none of them empty, or one alone -/
noncomputable def sortT (ts : List (List Str)) : List (List Str) := ts.mergeSort (PySem.W.dataLe false txtsD)
def sortable (ts : List (List Str)) : Bool := decide (ts.length ≤ 1) || ts.all fun t => !t.isEmpty
noncomputable def sortTD : List D → Option (List D)
  | [.list ds] => (setsOf ds).bind fun ts => if sortable ts = true then some ((sortT ts).map txtsD) else none
  | _ => none
end
end Q
namespace Q
open PySem PySem.Spec PyProof.Rows L2 Gd
variable [Tbl]
/-! ### sorting tuples, empty ones among them -/
section
variable {prog : Program} {w : World} {A : Around} {E : Value → Shared → Prop} {s : Shared}
def fullB : D → Bool
  | .tuple (_ :: _) => true
  | _ => false
end
end Q
namespace Q
open PySem PySem.Spec PyProof.Rows L2 Gd
variable [Tbl]
section
variable {X : Cx}
end
end Q
namespace Q
open PySem PySem.Spec PyProof.Rows L2 Gd
variable [Tbl]
section
variable {X : Cx} {n : Nat} {W : XW}
/-! ### sorted(xs), xs a list or a tuple of tuples of texts -/
noncomputable def sortUD : List D → Option (List D)
  | [.list ds] => (setsOf ds).map fun ts => (sortT ts).map txtsD
  | [.tuple ds] => (setsOf ds).map fun ts => (sortT ts).map txtsD
  | _ => none
/-! ### sorted(dict(xs)), xs a list of pairs of a tuple of texts and data -/
def pairsZ : List D → Option (List (List Str × D))
  | [] => some []
  | .tuple [.tuple es, v] :: r => (txtsOf es).bind fun z => (pairsZ r).map ((z, v) :: ·)
  | _ :: _ => none
def mergeZ (acc : List (D × D)) : List (List Str × D) → List (D × D)
  | [] => acc
  | p :: r => mergeZ (putT acc (p.1.map Sum.inr) p.2) r
abbrev PrZ (K : PySem.W.Frag) (H : Hp) : List (List Str × D) → List (List Key × Addr × Value) → Prop := Paired fun (p : List Str × D) (x : List Key × Addr × Value) => x.1 = p.1.map Sum.inr ∧ NdT H x.2.1 (p.1.map V.str) ∧ ∃ v, RelV v x.2.2 ∧ Im K H v p.2
end
end Q
namespace Q
open PySem PySem.Spec PyProof.Rows L2 Gd
variable [Tbl]
section
variable {X : Cx} {n : Nat} {W : XW}
/-! ### list(d) -/
def rListT (K : PySem.W.Frag) : List V → Hp → VK → Prop := fun vs H Q => ∃ p a xs ds, vs = [V.ref p] ∧ H p = some (.ext (TDp Tbl.hs a xs)) ∧ ImT K H xs ds ∧ ∀ q us, H q = none → ImL K H us (ds.map Prod.fst) → Q (.ref q) (upd H q (.lst us))
/-! ### sorted(d) -/
def rSortE (K : PySem.W.Frag) : List V → Hp → VK → Prop := fun vs H Q => ∃ p a xs ds zs, vs = [V.ref p] ∧ H p = some (.ext (TDp Tbl.hs a xs)) ∧ ImT K H xs ds ∧ setsOf (ds.map Prod.fst) = some zs ∧ ∀ t us, H t = none → ImL K H us ((sortT zs).map txtsD) → Q (.ref t) (upd H t (.lst us))
/-! ### dict(xs), xs a list of pairs of a tuple of texts and data -/
def rDictZ (K : PySem.W.Frag) : List V → Hp → VK → Prop := fun vs H Q => ∃ a ys ds ps, vs = [V.ref a] ∧ Rd H a (.lst ys) ∧ ImL K H ys ds ∧ pairsZ ds = some ps ∧ ∀ p xs, H p = none → ImT K H xs (mergeZ [] ps) → Q (.ref p) (upd H p (.ext (TDp Tbl.hs p xs)))
end
end Q
namespace Q
open PySem PySem.Spec PyProof.Rows L2 Gd
variable [Tbl]
/-! ### [elt for x in xs for y in ys if ..] -/
def comp2L (g1 : Tg) (it2 : Mo (List D)) (g2 : Tg) (t : Mo Bool) (e : Mo R) (vs vs2 : List Nat) : List D → Mo (List D)
  | [], ρ => .ok [] ρ
  | d :: ds, ρ => match g1 d ρ with
    | none => .no
    | some ρ1 => (it2 ρ1).bnd fun ds2 ρ2 => (compD g2 t e vs2 ds2 (wipeE ρ2 vs2)).bnd fun xs ρ3 => (comp2L g1 it2 g2 t e vs vs2 ds (wipeE ρ3 vs)).bnd fun ys ρ4 => .ok (xs ++ ys) ρ4
def fComp2 (it1 : Mo (List D)) (g1 : Tg) (it2 : Mo (List D)) (g2 : Tg) (t : Mo Bool) (e : Mo R) (vs vs2 : List Nat) : Mo Ob := fun ρ => (it1 ρ).bind fun ds ρ1 => if noOwn ρ1 vs = true then (comp2L g1 it2 g2 t e vs vs2 ds (wipeE ρ1 vs)).bnd fun xs ρ2 => if xs.length ≤ 1000000 then .ok (.lst xs) (mixE ρ1 ρ2 vs) else .no else .no
section
variable {K : PySem.W.Frag} {n : Nat} {W : XW}
end
section
variable {X : Cx} {n : Nat} {W : XW}
end
end Q
namespace Q
open PySem PySem.Spec PyProof.Rows L2 Gd
variable [Tbl]
/-! ### {} -/
section
variable {X : Cx} {n : Nat} {W : XW} {pos : Pos}
def tNewT0 : TE := fun _ H Q => ∀ p, H p = none → Q (.ref p) (upd H p (.ext (TDp Tbl.hs p [])))
@[simp] def fNewT0 : Mo Ob := fun ρ => .ok (.dt []) ρ
end
/-! ### d.setdefault(k, []).append(x): keys that are tuples, the key new -/
/-- a thing beside is locked -/
def tFrzA (te : TE) : TE := fun σ H Q => te σ H fun x H1 => ∃ d u, H1 d = some u ∧ Mut (some u) ∧ ∀ od, Q x (upd H1 d (.frz od u))
section
variable {X : Cx} {o e : Expr} {td ty : TE} {pos : Pos}
def tSdT (K : PySem.W.Frag) (td ty : TE) : TE := fun σ H Q => td σ H fun x H1 => ∃ p a xs ds, x = .ref p ∧ H1 p = some (.ext (TDp Tbl.hs a xs)) ∧ ImT K H1 xs ds ∧ ty σ H1 fun y H2 => ∃ a' ys es b ks, H2 p = some (.ext (TDp Tbl.hs a' ys)) ∧ ImT K H2 ys es ∧
  y = .ref b ∧ NdT H2 b (ks.map kV) ∧ findT es ks = none ∧ ys.length < sizeLine ∧ ∀ q, H2 q = none → Q (.ref q) (upd (upd H2 q (.lst [])) p (.ext (TDp Tbl.hs a' (storedH ys ks b (.ref q)))))
end
@[simp] def eSdA (i : Nat) (f : Mo R) (j : Nat) : Mo R := fun ρ => match ρ[i]? with
  | some (.own (.dt _)) => (f ρ).bind fun r ρ1 => match (look ρ1 r).bind keysT, ρ1[i]?, ρ1[j]? with
    | some ks, some (.own (.dt ds)), some (.dat x) => if (findT ds ks).isNone = true ∧ ds.length < sizeLine then .ok (.d .none) (ρ1.set i (.own (.dt (ds ++ [(.tuple (ks.map keyD), .list [x])])))) else .no
    | _, _, _ => .no
  | _ => .no
section
variable {X : Cx} {n : Nat} {W : XW} {x y : Str} {p p2 apos cpos a2 c2 lpos : Pos} {e : Expr} {f : Mo R} {i j : Nat}
end
/-! ### d.get(k, []): the key there -/
@[simp] def eGetT (i : Nat) (f : Mo R) : Mo R := fun ρ => match ρ[i]? with
  | some (.own (.dt _)) => (f ρ).bind fun r ρ1 => match (look ρ1 r).bind keysT, ρ1[i]? with
    | some ks, some (.own (.dt ds)) => lift (findT ds ks) ρ1
    | _, _ => .no
  | _ => .no
def tGetT (K : PySem.W.Frag) (td ty : TE) : TE := fun σ H Q => td σ H fun x H1 => ∃ p a xs ds, x = .ref p ∧ H1 p = some (.ext (TDp Tbl.hs a xs)) ∧ ImT K H1 xs ds ∧ ty σ H1 fun y H2 => ∃ a' ys es b ks d, H2 p = some (.ext (TDp Tbl.hs a' ys)) ∧ ImT K H2 ys es ∧
  y = .ref b ∧ NdT H2 b (ks.map kV) ∧ findT es ks = some d ∧ ∀ q v, H2 q = none → Im K (upd H2 q (.lst [])) v d → Q v (upd H2 q (.lst []))
section
variable {X : Cx} {o e : Expr} {td ty : TE}
end
section
variable {X : Cx} {n : Nat} {W : XW} {x : Str} {p apos cpos lpos : Pos} {e : Expr} {f : Mo R} {i : Nat}
end
end Q
namespace Q
open PySem PySem.Spec PyProof.Rows L2 Gd
variable [Tbl]
/-! ### list(zip(xs, ys)), xs and ys lists -/
/-- where a walk over pairs stands -/
def ZSt (h : Heap) (z TI TO i1 i2 l1 l2 S : Addr) (xs ys : Array Value) (i : Nat) : Prop :=
  ((IsZip h z TI TO .none ∧ ∃ a b, IsPair h TO a b) ∨ ∃ T f oT, IsZipHeld h z TI TO T f ∧ h.get? T = some oT ∧ T ≠ z ∧ T ≠ i1 ∧ T ≠ i2 ∧ T ≠ S) ∧ IsPair h TI (.ref i1) (.ref i2) ∧ h.IsListIter i1 l1 i ∧ h.IsListIter i2 l2 i ∧ h.IsList l1 xs ∧ h.IsList l2 ys
structure OffS (z TI TO i1 i2 l1 l2 S : Addr) : Prop where
  z : z ≠ S
  TI : TI ≠ S
  TO : TO ≠ S
  i1 : i1 ≠ S
  i2 : i2 ≠ S
  l1 : l1 ≠ S
  l2 : l2 ≠ S
theorem ZSt.keep {h h' : Heap} {z TI TO i1 i2 l1 l2 S : Addr} {xs ys : Array Value} {i : Nat} (O : OffS z TI TO i1 i2 l1 l2 S) (st : ZSt h z TI TO i1 i2 l1 l2 S xs ys i) (k : ∀ b o, b ≠ S → h.get? b = some o → h'.get? b = some o) : ZSt h' z TI TO i1 i2 l1 l2 S xs ys i := by
  obtain ⟨c, p, a1, a2, b1, b2⟩ := st
  refine ⟨?_, k _ _ O.TI p, a1.at fun o e => k _ o O.i1 e, a2.at fun o e => k _ o O.i2 e, b1.at fun o e => k _ o O.l1 e, b2.at fun o e => k _ o O.l2 e⟩
  rcases c with ⟨hz, a, b, hp⟩ | ⟨T, f, oT, hz, hT, r⟩
  · exact .inl ⟨k _ _ O.z hz, a, b, k _ _ O.TO hp⟩
  · exact .inr ⟨T, f, oT, k _ _ O.z hz, k _ _ r.2.2.2 hT, r⟩
section
variable {prog : Program} {w : World} {A : Around} {E : Value → Shared → Prop} {s : Shared} {z TI TO i1 i2 l1 l2 S : Addr} {xs ys : Array Value} {i : Nat}
/-- the pairs that were given out -/
structure ZPs (xs ys : Array Value) (lo : Addr) (h : Heap) (ts : List Addr) : Prop where
  rise : ts.Pairwise (· < ·)
  pairs : ∀ (j : Nat) (t : Addr), ts[j]? = some t → lo ≤ t ∧ ∃ x y, xs[j]? = some x ∧ ys[j]? = some y ∧ IsPair h t x y
theorem ZPs.lt {xs ys : Array Value} {lo : Addr} {h : Heap} {ts : List Addr} (g : ZPs xs ys lo h ts) {t : Addr} (ht : t ∈ ts) : lo ≤ t ∧ t < h.objs.size := by
  obtain ⟨j, hj⟩ := List.mem_iff_getElem?.mp ht
  obtain ⟨l, _, _, _, _, e⟩ := g.pairs j t hj
  exact ⟨l, Heap.lt_size e⟩
abbrev LstAt (h : Heap) (S : Addr) (acc : Array Value) (c : Nat) : Prop := h.get? S = some { cls := .type "list", dict := none, data := .seq acc c, slots := #[] }
end
section
variable {prog : Program} {w : World} {A : Around} {s : Shared} {R : Result → Shared → Prop} {z TI TO i1 i2 l1 l2 S lo : Addr} {xs ys : Array Value}
structure ZLow (z TO i1 i2 S lo : Addr) : Prop where
  z : z < lo
  TO : TO < lo
  i1 : i1 < lo
  i2 : i2 < lo
  S : S < lo
end
end Q
namespace Q
open PySem PySem.Spec PyProof.Rows L2 Gd
variable [Tbl]
section
variable {prog : Program} {w : World} {A : Around} {E : Value → Shared → Prop} {s : Shared} {z TI TO i1 i2 l1 l2 : Addr} {xs ys : Array Value}
end
/-! ### the tuples are known -/
def putZ : Hp → List Addr → List (V × V × Obj) → Hp
  | H, t :: ts, p :: ps => putZ (upd H t (.frz p.2.2 (.tup [p.1, p.2.1]))) ts ps
  | H, _, _ => H
end Q
namespace Q
open PySem PySem.Spec PyProof.Rows L2 Gd
variable [Tbl]
section
variable {X : Cx} {n : Nat} {W : XW}
/-! ### sorted(dict(xs)), xs a list of pairs of a tuple of texts and data -/
@[simp] noncomputable def fSortDZ (m : Mo (List R)) : Mo Ob := fun ρ => (m ρ).bind fun rs ρ1 => match looks ρ1 rs with
  | some [.list ds] => match (pairsZ ds).bind fun ps => setsOf ((mergeZ [] ps).map Prod.fst) with
    | some zs => .ok (.lst ((sortT zs).map txtsD)) ρ1
    | none => .no
  | _ => .no
/-! ### list(zip(xs, ys)) -/
def rFNs (K : PySem.W.Frag) (F : List D → Option (List D)) : List V → Hp → VK → Prop := fun xs H Q => ∃ as ds, VwL K H xs as ∧ F as = some ds ∧ ∀ H1 p vs, Same H H1 → H p = none → H1 p = none → ImL K H1 vs ds → Q (.ref p) (upd H1 p (.lst vs))
def zipT : List D → List D → List D
  | a :: as, b :: bs => .tuple [a, b] :: zipT as bs
  | _, _ => []
@[simp] def zipLL : List D → Option (List D)
  | [.list a, .list b] => if a.length ≤ sizeLine then some (zipT a b) else none
  | _ => none
end
end Q
namespace Q
open PySem PySem.Spec PyProof.Rows L2 Gd
variable [Tbl]
/-! ### {k: v for x in xs}: keys that are tuples -/
section
variable {X : Cx}
/-- what is due after each turn, D the new dict -/
def tDcT (K : PySem.W.Frag) (wi : TI) (g : TG) (tt : TT) (tk tv : TE) (vs : List Nat) : TE := fun σ H Q => wi σ H fun J H1 => ∀ D, H1 D = none → ∃ W : Nat → Nat → Hp → Prop, (∃ m, W 0 m (upd H1 D (.ext (TDp Tbl.hs D [])))) ∧ ∀ i m G, W i m G →
  (J.stop i G ∧ Q (.ref D) G) ∨ (J.go i G ∧ ∃ Nx : Hp → Prop, (∀ G', Nx G' → ∃ m', m' < m ∧ W (i + 1) m' G') ∧ ∀ x G', J.yld i G x G' → g x (wipe σ vs) G' fun σ2 H2 => wipe σ2 vs = wipe σ vs ∧ tt σ2 H2 fun b H3 =>
    if b = true then tk σ2 H3 fun y H4 => tv σ2 H4 fun z H5 => ∃ a xs ds t ks, y = .ref t ∧ H5 D = some (.ext (TDp Tbl.hs a xs)) ∧ ImT K H5 xs ds ∧ NdT H5 t (ks.map kV) ∧ xs.length < sizeLine ∧ ∀ u, RelV z u → Nx (upd H5 D (.ext (TDp Tbl.hs a (storedH xs ks t u)))) else Nx H3)
end
end Q
namespace Q
open PySem PySem.Spec PyProof.Rows L2 Gd
variable [Tbl]
/-! ### {k: v for x in xs}: keys that are tuples, as a piece -/
def dcD (g : Tg) (t : Mo Bool) (ek ev : Mo R) (vs : List Nat) : List D → List (D × D) → Mo (List (D × D))
  | [], acc, ρ => .ok acc ρ
  | d :: ds, acc, ρ => match g d ρ with
    | none => .no
    | some ρ1 => (t ρ1).bnd fun b ρ2 => if b = true then (ek ρ2).bnd fun r ρ3 => (ev ρ3).bnd fun v ρ4 => match (look ρ3 r).bind keysT, v with
        | some ks, .d x => if acc.length < sizeLine then dcD g t ek ev vs ds (putT acc ks x) (wipeE ρ4 vs) else .no
        | _, _ => .no
      else dcD g t ek ev vs ds acc (wipeE ρ2 vs)
def fDcT (it : Mo (List D)) (g : Tg) (t : Mo Bool) (ek ev : Mo R) (vs : List Nat) : Mo Ob := fun ρ => (it ρ).bind fun ds ρ1 => if noOwn ρ1 vs = true then (dcD g t ek ev vs ds [] (wipeE ρ1 vs)).bnd fun kv ρ2 => .ok (.dt kv) (mixE ρ1 ρ2 vs) else .no
section
variable {K : PySem.W.Frag} {n : Nat} {W : XW}
end
section
variable {X : Cx} {n : Nat} {W : XW}
/-! ### list(d) -/
@[simp] def fListT (i : Nat) : Mo Ob := fun ρ => match ρ[i]? with
  | some (.own (.dt ds)) => .ok (.lst (ds.map Prod.fst)) ρ
  | _ => .no
end
end Q
namespace Q
open PySem PySem.Spec PyProof.Rows L2 Gd
variable [Tbl]
/-! ### y = {k: v for x in xs} -/
section
variable {X : Cx}
end
section
variable {X : Cx} {n : Nat} {W : XW}
end
end Q
namespace Q
open PySem PySem.Spec PyProof.Rows L2 Gd
variable [Tbl]
/-! ### a comprehension over a list of a slot's own, that stays the slot's -/
noncomputable def compO (i0 : Nat) (src : List D) (g : Tg) (t : Mo Bool) (e : Mo R) (vs : List Nat) : List D → Mo (List D)
  | [], ρ => if cb (ρ[i0]? = some (.own (.lst src))) = true then .ok [] ρ else .no
  | d :: ds, ρ => if cb (ρ[i0]? = some (.own (.lst src))) = true then match g d ρ with
    | none => .no
    | some ρ1 => (t ρ1).bnd fun b ρ2 => if b = true then (e ρ2).bnd fun r ρ3 => match r with
        | .d x => (compO i0 src g t e vs ds (wipeE ρ3 vs)).bnd fun xs ρ4 => .ok (x :: xs) ρ4
        | .v _ => .no
      else compO i0 src g t e vs ds (wipeE ρ2 vs)
    else .no
noncomputable def fCompO (i0 : Nat) (g : Tg) (t : Mo Bool) (e : Mo R) (vs : List Nat) : Mo Ob := fun ρ => match ρ[i0]? with
  | some (.own (.lst ds)) => if ds.length ≤ sizeLine ∧ noOwn ρ vs = true ∧ i0 ∉ vs then (compO i0 ds g t e vs ds (wipeE ρ vs)).bnd fun xs ρ2 => .ok (.lst xs) (mixE ρ ρ2 vs) else .no
  | _ => .no
section
variable {K : PySem.W.Frag} {n : Nat} {W : XW}
def GOwn (K : PySem.W.Frag) (a : Addr) (ds : List D) (H : Hp) : Prop := ∃ vs, H a = some (.lst vs) ∧ ImL K H vs ds
end
section
variable {X : Cx} {n : Nat} {W : XW}
end
end Q
namespace Q
open PySem PySem.Spec PyProof.Rows L2 Gd PySem.MeetsSeq PySem.SeqAt
open AutoSeq1 (wpAny_loadPart')
variable [Tbl]
/-! `value in list` where the value is a dict, or a tuple in which dicts stand, and the list holds tuples of texts -/
def elB : D → Str → Bool
  | .str z, t => z == t
  | _, _ => false
def elOk : D → Bool
  | .str _ => true
  | .dict ds => keysOk ds
  | _ => false
def tupIs : List D → List Str → Bool
  | [], [] => true
  | d :: ds, t :: ts => elB d t && tupIs ds ts
  | _, _ => false
def valIs : D → List Str → Bool
  | .tuple ds, t => tupIs ds t
  | _, _ => false
def valOk : D → Bool
  | .tuple ds => ds.all elOk
  | .dict ds => keysOk ds
  | _ => false
def txIn : D → D → Option Bool
  | x, .list ys => if valOk x = true then (setsOf ys).map fun ts => ts.any (valIs x) else none
  | _, _ => none
def inTx (x y : D) : Option D := ((inD x y).or (txIn x y)).map .bool
section
variable {X : Cx} {H : Hp}
end
end Q
namespace Q
open PySem PySem.Spec PyProof.Rows L2 Gd
variable [Tbl]
/-! ### d.get(k): keys that are texts or numbers -/
def getN : D → D → Option D
  | .dict ds, y => if keysOk ds = true then (keyOf y).map fun k => (lookKV ds k).getD .none else none
  | _, _ => none
@[simp] def eGetK (f g : Mo R) : Mo R := fun ρ => (f ρ).bind fun a ρ1 => match look ρ1 a with
  | some (.dict ds) => if keysOk ds = true then (g ρ1).bind fun b ρ2 => lift ((look ρ2 a).bind fun x => (look ρ2 b).bind fun y => getN x y) ρ2 else .no
  | _ => .no
section
variable {X : Cx} {n : Nat} {W : XW} {o e : Expr} {apos cpos : Pos} {f g : Mo R}
end
end Q
namespace Q
open PySem PySem.Spec PyProof.Rows L2 Gd
variable [Tbl]
/-! ### y = [elt for x in xs for y in ys] -/
section
variable {X : Cx} {n : Nat} {W : XW}
end
end Q
namespace Q
open PySem PySem.Spec PyProof.Rows L2 Gd
open PySem.Calls
variable [Tbl]
/-! ### sorted(xs, key=f), xs a tuple -/
section
variable {prog : Program} {w : World} {A : Around} {E : Value → Shared → Prop} {s : Shared}
def heapC (h : Heap) (us : List Value) : Heap := (h.push (seqObj "list" #[] 0)).update h.objs.size (Obj.mapSeq (fun z => z ++ us.toArray))
end
section
variable {X : Cx}
def rSortKeyT (K : PySem.W.Frag) (f : Addr) : List V → List V → Hp → VK → Prop := fun vs zs H Q => ∃ (a : Addr) (xs : List V) (ts : List (List Str)), vs = [V.ref a] ∧ zs = [V.ref f] ∧ (SqL K H a xs ∨ SqT K H a xs) ∧ ImL K H xs (ts.map txtsD) ∧ (∀ t ∈ ts, t.length ≤ 1000) ∧
  ∀ p us, H p = none → ImL K H us ((sortZ ts).map txtsD) → Q (.ref p) (upd H p (.lst us))
noncomputable def sortKE : List D → Option (List D)
  | [.tuple ds] => sortKD [.list ds]
  | as => sortKD as
end
end Q
namespace Q
open PySem PySem.Spec PyProof.Rows L2 Gd
variable [Tbl]
/-! ### calls of defs with keywords alone, in any order -/
def permL {α : Type} (π : List Nat) (l : List α) : List α := π.filterMap fun i => l[i]?
@[simp] def ePrm (π : List Nat) (m : Mo (List R)) : Mo (List R) := fun ρ => (m ρ).bind fun rs ρ1 => .ok (permL π rs) ρ1
def tPrm (π : List Nat) (t : TA) : TA := fun σ H Q => t σ H fun vs H1 => Q (permL π vs) H1
/-- how the keywords bind: all of the parameters, in the order that π tells -/
def KwB (K : PySem.W.Frag) (fd : FuncData) (ps ks : List Str) (π : List Nat) : Prop :=
  ∀ (s : Shared) (ws : List Value), K.In s.heap → (permL π ws).length = ps.length → BindsTo s fd ⟨[], ks.zip ws⟩ (ps.zip (permL π ws))
abbrev XK (X : Cx) (n : Nat) (W : XW) (kws : List Keyword) (m : Mo (List R)) : Prop := PK X kws (tXs X.K n W m)
section
variable {X : Cx} {n : Nat} {W : XW} {k : Nat} {f : Addr} {fd : FuncData} {ps ks : List Str} {π : List Nat} {x : Str} {p pos : Pos} {kws : List Keyword} {m : Mo (List R)} {F : Fn} {Wx : WX} {sp : Sp} {t : TA}
end
end Q
namespace Q
open PySem PySem.Spec PyProof.Rows L2 Gd
variable [Tbl]
/-! ### a try whose clause has a suite of its own -/
/-- what is wished of an error of a try's body that a suite may use under the name in slot i -/
def wSuite (K : PySem.W.Frag) (c : Value) (i : Nat) (t2 : TS) (Wout : WX) (D : Ends) : WX := fun cls d σ H =>
  ∃ b, PySem.W.exmOne K cls c = some b ∧
    (b = true → ∀ (a : Addr) (oe : Obj), H a = none → Zc cls d oe → (∃ vs, oe.data = .fields vs) → t2 { nx := fun σ' H' => D.nx (σ'.set i none) H', rt := fun _ _ => False } (σ.set i (some (.ref a))) (upd H a (.frz oe (.ext fun h => h.get? a = some oe)))) ∧ (b = false → Wout cls d σ H)
section
variable {X : Cx} {x n : Str} {c : Value} {i : Nat} {body : List Stmt} {b₀ : Stmt} {suite : List Stmt} {np pos pos' : Pos} {tb : WX → TS} {t2 : TS} {Wout : WX}
end
@[simp] def suiteX (tab : List (Str × Bool)) (i : Nat) (m2 : Mo Out) : Rt Out → Rt Out
  | .ok o ρ => .ok o ρ
  | .ex c (.tuple [.str f, x]) ρ => match tab.lookup c with
    | some true => match put i (.exc c f x) ρ with
      | some ρ1 => match m2 ρ1 with
        | .ok .nx ρ2 => nxt (put i .no ρ2)
        | _ => .no
      | none => .no
    | some false => .ex c (.tuple [.str f, x]) ρ
    | none => .no
  | _ => .no
@[simp] def bTryB (tab : List (Str × Bool)) (i : Nat) (m m2 : Mo Out) : Mo Out := fun ρ => suiteX tab i m2 (m ρ)
section
variable {X : Cx} {n : Nat} {W : XW} {Wx : WX} {x y : Str} {cv : Value} {tab : List (Str × Bool)} {i : Nat} {body : List Stmt} {b₀ : Stmt} {suite : List Stmt} {np pos pos' : Pos} {m m2 : Mo Out}
end
end Q
namespace Q
open PySem PySem.Spec PyProof.Rows L2 Gd
variable [Tbl]
/-! ### a tuple so many times: any tuple, any small number -/
def repTZ : D → D → Option D
  | .tuple ds, .int k => if -1000 ≤ k ∧ k ≤ 1000 ∧ ds.length ≤ 1000 then some (.tuple (List.replicate k.toNat ds).flatten) else none
  | _, _ => none
section
variable {X : Cx}
end
end Q
namespace Q
open PySem PySem.Spec PyProof.Rows L2 Gd
variable [Tbl]
section
variable {X : Cx} {n : Nat} {W : XW}
/-! ### xs.pop() -/
noncomputable def popL (ds : List D) : List D → Option (D × List D)
  | [] => ds[ds.length - 1]?.map fun y => (y, ds.dropLast)
  | _ => none
theorem ImL.dropLast {K : PySem.W.Frag} {H : Hp} : ∀ {xs : List V} {ds : List D}, ImL K H xs ds → ImL K H xs.dropLast ds.dropLast
  | _, _, .nil => .nil
  | _, _, .cons h .nil => .nil
  | _, _, .cons h (.cons h2 r) => .cons h (ImL.dropLast (.cons h2 r))
/-! ### x = x if c else f, x a thing of one's own -/
@[simp] def bKeep (i : Nat) (c : Mo Bool) (f : Mo Ob) : Mo Out := fun ρ => (c ρ).bind fun k ρ1 => if k = true then (match ρ1[i]? with
  | some (.own _) => .ok .nx ρ1
  | _ => .no) else bSetF i f ρ1
end
end Q
namespace SetS
open PySem PySem.Spec PyProof.Rows L2 Gd PySem.Froz PpSet
/-! ### a small table laid anew: every start of a run is met -/
/-- where the n-th run starts -/
def stN (m : Nat) : Nat → Nat × Nat → Nat × Nat
  | 0, p => p
  | n + 1, p => stN m n (SetTable.leap m p.1 p.2)
def Meets (m : Nat) : Prop := (m + 1 ≤ 64) ∧ ∀ i < m + 1, ∀ j < m + 1, ∃ k < m + 1, (stN m k (i, 0)).1 = j
instance (m : Nat) : Decidable (Meets m) := by unfold Meets; infer_instance
/-- n things sit in the table, one in a slot -/
structure Sits (m n : Nat) (owner : Array (Option Nat)) : Prop where
  sz : owner.size = m + 1
  pm : (owner.toList.filterMap id).Perm (List.range n)
theorem fm_all {α : Type} : ∀ {l : List (Option α)}, (∀ o ∈ l, o ≠ none) → (l.filterMap id).length = l.length
  | [], _ => rfl
  | none :: l, h => absurd rfl (h none List.mem_cons_self)
  | some x :: l, h => by
    show (l.filterMap id).length + 1 = l.length + 1
    rw [fm_all fun o ho => h o (List.mem_cons_of_mem _ ho)]
theorem Sits.free {m n : Nat} {owner : Array (Option Nat)} (S : Sits m n owner) (hn : n ≤ m) : ∃ j < m + 1, owner.getD j (some 0) = none := by
  refine Classical.byContradiction fun no => ?_
  have all : ∀ o ∈ owner.toList, o ≠ none := fun o ho e => by
    subst e
    obtain ⟨j, hj, ej⟩ := List.mem_iff_getElem.mp ho
    rw [Array.length_toList, S.sz] at hj
    refine no ⟨j, hj, ?_⟩
    unfold Array.getD
    rw [dif_pos (by rw [S.sz]; exact hj)]
    rw [Array.getElem_toList] at ej
    exact ej
  have := fm_all all
  rw [S.pm.length_eq, List.length_range, Array.length_toList, S.sz] at this
  omega
def layStep (m : Nat) (acc : Option (Array (Option Nat) × Nat)) (h : Int) : Option (Array (Option Nat) × Nat) :=
  acc.bind fun p => (SetTable.layClean.free m p.1 (SetTable.turns m) (SetTable.bits h % (m + 1)) (SetTable.bits h)).map fun j => (p.1.setIfInBounds j (some p.2), p.2 + 1)
end SetS
namespace SetS
open PySem PySem.Spec PyProof.Rows L2 Gd PySem.Froz PpSet
section
variable {P : Program} {w : World} {A : Around} {E : Value → Shared → Prop} {s : Shared} {a r : Addr} {l : List Str}
/-- a set that was copied: its texts, its dummies, its mask -/
def Cp (P : Program) (w : World) (h : Heap) (r : Addr) (l : List Str) (d m : Nat) : Prop :=
  ∃ D : SD, h.get? r = some (sObj "set" D) ∧ ElemsOf (strKind P w) D.1.toList ∧ (D.1.toList.map keyS).Perm l ∧ (∀ e ∈ D.1.toList, ∃ u, e.2 = Value.str (keyS e) u) ∧ D.2.2.fits D.1.size = true ∧ D.2.2.dummies.size = d ∧ D.2.2.mask = m
def cpMask (n : Nat) : Nat := if n ≤ 4 then 7 else if n ≤ 7 then 15 else 31
end
end SetS
namespace SetS
open PySem PySem.Spec PyProof.Rows L2 Gd PySem.Froz PpSet
section
variable {P : Program} {w : World} {A : Around} {E : Value → Shared → Prop} {s : Shared} {a b r : Addr} {l la lb : List Str} {d m : Nat}
theorem Cp.len (C : Cp P w s.heap r l d m) : l.length + d ≤ m := by
  obtain ⟨D, ho, el, pm, g, hf, hd, hm⟩ := C
  unfold SetTable.fits SetTable.fill at hf
  rw [Bool.and_eq_true, beq_iff_eq, decide_eq_true_eq] at hf
  have := pm.length_eq
  rw [List.length_map, Array.length_toList] at this
  rw [hd, hm] at hf
  omega
end
end SetS
namespace SetS
open PySem PySem.Spec PyProof.Rows L2 Gd PySem.Froz PpSet
section
variable {P : Program} {w : World} {A : Around} {E : Value → Shared → Prop} {s : Shared} {a b r : Addr} {l la lb : List Str} {d m : Nat}
end
end SetS
namespace SetS
open PySem PySem.Spec PyProof.Rows L2 Gd PySem.Froz PpSet
section
variable {P : Program} {w : World} {A : Around} {E : Value → Shared → Prop} {s : Shared} {a b : Addr} {la lb : List Str}
end
section
variable {X : Cx}
def rSubC (P : Program) (w : World) : V → V → Hp → VK → Prop := fun x y H Q => ∃ a la b lb, x = .ref a ∧ y = .ref b ∧ H a = some (SO P w a la) ∧ H b = some (SO P w b lb) ∧ la.Nodup ∧ (la.length / 4 ≤ lb.length ∨ la.length ≤ 15) ∧ la.length ≤ 4000 ∧ lb.length ≤ 4000 ∧
  ∀ D, H D = none → Q (.ref D) (upd H D (SN P w D (la.filter fun k => !lb.contains k).length))
end
end SetS
namespace Q
open PySem PySem.Spec PyProof.Rows L2 Gd
variable [Tbl]
/-! ### len(set(xs) - set(ys)): small ones by a copy too -/
def eSubLenC (f g : Mo R) : Mo R := fun ρ => (f ρ).bind fun a ρ1 => match (look ρ1 a).bind tupS with
  | some xs => (g ρ1).bind fun b ρ2 => match (look ρ2 b).bind tupS with
    | some ys => if (dd xs).length / 4 ≤ (dd ys).length ∨ (dd xs).length ≤ 15 then .ok (.d (.int (((dd xs).filter fun k => !(dd ys).contains k).length : Nat))) ρ2 else .no
    | none => .no
  | none => .no
section
variable {X : Cx} {n : Nat} {W : XW}
end
end Q
namespace Q
open PySem PySem.Spec PyProof.Rows L2 Gd
variable [Tbl]
/-! ### one sign in a text -/
def inSgn : D → D → Option D
  | .str ⟨⟨[c]⟩⟩, .str z => some (.bool (decide (c ∈ z.cps.toList)))
  | _, _ => none
end Q
namespace Q
open PySem PySem.Spec PyProof.Rows L2 Gd SeqAt
variable [Tbl]
/-! ### (i, t) >= (j, u): numbers, tuples of texts -/
def geL : List Str → List Str → Bool
  | [], ms => ms.isEmpty
  | _ :: _, [] => true
  | n :: ns, m :: ms => if n = m then geL ns ms else !decide (n.cps.toList < m.cps.toList)
def geP : D → D → Option D
  | .tuple [.int i, .tuple xs], .tuple [.int j, .tuple ys] => (strsD xs).bind fun ns => (strsD ys).bind fun ms => if PyData.canLayAll0 xs = true ∧ PyData.canLayAll0 ys = true then some (.bool (if i = j then (if ns = ms then true else geL ns ms) else decide (j ≤ i))) else none
  | _, _ => none
end Q
namespace Q
open PySem PySem.Spec PyProof.Rows L2 Gd
variable [Tbl]
/-! ### a try whose clause has a suite that may return -/
/-- what is wished of an error of a try's body that a suite may use under the name in slot i -/
def wSuiteR (K : PySem.W.Frag) (c : Value) (i : Nat) (t2 : TS) (Wout : WX) (D : Ends) : WX := fun cls d σ H =>
  ∃ b, PySem.W.exmOne K cls c = some b ∧
    (b = true → ∀ (a : Addr) (oe : Obj), H a = none → Zc cls d oe → (∃ vs, oe.data = .fields vs) → t2 { nx := fun σ' H' => D.nx (σ'.set i none) H', rt := D.rt } (σ.set i (some (.ref a))) (upd H a (.frz oe (.ext fun h => h.get? a = some oe)))) ∧ (b = false → Wout cls d σ H)
section
variable {X : Cx} {x n : Str} {c : Value} {i : Nat} {body : List Stmt} {b₀ : Stmt} {suite : List Stmt} {np pos pos' : Pos} {tb : WX → TS} {t2 : TS} {Wout : WX}
end
@[simp] def suiteXR (tab : List (Str × Bool)) (i : Nat) (m2 : Mo Out) : Rt Out → Rt Out
  | .ok o ρ => .ok o ρ
  | .ex c (.tuple [.str f, x]) ρ => match tab.lookup c with
    | some true => match put i (.exc c f x) ρ with
      | some ρ1 => match m2 ρ1 with
        | .ok .nx ρ2 => nxt (put i .no ρ2)
        | .ok (.rt (.d y)) ρ2 => .ok (.rt (.d y)) ρ2
        | _ => .no
      | none => .no
    | some false => .ex c (.tuple [.str f, x]) ρ
    | none => .no
  | _ => .no
@[simp] def bTryR (tab : List (Str × Bool)) (i : Nat) (m m2 : Mo Out) : Mo Out := fun ρ => suiteXR tab i m2 (m ρ)
section
variable {X : Cx} {n : Nat} {W : XW} {Wx : WX} {x y : Str} {cv : Value} {tab : List (Str × Bool)} {i : Nat} {body : List Stmt} {b₀ : Stmt} {suite : List Stmt} {np pos pos' : Pos} {m m2 : Mo Out}
end
end Q
namespace Q
open PySem PySem.Spec PyProof.Rows L2 Gd
variable [Tbl]
/-! ### a call f(lambda: .., e): one more argument after the lambda -/
def thOf2 (N : Nat) (b : Addr → Rt D → Mo Out) : Addr → Rt D → D → Option D := fun f r d => match b f r (thS f :: .dat d :: List.replicate (N - 2) .no) with
  | .ok (.rt (.d x)) _ => some x
  | .ok .nx _ => some .none
  | _ => none
noncomputable def eLam2 (G : Addr → Rt D → D → Option D) (m : Mo R) (me : Mo (List R)) : Mo R := fun ρ => @dite _ (∃ d x, me ρ = .ok [.d d] ρ ∧ ∀ f, G f (toTh (m (datS ρ))) d = some x) (Classical.propDecidable _) (fun h => .ok (.d h.choose_spec.choose) ρ) fun _ => .no
/-- the def that gets a lambda and one more thing: whatever the lambda's call gives, its body is told -/
structure Gets2 (P : Program) (w : World) (K : PySem.W.Frag) (mg : Str → Option Value) (base : Heap) (k : Nat) (x : Str) (st : Stmt) (g : Addr) (N : List Str) (a : Str) (b : Addr → Rt D → Mo Out) : Prop where
  run : ∀ [tt : Tbl] (cdv : Value) (A : Around) (outer : List Env) (s : Shared) (H : Hp) (f : Addr) (r : Rt D), A.guards = some [] → Room k (A.deeper (envOfC x (defScope st) s.heap.objs.size g cdv)) →
    (∀ (Wx : WX) (pn : List (Addr × Obj)) (xe : Value → Shared → Prop) (p1 p2 : Pos), Takes ((cxOf CX0 P w K mg base N x (defScope st) g cdv A outer s H E0).nox.tr pn xe) Wx →
      XD ((cxOf CX0 P w K mg base N x (defScope st) g cdv A outer s H E0).nox.tr pn xe) 2 (wE K Wx) (.Call (.Name a p1) [] [] p2) (eThk f 0 r)) →
    XSs (cxOf CX0 P w K mg base N x (defScope st) g cdv A outer s H E0).nox 2 W0 (defBody st) (b f r)
section
variable {X : Cx} {n : Nat} {W : XW} {x a a2 : Str} {st : Stmt} {g c PT : Addr} {fd : FuncData} {N : List Str} {b : Addr → Rt D → Mo Out} {m : Mo R} {me : Mo (List R)} {ae : Expr} {prm : Arguments} {bd : Expr} {scp : Scope} {lp p pos : Pos} {k : Nat}
end
end Q
namespace Q
open PySem PySem.Spec PyProof.Rows L2 Gd
theorem Gets2.up {P : Program} {w : World} {K : PySem.W.Frag} {mg : Str → Option Value} {base : Heap} {k j : Nat} {x : Str} {st : Stmt} {g : Addr} {N : List Str} {a : Str} {b : Addr → Rt D → Mo Out} (G : Gets2 P w K mg base j x st g N a b) (h : j ≤ k) : Gets2 P w K mg base k x st g N a b :=
  ⟨fun cdv A outer s H f r hg hr act => G.run cdv A outer s H f r hg (hr.mono h) act⟩
end Q
namespace Q
open PySem PySem.Spec PyProof.Rows L2 Gd
variable [Tbl]
/-! ### a try whose clause has a suite that may return -/
/-- what is wished of an error of a try's body that a suite may use under the name in slot i -/
def wSuiteT (K : PySem.W.Frag) (c : Value) (i : Nat) (t2 : TS) (D : Ends) : WX := fun cls d σ H =>
  PySem.W.exmOne K cls c = some true ∧
    ∀ (a : Addr) (oe : Obj), H a = none → Zc cls d oe → (∃ vs, oe.data = .fields vs) → t2 { nx := fun σ' H' => D.nx (σ'.set i none) H', rt := D.rt } (σ.set i (some (.ref a))) (upd H a (.frz oe (.ext fun h => h.get? a = some oe)))
section
variable {X : Cx} {x n : Str} {c : Value} {i : Nat} {body : List Stmt} {b₀ : Stmt} {suite : List Stmt} {rest : List ExceptHandler} {np pos pos' : Pos} {tb : WX → TS} {t2 : TS}
theorem ps_try_suiteT (hx : X.ex = []) (hs : X.stack = X.env :: X.outer) (hf : X.env.frame = some X.env.locals) (hN : X.N.Nodup) (hi : X.N[i]? = some n) (hln : X.env.kindOf n = some .local) (hc : Names X x c)
    (hb : ∀ (W : WX) (pn : List (Addr × Obj)) (xe : Value → Shared → Prop), Takes (X.tr pn xe) W → PassesOwn (model X.prog X.w) X.A X.env xe → PSs (X.tr pn xe) body (tb W)) (hsu : ∀ (a : Addr) (pn : List (Addr × Obj)), PSs (X.suite a pn) (b₀ :: suite) t2) :
    PS X (.Try body (.ExceptHandler (some (.Name x np)) (some n) (b₀ :: suite) pos' :: rest) [] [] pos) (fun D σ H => tb (wSuiteT X.K c i t2 D) D σ H) := by
  refine ⟨fun pins s σ H D I h => wpAny_Try_except ?_⟩
  have ok := I.ok
  have frames : X.A.frames = some (X.env :: X.outer) := by rw [ok.frames, hs]
  have run := (hb (wSuiteT X.K c i t2 D) (X.pn ++ pins) (fun e s₁ => wpAny (model X.prog X.w) X.A (noteFrame e X.env) (fun _ s₂ => wpAny (model X.prog X.w) X.A (setFlight e none) (fun _ s₃ =>
    wpAny (model X.prog X.w) X.A (handleBy e X.env (.ExceptHandler (some (.Name x np)) (some n) (b₀ :: suite) pos' :: rest)) (SP X pins D) X.xe s₃) X.xe s₂) X.xe s₁) ?taken PassesOwn.looking).run [] s σ H D (I.toTry _) h
  case taken =>
    rintro u s1 ⟨a, B, s0, q0, σ1, H1, cls, d, rfl, J0, nb, up, sky, na, os, ag, eb, yes⟩
    have J : Inv X pins σ1 H1 s0 := J0.ofTry ok
    rw [hs] at sky
    refine Sky.land Zc.steady frames hf sky fun h3 fl up3 => ?_
    have J3 : Inv X pins σ1 H1 { s1 with heap := h3 } := J.landed nb fl.1 (up.trans up3) os ag
    obtain ⟨o3, v3, a3, z3, f3⟩ := fl.there
    have out : ∀ {h' : Heap} {o : Obj} {vs : Array Value}, h'.FunFrames B (X.env :: X.outer) → h'.get? a = some o → o.data = .fields vs → a ∉ frs (X.env :: X.outer) := fun {h' o vs} ff e dd m => by
      obtain ⟨_, o', e', hn⟩ := ff.mem m
      rw [e] at e'
      cases e'
      exact hn _ dd
    have nst := out fl.2.2.1 a3 f3
    have nL : a ≠ X.env.locals := fun y => nst (List.mem_filterMap.mpr ⟨X.env, List.mem_cons_self, by rw [hf, y]⟩)
    have nF : a ∉ X.fs := fun m => by
      obtain ⟨e, he, q⟩ := List.mem_filterMap.mp m
      exact nst (List.mem_filterMap.mpr ⟨e, List.mem_cons_of_mem _ he, q⟩)
    have nB : B.get? a = none := fl.2.1
    have nI : s0.heap.get? a = none := by
      cases q : s0.heap.get? a with
      | none => rfl
      | some o =>
        rw [nb a o q (by rw [hs]; exact nst)] at nB
        cases nB
    have n0 : X.s_0.heap.get? a = none := by
      cases q : X.s_0.heap.get? a with
      | none => rfl
      | some o =>
        obtain ⟨o', y⟩ := J.base.there a o q (by rw [hx]; exact fun w => nomatch w)
        rw [nI] at y
        cases y
    have npin : ∀ p ∈ X.pn ++ pins, p.1 ≠ a := fun p hp y => by
      obtain ⟨e, _⟩ := J.pin p hp
      rw [y, nI] at e
      cases e
    have S3 := J3.suite a3 f3 na nL nF
    refine wpAny_handleBy_cons (codeAny_handlers_test ?_) (by intro w; cases w)
    have LT : PySem.W.Looks (model X.prog X.w) h3 (typeOf (.ref a)) cls := fun A Q E s k q => wpAny_typeOf_ref (k _ _ a3) (by rw [z3.1]; exact q)
    have LM := PySem.W.exm_one (M := model X.prog X.w) J3.kIn LT eb
    have ask : ∀ {Q E : Value → Shared → Prop}, Q c { s1 with heap := h3 } → wpAny (model X.prog X.w) (X.A.mark (some (.ref a))) (eval (.Name x np) X.env) Q E { s1 with heap := h3 } := fun {Q E} q => by
      rcases hc with ⟨g, dbg, m | ⟨m, v, nn⟩⟩
      · exact ld_glob (X := X.suite a ((a, o3) :: (X.pn ++ pins))) S3 g m q dbg
      · exact ld_blt (X := X.suite a ((a, o3) :: (X.pn ++ pins))) S3 g m v q nn dbg
    refine ask (LM.here ?_)
    refine codeAny_handlers_suite_as (HandSPX.lands_againZ fl fun h4 fl4 up4 => ?_)
    have J4 : Inv X pins σ1 H1 { s1 with heap := h4 } := J.landed nb fl4.1 ((up.trans up3).trans up4) os ag
    obtain ⟨o4, v4, a4, z4, f4⟩ := fl4.there
    have S4 := J4.suite a4 f4 na nL nF
    refine store_ok (X := X.suite a ((a, o4) :: (X.pn ++ pins))) (v := .ref a) S4 hN hi (.inl hln) rfl (fun s5 S5 => ?_) (.inr hln)
    obtain ⟨e5, _⟩ := S5.pin (a, o4) (List.mem_append_left _ List.mem_cons_self)
    have S6 : Inv (X.suite a (X.pn ++ pins)) [] (σ1.set i (some (.ref a))) H1 s5 := ⟨ok.suite _ _, S5.os, S5.bare, S5.base, S5.loc, S5.cell, S5.free, S5.freeC, fun p hp => S5.pin p (by
      rw [List.append_nil] at hp ⊢
      exact List.mem_cons_of_mem _ hp), S5.hok, S5.len⟩
    have S7 := hold_thing (X := X.suite a (X.pn ++ pins)) S6 e5 ⟨_, f4⟩ na n0 nL (fun p hp => npin p (by
      rw [List.append_nil] at hp
      exact hp))
    refine wpAny_mono ((hsu a (X.pn ++ pins)).run [] s5 _ _ _ S7 (yes a o4 na z4 ⟨_, f4⟩)) (fun f s6 hsp => ?_) fun _ _ w => w.elim
    cases f with
    | next =>
      obtain ⟨σ6, H6, S8, q8⟩ := hsp
      have J6 : Inv X pins σ6 H6 s6 := ⟨ok, S8.os, S8.bare, S8.base, S8.loc, S8.cell, S8.free, S8.freeC, fun p hp => S8.pin p (by
        rw [List.append_nil]
        exact hp), S8.hok, S8.len⟩
      exact gone_ok J6 hN hi hln fun s7 J7 => ⟨_, _, J7, q8⟩
    | brk =>
      obtain ⟨_, _, _, w⟩ := hsp
      exact w.elim
    | cont =>
      obtain ⟨_, _, _, w⟩ := hsp
      exact w.elim
    | ret u =>
      obtain ⟨v, σ6, H6, S8, r8, q8⟩ := hsp
      have J6 : Inv X pins σ6 H6 s6 := ⟨ok, S8.os, S8.bare, S8.base, S8.loc, S8.cell, S8.free, S8.freeC, fun p hp => S8.pin p (by
        rw [List.append_nil]
        exact hp), S8.hok, S8.len⟩
      exact gone_ok J6 hN hi hln fun s7 J7 => ⟨v, _, _, J7, r8, q8⟩
  refine wpAny_mono run (fun f s1 hsp => ?_) fun e s1 w => w
  cases f with
  | next =>
    obtain ⟨σ', H', J, q⟩ := hsp
    exact wpAny_execs_nil ⟨σ', H', J.ofTry ok, q⟩
  | brk =>
    obtain ⟨σ', H', J, q⟩ := hsp
    exact ⟨σ', H', J.ofTry ok, q⟩
  | cont =>
    obtain ⟨σ', H', J, q⟩ := hsp
    exact ⟨σ', H', J.ofTry ok, q⟩
  | ret u =>
    obtain ⟨v, σ', H', J, r, q⟩ := hsp
    exact ⟨v, σ', H', J.ofTry ok, r, q⟩
end
@[simp] def suiteXT (tab : List (Str × Bool)) (i : Nat) (m2 : Mo Out) : Rt Out → Rt Out
  | .ok o ρ => .ok o ρ
  | .ex c (.tuple [.str f, x]) ρ => match tab.lookup c with
    | some true => match put i (.exc c f x) ρ with
      | some ρ1 => match m2 ρ1 with
        | .ok .nx ρ2 => nxt (put i .no ρ2)
        | .ok (.rt (.d y)) ρ2 => .ok (.rt (.d y)) ρ2
        | _ => .no
      | none => .no
    | _ => .no
  | _ => .no
@[simp] def bTryT (tab : List (Str × Bool)) (i : Nat) (m m2 : Mo Out) : Mo Out := fun ρ => suiteXT tab i m2 (m ρ)
section
variable {X : Cx} {n : Nat} {W : XW} {x y : Str} {cv : Value} {tab : List (Str × Bool)} {i : Nat} {body : List Stmt} {b₀ : Stmt} {suite : List Stmt} {rest : List ExceptHandler} {np pos pos' : Pos} {m m2 : Mo Out}
theorem xs_tryT (hni : n ≤ i) (hx : X.ex = []) (hs : X.stack = X.env :: X.outer) (hf : X.env.frame = some X.env.locals) (hN : X.N.Nodup) (hi : X.N[i]? = some y) (hln : X.env.kindOf y = some .local) (hc : Names X x cv)
    (hT : ∀ c b, tab.lookup c = some b → ∀ C, PySem.W.nsIn X.K mainGlobals c = some (some (.ref C)) → PySem.W.exmOne X.K (.ref C) cv = some b)
    (hb : ∀ (W' : WX) (pn : List (Addr × Obj)) (xe : Value → Shared → Prop), Takes (X.tr pn xe) W' → PassesOwn (model X.prog X.w) X.A X.env xe → XSs (X.tr pn xe) n (wE X.K W') body m) (hsu : ∀ (a : Addr) (pn : List (Addr × Obj)), XSs (X.suite a pn) n (fun _ _ _ _ => False) (b₀ :: suite) m2) :
    XS X n W (.Try body (.ExceptHandler (some (.Name x np)) (some y) (b₀ :: suite) pos' :: rest) [] [] pos) (bTryT tab i m m2) :=
  weakS (ps_try_suiteT (tb := fun W' => tS X.K n (wE X.K W') m) (t2 := tS X.K n (fun _ _ _ _ => False) m2) hx hs hf hN hi hln hc hb hsu) fun E σ H ⟨ρ, G, h⟩ => by
    refine ⟨ρ, G, ?_⟩
    have h : AftS X.K n W E H σ ρ (suiteXT tab i m2 (m ρ)) := h
    show AftS X.K n (wE X.K (wSuiteT X.K cv i (tS X.K n (fun _ _ _ _ => False) m2) E)) E H σ ρ (m ρ)
    generalize m ρ = r at h
    cases r with
    | no => exact h
    | ok o ρ' => cases o <;> exact h
    | ex c d ρ' =>
      intro σ' H' st C dd f v d' ed nC hd im
      subst ed
      have h : AftS X.K n W E H σ ρ (match tab.lookup c with
        | some true => (match put i (.exc c f d') ρ' with
          | some ρ1 => (match m2 ρ1 with
            | .ok .nx ρ2 => nxt (put i .no ρ2)
            | .ok (.rt (.d y)) ρ2 => .ok (.rt (.d y)) ρ2
            | _ => .no)
          | none => .no)
        | _ => .no) := h
      cases et : tab.lookup c with
      | none =>
        rw [et] at h
        exact h.elim
      | some b =>
        cases b with
        | false =>
          rw [et] at h
          exact h.elim
        | true =>
          rw [et] at h
          refine ⟨hT c true et C nC, fun a oe na zc fe => ?_⟩
          have h : AftS X.K n W E H σ ρ (match put i (.exc c f d') ρ' with
            | some ρ1 => (match m2 ρ1 with
              | .ok .nx ρ2 => nxt (put i .no ρ2)
              | .ok (.rt (.d y)) ρ2 => .ok (.rt (.d y)) ρ2
              | _ => .no)
            | none => .no) := h
          cases e3 : put i (.exc c f d') ρ' with
          | none =>
            rw [e3] at h
            exact h.elim
          | some ρ3 =>
            rw [e3] at h
            obtain ⟨li, rfl⟩ := put_some e3
            have h : AftS X.K n W E H σ ρ (match m2 (ρ'.set i (.exc c f d')) with
              | .ok .nx ρ2 => nxt (put i .no ρ2)
              | .ok (.rt (.d y)) ρ2 => .ok (.rt (.d y)) ρ2
              | _ => .no) := h
            have st1 := st.trans (Stp.same (n := n) st.good (same_upd (o := .frz oe (.ext fun h => h.get? a = some oe)) na))
            have hdn : dd ≠ a := ne_of_none hd na
            have xa : ExcAt X.K (upd H' a (.frz oe (.ext fun h => h.get? a = some oe))) a c f d' := .inl ⟨dd, C, oe, _, v, upd_same, zc.1, zc.2, fe, by rw [upd_ne hdn]; exact hd, nC, im.same (same_upd na)⟩
            have st2 := st1.set_exc hni li xa
            refine ⟨_, st2.good, ?_⟩
            cases e5 : m2 (ρ'.set i (.exc c f d')) with
            | no =>
              rw [e5] at h
              exact h.elim
            | ex c2 d2 ρ5 =>
              rw [e5] at h
              exact h.elim
            | ok o ρ5 =>
              rw [e5] at h
              cases o with
              | nx =>
                intro σ6 H6 s6
                have h : AftS X.K n W E H σ ρ (nxt (put i .no ρ5)) := h
                obtain ⟨ρ6, e6, h6⟩ := AftS.nxt h
                obtain ⟨l6, rfl⟩ := put_some e6
                exact h6 _ _ ((st2.trans s6).set_no hni l6)
              | bk => exact h.elim
              | ct => exact h.elim
              | rt r =>
                cases r with
                | v i => exact h.elim
                | d y =>
                  intro v6 σ6 H6 s6 rv
                  have h : ∀ v σ' H', Stp X.K n H σ ρ H' σ' ρ5 → RR X.K H' σ' v (.d y) → E.rt v H' := h
                  exact h v6 σ6 H6 (st2.trans s6) rv
              | rf r => exact h.elim
end
end Q
namespace Q
open PySem PySem.Spec PyProof.Rows L2 Gd
variable [Tbl]
/-! ### {k: v}, a key that is a whole number or a text -/
@[simp] def fDisp1 (fk fv : Mo R) : Mo Ob := fun ρ => (fk ρ).bind fun r ρ1 => (fv ρ1).bind fun v ρ2 => match (look ρ1 r).bind keyOf, v with
  | some k, .d x => .ok (.dk [(keyD k, x)]) ρ2
  | _, _ => .no
section
variable {X : Cx} {n : Nat} {W : XW}
theorem vw_keyOf {K : PySem.W.Frag} {H : Hp} {x : V} {d : D} {k : Key} (h : Vw K H x d) (e : keyOf d = some k) : x = kV k := by
  cases d with
  | int i =>
    cases e
    exact h.int
  | str z =>
    cases e
    exact h.str
  | _ => cases e
theorem xf_disp1 {k v : Expr} {pos : Pos} {fk fv : Mo R} (hk : XD X n W k fk) (hv : XD X n W v fv) : XF X n W (.Dict [some k] [v] pos) (fDisp1 fk fv) := weakE (pe_disp (pps_cons hk hv pps_nil) rfl rfl (by simp) (by show 1 ≤ 15; decide)) fun σ H Q ⟨ρ, G, h⟩ => fun p hp => by
  have s0 : Stp X.K n H σ ρ (upd H p (.dK [])) σ ρ := Stp.same G (same_upd hp)
  have no0 : ¬ Own σ ρ p := new_own G hp
  refine ⟨ρ, s0.good, ?_⟩
  unfold fDisp1 at h
  cases ek : fk ρ with
  | no =>
    rw [ek] at h
    exact h.elim
  | ex c d ρ1 =>
    rw [ek] at h
    exact fun H' st => h H' (s0.trans st)
  | ok r ρ1 =>
    rw [ek] at h
    refine fun H1 s1 x rx => ⟨ρ1, s1.good, ?_⟩
    have h : Aft X.K n W H σ ρ ((fv ρ1).bind _) _ := h
    cases ev : fv ρ1 with
    | no =>
      rw [ev] at h
      exact h.elim
    | ex c d ρ2 =>
      rw [ev] at h
      exact fun H' st => h H' ((s0.trans s1).trans st)
    | ok v ρ2 =>
      rw [ev] at h
      refine fun H2 s2 y ry => ?_
      dsimp only [Rt.bind] at h
      split at h
      · next kk d ek =>
        obtain ⟨dk, ed, ek⟩ := Option.bind_eq_some_iff.mp ek
        have st := s1.trans s2
        have e2 : H2 p = some (.dK []) := st.kept p _ upd_same no0 (fun ps z => nomatch z)
        have ed1 : look ρ1 r = some dk := ed
        have ex : x = kV kk := vw_keyOf (rx.see s1.good ed1) ek
        cases ry with
        | d im =>
          have no2 : ¬ Own σ ρ2 p := fun z => (st.news p z).elim no0 fun z => by
            rw [upd_same] at z
            cases z
          refine ⟨e2, [(kk, y)], by rw [ex]; rfl, by show 1 ≤ 15; decide, ?_⟩
          have s3 := s0.trans st
          have rk : ObR X.K H2 (.dK [(kk, y)]) (.dk [(keyD kk, d)]) := .dk (.cons im .nil)
          have s4 := s3.beside hp e2 (u := .dK [(kk, y)]) trivial rk.noTab no2
          have g4 : Grow H2 (upd H2 p (.dK [(kk, y)])) := grow_upd e2 trivial (fun q z => nomatch z)
          exact h _ s4 p _ hp upd_same (.dk (.cons (im.grow g4) .nil)) no2
      · exact h.elim
end
end Q
namespace Q
open PySem PySem.Spec PyProof.Rows L2 Gd
/-! ### a lambda's function as a thing that is known (towards lists of lambdas) -/
section
variable {X : Cx} {pins : List (Addr × Obj)} {σ : L2.St} {H : Hp} {s : Shared}
theorem lam_newL {TT : List (Addr × Str)} {cc PT : Addr} {prm : Arguments} {bd : Expr} {scp : Scope} {lp : Pos} {EE : Value → Shared → Prop} {QQ : Value → Shared → Prop} (II : Inv X pins σ H s) (tb : LamX.TabB X.base X.mg cc PT) (hcc : X.env.code = .ref cc)
    (mT : (PT, X.env.qual ++ "<lambda>") ∈ TT) (uT : ∀ p ∈ TT, p.1 = PT → p.2 = X.env.qual ++ "<lambda>") (tT : LamX.Tabs TT H) (dT : defaultsOf prm X.env = ([], [])) (fT : ∀ y ∈ scp.names, y.2 = .free → ∃ c, X.env.cells.lookup y.1 = some c)
    (go : ∀ (f k : Addr) (pm ctv : Value) (G : Hp) (s2 : Shared), Inv X pins σ G s2 → LamX.ExtN H G → LamX.Tabs TT G → (∀ b, G b = none → H b = none) →
      s2.heap.get? f = some (PySem.W.kla_obj "<lambda>" (X.env.qual ++ "<lambda>") prm bd scp (cloFrom X.env.cells scp.names []) pm k ctv) → G f = none → f ∉ frs X.stack → G k = some (LamX.CodeO k (X.env.qual ++ "<lambda>")) → s.heap.objs.size ≤ f → QQ (.ref f) s2) :
    wpAny (model X.prog X.w) X.A (eval (.Lambda prm bd scp lp) X.env) QQ EE s := by
  obtain ⟨tps, eP, et, ea⟩ := tT _ mT
  have bT : s.heap.BuiltinsAt X.mg PT := tb.bm.keeps II.bk
  have gP : s.heap.get? PT = some { cls := .none, data := .fields tps } := II.hok PT _ eP
  have far : ∀ f, s.heap.objs.size ≤ f → f ∉ frs X.stack := fun f le z => (List.mem_cons.mp (II.stkSub _ z)).elim (fun e => absurd (e ▸ II.lt) (Nat.not_lt.mpr le)) (II.nofs le)
  refine PySem.W.kla_eval dT ?_
  cases hc : codeAmong lp tps.toList with
  | some cv =>
    obtain ⟨k, rfl, hk⟩ := ea lp cv hc
    refine PySem.W.kla_makeFunctionHit (clos := cloFrom X.env.cells scp.names []) (mg := X.mg) (c := cc) (P := PT) (ps := tps) (closure_ok fT) II.ok.glob (II.mod.glob.keeps II.bk) hcc (tb.code.keeps II.bk) gP et hc bT fun ctv g t kp le => ?_
    exact go g.objs.size k ((X.mg "__name__").getD .none) ctv H _ (II.kept fun b o e => Heap.get?_push_of_some _ (kp b o e)) (LamX.ExtN.refl H) tT (fun b e => e) (Heap.get?_push_size _ rfl) (II.hok.fresh le) (far _ le) hk le
  | none =>
    refine PySem.W.kla_makeFunction (clos := cloFrom X.env.cells scp.names []) (mg := X.mg) (c := cc) (P := PT) (ps := tps) (closure_ok fT) II.ok.glob (II.mod.glob.keeps II.bk) hcc (tb.code.keeps II.bk) gP et hc tb.gP bT fun k ctv g t ex ge lt rec_ gt => ?_
    obtain ⟨k2, oc, vs, tq, e2, hoc, hd, hv⟩ := rec_
    cases e2
    have le : s.heap.objs.size ≤ g.objs.size := Nat.le_trans ge (Nat.le_of_lt lt)
    have nk : H k = none := II.hok.fresh ge
    have nPk : PT ≠ k := ne_of_none eP nk
    have inv2 := LamX.inv_table (t' := t) (more := #[rawInt lp.line, rawInt lp.col, .ref k]) (q := X.env.qual ++ "<lambda>") (h' := g.push (PySem.W.kla_obj "<lambda>" (X.env.qual ++ "<lambda>") prm bd scp (cloFrom X.env.cells scp.names []) ((X.mg "__name__").getD .none) k ctv)) II eP
      (fun b o nb e => Heap.get?_push_of_some _ (ex b o nb e)) (Heap.get?_push_of_some _ gt) ge ⟨oc, vs, tq, Heap.get?_push_of_some _ hoc, hd, hv⟩
    have at1 : ∀ b, b ≠ PT → b ≠ k → upd (upd H PT (.tbl (tps ++ #[rawInt lp.line, rawInt lp.col, .ref k]))) k (LamX.CodeO k (X.env.qual ++ "<lambda>")) b = H b := fun b n1 n2 => by rw [upd_ne n2, upd_ne n1]
    have eN : LamX.ExtN H (upd (upd H PT (.tbl (tps ++ #[rawInt lp.line, rawInt lp.col, .ref k]))) k (LamX.CodeO k (X.env.qual ++ "<lambda>"))) := fun b o e n => by
      rw [at1 b (fun z => n tps (Option.some.inj (e.symm.trans (z ▸ eP)))) (ne_of_none e nk)]
      exact e
    refine go g.objs.size k ((X.mg "__name__").getD .none) ctv _ _ inv2 eN (fun p hp => ?_) (fun b e => ?_) (Heap.get?_push_size _ rfl) ?_ (far _ le) upd_same le
    · by_cases hb : p.1 = PT
      · refine ⟨tps ++ #[rawInt lp.line, rawInt lp.col, .ref k], by rw [hb, upd_ne nPk, upd_same], ?_, fun ps cv hcv => ?_⟩
        · have eL : (tps ++ #[rawInt lp.line, rawInt lp.col, Value.ref k]).toList = tps.toList ++ [rawInt lp.line, rawInt lp.col, .ref k] := by simp
          rw [eL]
          exact PySem.TriplesOk_snoc _ _ _ _ et
        · have eL : (tps ++ #[rawInt lp.line, rawInt lp.col, Value.ref k]).toList = tps.toList ++ [rawInt lp.line, rawInt lp.col, .ref k] := by simp
          rw [eL] at hcv
          rw [uT p hp hb]
          rcases LamX.among_app _ et hcv with z | z
          · obtain ⟨c0, q1, q2⟩ := ea ps cv z
            exact ⟨c0, q1, eN _ _ q2 LamX.codeO_ne⟩
          · exact ⟨k, z, upd_same⟩
      · obtain ⟨us, a1, a2, a3⟩ := tT p hp
        refine ⟨us, by rw [upd_ne (ne_of_none a1 nk), upd_ne hb]; exact a1, a2, fun ps cv hcv => ?_⟩
        obtain ⟨c0, q1, q2⟩ := a3 ps cv hcv
        exact ⟨c0, q1, eN _ _ q2 LamX.codeO_ne⟩
    · by_cases h1 : b = k
      · rw [h1, upd_same] at e
        cases e
      · by_cases h2 : b = PT
        · rw [h2, upd_ne nPk, upd_same] at e
          cases e
        · rw [at1 b h2 h1] at e
          exact e
    · rw [at1 _ (Nat.ne_of_gt (Nat.lt_of_lt_of_le (Heap.lt_size gP) le)) (Nat.ne_of_gt lt)]
      exact II.hok.fresh le
/-- the thing at a, fresh and no cell, is known from now on -/
theorem hold_any {a : Addr} {oe : Obj} (I : Inv X pins σ H s) (ea : s.heap.get? a = some oe) (fe : ∀ v, oe.data ≠ .cell v) (na : H a = none) (n0 : X.s_0.heap.get? a = none) (nL : a ≠ X.env.locals) (np : ∀ p ∈ X.pn ++ pins, p.1 ≠ a) :
    Inv X pins σ (upd H a (.frz oe (.ext fun h => h.get? a = some oe))) s := by
  have old : ∀ {b : Addr} {u : HO}, H b = some u → upd H a (.frz oe (.ext fun h => h.get? a = some oe)) b = some u := fun {b u} q => by
    rw [upd_ne (ne_of_none q na)]
    exact q
  have nw : ∀ {b : Addr}, b ≠ a → H b = none → upd H a (.frz oe (.ext fun h => h.get? a = some oe)) b = none := fun {b} ne q => by
    rw [upd_ne ne]
    exact q
  refine ⟨I.ok, I.os, I.bare, ⟨I.base.keep, I.base.slot, fun b o q n x => ?_, I.base.there, fun b xs q => old (I.base.tups b xs q), fun b o u q => old (I.base.frzs b o u q), fun b ps q => ?_⟩, I.loc, I.cell, nw nL.symm I.free, fun x c q => ?_, fun p hp => ?_, fun b u q => ?_, I.len⟩
  · refine nw (fun z => ?_) (I.base.free b o q n x)
    rw [z, n0] at q
    cases q
  · obtain ⟨m, z⟩ := I.base.tbls b ps q
    exact ⟨m, old z⟩
  · refine nw (fun z => ?_) (I.freeC x c q)
    obtain ⟨v, oc, hc, hd⟩ := I.cell x c q
    rw [z, ea] at hc
    cases hc
    exact fe _ hd
  · obtain ⟨h1, h2, h3, h4, h5⟩ := I.pin p hp
    exact ⟨h1, nw (np p hp) h2, h3, h4, h5⟩
  · by_cases hb : b = a
    · subst hb
      rw [upd_same] at q
      cases q
      exact ⟨ea, ea, ⟨oe, ea⟩, fun h1 h2 z k => k _ z⟩
    · rw [upd_ne hb] at q
      exact (I.hok b u q).stay (fun _ _ _ z => z) (fun c z => old z) fun c xs z => old z
/-- the object of a lambda's function -/
abbrev lamO (X : Cx) (prm : Arguments) (bd : Expr) (scp : Scope) (pm : Value) (k : Addr) (ctv : Value) : Obj := PySem.W.kla_obj "<lambda>" (X.env.qual ++ "<lambda>") prm bd scp (cloFrom X.env.cells scp.names []) pm k ctv
def FunO (f : Addr) (o : Obj) : HO := .frz o (.ext fun h => h.get? f = some o)
def tLamF (X : Cx) (TT : List (Addr × Str)) (prm : Arguments) (bd : Expr) (scp : Scope) : TE := fun σ H Q => LamX.Tabs TT H ∧
  ∀ (f k : Addr) (pm ctv : Value) (G : Hp), LamX.ExtN H G → LamX.Tabs TT G → (∀ b, G b = none → H b = none) → H f = none → f ∉ frs X.stack → G f = some (FunO f (lamO X prm bd scp pm k ctv)) → G k = some (LamX.CodeO k (X.env.qual ++ "<lambda>")) → Q (.ref f) G
theorem pe_lamF {TT : List (Addr × Str)} {cc PT : Addr} {prm : Arguments} {bd : Expr} {scp : Scope} {lp : Pos} (tb : LamX.TabB X.base X.mg cc PT) (hcc : X.env.code = .ref cc) (hex : X.ex = [])
    (mT : (PT, X.env.qual ++ "<lambda>") ∈ TT) (uT : ∀ p ∈ TT, p.1 = PT → p.2 = X.env.qual ++ "<lambda>") (dT : defaultsOf prm X.env = ([], [])) (LS : LamX.LamS X.env.scope scp) :
    PE X (.Lambda prm bd scp lp) (tLamF X TT prm bd scp) := by
  refine ⟨fun pins s σ H Q I ⟨tT, q⟩ => ?_⟩
  refine lam_newL I tb hcc mT uT tT dT (LS.has I.ok) fun f k pm ctv G s2 I2 eN T2 lv gf nf nfr hco le => ?_
  have fresh : s.heap.get? f = none := by
    cases e : s.heap.get? f with
    | none => rfl
    | some o => exact absurd (Heap.lt_size e) (Nat.not_lt.mpr le)
  have n0 : X.s_0.heap.get? f = none := by
    cases e : X.s_0.heap.get? f with
    | none => rfl
    | some o =>
      obtain ⟨o', y⟩ := I.base.there f o e (by rw [hex]; exact fun w => nomatch w)
      rw [fresh] at y
      cases y
  have nL : f ≠ X.env.locals := fun z => by
    have := I.lt
    rw [← z] at this
    exact absurd this (Nat.not_lt.mpr le)
  have np : ∀ p ∈ X.pn ++ pins, p.1 ≠ f := fun p hp z => by
    obtain ⟨e, _⟩ := I.pin p hp
    rw [z, fresh] at e
    cases e
  have I3 := hold_any I2 gf (fun v z => nomatch z) nf n0 nL np
  have nk : f ≠ k := fun z => by
    rw [z, hco] at nf
    cases nf
  refine ⟨.ref f, _, I3, rfl, q f k pm ctv _ (fun b o e n => ?_) (fun p hp => ?_) (fun b e => ?_) (lv f nf) nfr upd_same (by rw [upd_ne (Ne.symm nk)]; exact hco)⟩
  · have := eN b o e n
    rw [upd_ne (ne_of_none this nf)]
    exact this
  · exact LamX.Tabs.ext T2 (same_upd nf) p hp
  · by_cases hb : b = f
    · rw [hb, upd_same] at e
      cases e
    · rw [upd_ne hb] at e
      exact lv b e
end
end Q
namespace Q
open PySem PySem.Spec PyProof.Rows L2 Gd
section
variable {X : Cx} {pins : List (Addr × Obj)} {σ : L2.St} {H : Hp} {s : Shared}
/-- a(), in the def that got the lambda -/
theorem lam_actH {Ng : List Str} {qg : Str} {sg : Scope} {g f k : Addr} {cdg pm ctv : Value} {prm : Arguments} {bd : Expr} {scp : Scope} {j i : Nat} {a : Str} {pn : List (Addr × Obj)} {xe : Value → Shared → Prop} {Wx : WX} {tb : L2.XK → TE} {p1 p2 : Pos}
    (II : Inv X pins σ H s) (LS : LamX.LamS X.env.scope scp)
    (eb : bindArgs (PySem.W.kla_fn "<lambda>" (X.env.qual ++ "<lambda>") prm bd scp (cloFrom X.env.cells scp.names []) pm (.ref k) ctv) ⟨[], []⟩ = pure [])
    (tk : Takes ((cxOf CX0 X.prog X.w X.K X.mg X.base Ng qg sg g cdg X.A X.stack s H E0).nox.tr pn xe) Wx) (room : Room (j + 1) (X.A.deeper (envOfC qg sg s.heap.objs.size g cdg)))
    (B : ∀ (A : Around) (outer : List Env) (s0 : Shared) (H0 : Hp) (E : L2.XK), A.guards = X.A.guards → Room j (A.deeper (LamX.lamEnv X scp s0.heap.objs.size f k)) → PE (LamX.lamCx X A outer s0 H0 E scp f k) bd (tb E))
    (hN : Ng[i]? = some a) (hv : Vis sg a) (hd : (a == ("__debug__" : Str)) = false) (hcd : (a == ("__classdict__" : Str)) = false) :
    PE ((cxOf CX0 X.prog X.w X.K X.mg X.base Ng qg sg g cdg X.A X.stack s H E0).nox.tr pn xe) (.Call (.Name a p1) [] [] p2)
      (fun σZ HZ Q => HZ f = some (FunO f (lamO X prm bd scp pm k ctv)) ∧ σZ[i]? = some (some (.ref f)) ∧ HZ k = some (LamX.CodeO k (X.env.qual ++ "<lambda>")) ∧ tb (fun cls d H' => Wx cls d σZ H') σ HZ Q) := by
  refine ⟨fun pinsZ sZ σZ HZ Q IZ ⟨w0, w1, w2, w3⟩ => ?_⟩
  refine wpAny_Call_Name_kw (thn ((pe_var (pos := p1) (i := i) hN hv hd hcd).run pinsZ sZ σZ HZ (fun v G => v = .ref f ∧ G = HZ) IZ ⟨.ref f, w1, rfl, rfl⟩) fun u sB ⟨v, G, IB, rB, e1, e2⟩ => ?_)
  subst e1
  subst e2
  obtain rfl : u = Value.ref f := rB
  have gB : sB.heap.get? f = some (lamO X prm bd scp pm k ctv) := (IB.hok f _ w0).1
  refine PySem.W.callWith_F0 ⟨_, _, _, _, gB⟩ ?_
  have un : Un (frs X.stack) [] H G s.heap sB.heap := IB.base
  obtain ⟨⟨oc, vs, t, hoc, hdc, hvc⟩, _, _⟩ := IB.hok k _ w2
  have main : codeAny (model X.prog X.w) (X.A.deeper (envOfC qg sg s.heap.objs.size g cdg)) (.call (.ref f) ⟨[], []⟩) (CR (L2.CX X.prog X.w) (envOfC qg sg s.heap.objs.size g cdg :: X.stack) X.prog X.w G sB Q fun cls d H' => Wx cls d σZ H') sB := by
    refine PySem.W.kla_callFunE room.depth gB rfl LS.co LS.gen rfl ⟨k, oc, vs, t, rfl, hoc, hdc, hvc⟩ ?_
    rw [eb]
    refine wpAny_pure (wpAny_newFunctionEnv (fun y hy => (LS.own y hy).2) (fun y hy => nomatch hy) (fun hx ns sb => ⟨IB.nolimit.fresh _ sb, ?_⟩) LS.kind)
    have kp : ∀ b o, sB.heap.get? b = some o → hx.get? b = some o := fun b o e => sb.extBut b o (Nat.ne_of_lt (Heap.lt_size e)) (Heap.get?_push_of_some _ e)
    have J := LamX.lam_start2 (A := X.A.deeper (envOfC qg sg s.heap.objs.size g cdg)) (outer := envOfC qg sg s.heap.objs.size g cdg :: X.stack) (E := fun cls d H' => Wx cls d σZ H') (f := f) (c' := k) (tk := sB.toks + 0) II LS IB.env0 room.hd un ns kp
    refine PySem.W.kla_codeExpr (wpAny_mono ((B (X.A.deeper (envOfC qg sg s.heap.objs.size g cdg)) (envOfC qg sg s.heap.objs.size g cdg :: X.stack) sB G (fun cls d H' => Wx cls d σZ H') rfl (room.deeper _)).run [] _ _ G Q J w3) (fun v s' hq => ?_) fun e s' hq => hq)
    obtain ⟨w', H', J', rv, q⟩ := hq
    exact ⟨w', H', J'.os, J'.bare, J'.base, J'.hok, rv, q⟩
  refine wpAny_call (codeAny_mono main fun r s' hq => ?_)
  cases r with
  | error e => exact tk _ _ (XE.of_call IB (fun cls d H' w => w) hq)
  | ok fl =>
    cases fl with
    | ret u => exact IB.after hq
    | next => exact False.elim hq
    | brk => exact False.elim hq
    | cont => exact False.elim hq
end
end Q
namespace Q
open PySem PySem.Spec PyProof.Rows L2 Gd
variable [Tbl]
/-! ### a call f(g), where the variable g holds a lambda's function -/
noncomputable def eLamV (G : Addr → Rt D → Option D) (j : Nat) (f : Addr) (m : Mo R) : Mo R := fun ρ => match ρ[j]? with
  | some (.exc c _ (.dict [(.tuple [], .int a)])) => if c = "" ∧ a = ((f : Nat) : Int) then @dite _ (∃ x, ∀ f, G f (toTh (m (datS ρ))) = some x) (Classical.propDecidable _) (fun h => .ok (.d h.choose) ρ) fun _ => .no else .no
  | _ => .no
section
variable {X : Cx} {n : Nat} {W : XW} {x a y : Str} {jx : Nat} {f k : Addr} {pm ctv : Value} {st : Stmt} {g : Addr} {fd : FuncData} {N : List Str} {b : Addr → Rt D → Mo Out} {m : Mo R} {prm : Arguments} {bd : Expr} {scp : Scope} {p py pos : Pos} {kk : Nat}
theorem xd_lamV (F : Fun X.K x x st g fd) (S : FnScope N [a] (defScope st)) (hN : N[0]? = some a) (hv : Vis (defScope st) a) (gets : Gets X.prog X.w X.K X.mg X.base kk x st g N a b)
    (jN : X.N[jx]? = some y) (vy : Vis X.env.scope y) (known : ∀ H, Tbl.G H → H f = some (FunO f (lamO X prm bd scp pm k ctv)) ∧ H k = some (LamX.CodeO k (X.env.qual ++ "<lambda>"))) (gd : X.A.guards = some []) (room : Room (kk + 2) X.A) (hg : Gl X x) (hm : X.mg x = some (.ref g)) (hk : PySem.W.keepIn X.K (.ref g) = true) (hb : Binds X.K fd [a] [])
    (LS : LamX.LamS X.env.scope scp) 
    (eb : bindArgs (PySem.W.kla_fn "<lambda>" (X.env.qual ++ "<lambda>") prm bd scp (cloFrom X.env.cells scp.names []) pm (.ref k) ctv) ⟨[], []⟩ = pure [])
    (B : ∀ (A : Around) (outer : List Env) (s0 : Shared) (H0 : Hp) (E : L2.XK), A.guards = some [] → Room kk (A.deeper (LamX.lamEnv X scp s0.heap.objs.size f k)) → XD (LamX.lamCx X A outer s0 H0 E scp f k) 0 (wE X.K fun cls dd _ H => E cls dd H) bd m)
    (hdy : (y == ("__debug__" : Str)) = false := by decide) (hcy : (y == ("__classdict__" : Str)) = false := by decide) (hdb : (x == ("__debug__" : Str)) = false := by decide) (hd : (a == ("__debug__" : Str)) = false := by decide) (hcd : (a == ("__classdict__" : Str)) = false := by decide) :
    XD X n W (.Call (.Name x p) [.Name y py] [] pos) (eLamV (thOf N.length b) jx f m) := by
  refine ⟨fun pins s σ H Q I ⟨ρ, G, h⟩ => ?_⟩
  unfold eLamV at h
  split at h
  case h_2 => exact h.elim
  next c0 q0 i0 e0 =>
  split at h
  case isFalse => exact h.elim
  next hi =>
  have sj : σ[jx]? = some (some (.ref f)) := by
    obtain ⟨a0, s0, xa⟩ := G.exc _ _ _ _ e0
    have ea := exc_thk xa
    rw [hi.2] at ea
    have ea : f = a0 := Int.ofNat.inj ea
    rw [ea]
    exact s0
  by_cases hx : ∃ x, ∀ f, thOf N.length b f (toTh (m (datS ρ))) = some x
  case neg =>
    rw [dif_neg hx] at h
    exact h.elim
  rw [dif_pos hx] at h
  have hr := hx.choose_spec
  generalize hx.choose = res at h hr
  have h : ∀ H', Stp X.K n H σ ρ H' σ ρ → ∀ v, RR X.K H' σ v (.d res) → Q v H' := h
  obtain ⟨hF, hK⟩ := known H G.tab.2
  refine wpAny_Call_Name_kw (ld_glob I hg hm ?_ hdb)
  refine PySem.W.callWith_K (h₀ := X.base) I.ok.mod.kin hk ?_ (by rfl) (by rfl)
  show wpAny _ _ (spliced ((false, eval (.Name y py) X.env) :: backTo pos (starEach [] X.env))) _ _ s
  refine Calls.spliced_cons (thn ((pe_var (pos := py) (i := jx) jN vy hdy hcy).run pins s σ H (fun v G => v = .ref f ∧ G = H) I ⟨.ref f, sj, rfl, rfl⟩) fun u s2 ⟨v0, H0, I2, rv0, ev0, eH0⟩ => ?_)
  subst ev0
  subst eH0
  obtain rfl : u = Value.ref f := rv0
  refine Calls.spliced_nil ⟨I2.kIn, ?_⟩
  have rc : codeAny (model X.prog X.w) X.A (.call (.ref g) ⟨[.ref f], []⟩) (CR CX0 X.stack X.prog X.w H0 s2 Q E0) s2 := by
    obtain ⟨oc, od, kV, doc, pm2, an, cdv, ct, osl, rfl, lk, hcd2⟩ := F.ex
    have env0 := I2.env0
    have kin : X.K.In s2.heap := I2.kIn
    have nol : s2.heap.NoLimit := I2.nolimit
    refine codeAny_call_function room.depth (kin _ _ lk) rfl S.co S.gen rfl (PySem.W.codeRec_of kin hcd2) (hb s2 [.ref f] kin rfl _ _ _ _ ?_)
    refine wpAny_newFunctionEnv_cells S.kind ?_ fun env ee s3 inn => ?_
    · rintro ⟨y, v⟩ hy
      refine (S.par y (List.of_mem_zip hy).1).elim Or.inl fun q => Or.inr ⟨q, ?_⟩
      exact PySem.W.cellsFrom_some _ _ _ (Or.inl q)
    subst ee
    refine ⟨nol.keeps inn.toInCall.keep, codeAny_func ?_⟩
    have room1 : Room (kk + 1) (X.A.deeper (envOfC x (defScope st) s2.heap.objs.size g cdv)) := Room.deeper (k := kk + 1) room _
    have body := gets.run (tt := ghoT H0) cdv X.A X.stack s2 H0 f (toTh (m (datS ρ))) gd (room1.mono (Nat.le_succ kk)) (fun Wx pn xe p1 p2 tk => by
      refine weakE (lam_actH (i := 0) (p1 := p1) (p2 := p2) (tb := fun E => tX X.K 0 (wE X.K fun cls dd _ H => E cls dd H) m) I2 LS eb tk room1 (fun A outer s0 H9 E g0 r0 => B A outer s0 H9 E (g0.trans gd) r0) hN hv hd hcd) fun σZ HZ QZ hz => ?_
      obtain ⟨ρZ, GZ, hz⟩ := hz
      have gZ : Grow H0 HZ := (@Good.tab (ghoT H0) _ _ _ _ GZ).2
      unfold eThk at hz
      split at hz
      · next c0 q0 i0 e0 =>
        split at hz
        · next hi =>
          obtain ⟨a0, s0, xa⟩ := @Good.exc (ghoT H0) _ _ _ _ GZ _ _ _ _ e0
          have ea := exc_thk xa
          rw [hi.2] at ea
          have ea : f = a0 := Int.ofNat.inj ea
          subst ea
          refine ⟨gZ.2.1 _ _ _ hF, s0, gZ.2.2.2 _ _ hK, datS ρ, ?_, ?_⟩
          · exact G.dats.grow gZ (fun p o ho _ => absurd ho dat_own) fun t => ⟨(@Good.tab (ghoT H0) _ _ _ _ GZ).1, Tbl.up _ _ gZ t.2⟩
          · have back : ∀ {H' : Hp} {ρ1 : Ev}, Stp X.K 0 HZ σ (datS ρ) H' σ ρ1 → @Stp (ghoT H0) X.K 1 HZ σZ ρZ H' σZ ρZ := fun {H' ρ1} st => by
              have kept : ∀ b o, HZ b = some o → (∀ ps, o ≠ .tbl ps) → H' b = some o := fun b o e nt => st.kept b o e dat_own nt
              have gg : Grow HZ H' := Grow.ext kept
              refine @Stp.mk (ghoT H0) _ _ _ _ _ _ _ _ (@Good.grow (ghoT H0) _ _ _ _ _ GZ gg (fun p o ho ep => ?_) fun t => ⟨st.good.tab.1, t.2.trans gg⟩) (fun i _ => ⟨rfl, fun o e => ⟨o, e⟩⟩) (fun b o e _ nt => kept b o e nt) (fun p hp => .inl hp) st.live
              obtain ⟨u, ob, e1, r⟩ := @Good.at (ghoT H0) _ _ _ _ GZ _ ho
              rw [ep] at e1
              cases e1
              exact kept _ _ ep fun ps z => obr_no_tbl r z
            cases em : m (datS ρ) with
            | no =>
              rw [em] at hz
              exact hz.elim
            | ok r ρ1 =>
              cases r with
              | v i =>
                rw [em] at hz
                exact hz.elim
              | d y =>
                rw [em] at hz
                exact fun H' st v rv => by
                  refine hz H' (back st) v ?_
                  cases rv with
                  | d im => exact .d im
            | ex c1 d1 ρ1 =>
              rw [em] at hz
              exact fun H' st C dd fl v d' e1 e2 e3 e4 => hz H' (back st) C dd fl v d' e1 e2 e3 e4
        · exact hz.elim
      · exact hz.elim)
    have I0 := inv_start (CX := CX0) (E := E0) S room.hd env0 (show [V.ref f].length = [a].length from rfl) (.cons rfl .nil) inn
    have st0 : L2.start N [V.ref f] = some (V.ref f) :: List.replicate (N.length - 1) none := rfl
    have good0 : @Good (ghoT H0) X.K H0 (L2.start N [V.ref f]) (thS f :: List.replicate (N.length - 1) .no) := by
      have no : ∀ {i : Nat} {s : Sl}, (thS f :: List.replicate (N.length - 1) Sl.no)[i]? = some s → s = .no ∨ i = 0 ∧ s = thS f := fun {i s} e => by
        cases i with
        | zero => exact .inr ⟨rfl, (Option.some.inj e).symm⟩
        | succ i => exact .inl (List.mem_replicate.mp (List.mem_of_getElem? e)).2
      refine @Good.mk (ghoT H0) _ _ _ _ (by rw [st0]; simp) (fun i d e => ?_) (fun i o e => ?_) (fun i j o o' p e => ?_) ⟨G.tab.1, Grow.refl _⟩ fun i c0 f0 d e => ?_
      · rcases no e with z | ⟨_, z⟩ <;> cases z
      · rcases no e with z | ⟨_, z⟩ <;> cases z
      · rcases no e with z | ⟨_, z⟩ <;> cases z
      · rcases no e with z | ⟨rfl, z⟩
        · cases z
        · cases z
          exact ⟨f, rfl, .inr ⟨rfl, rfl⟩⟩
    have noown : ∀ p, ¬ Own (L2.start N [V.ref f]) (thS f :: List.replicate (N.length - 1) .no) p := fun p ⟨i, o, e, _⟩ => by
      cases i with
      | zero => cases e
      | succ i => cases (List.mem_replicate.mp (List.mem_of_getElem? e)).2
    have fin : ∀ {v : V} {σ' : L2.St} {H' : Hp} {ρ' : Ev}, @Stp (ghoT H0) X.K 1 H0 (L2.start N [V.ref f]) (thS f :: List.replicate (N.length - 1) .no) H' σ' ρ' → Im X.K H' v res → Q v H' := fun {v σ' H' ρ'} stc im => by
      have kept : ∀ b o, H0 b = some o → (∀ ps, o ≠ .tbl ps) → H' b = some o := fun b o e nt => @Stp.kept (ghoT H0) _ _ _ _ _ _ _ _ stc b o e (noown b) nt
      have gg : Grow H0 H' := Grow.ext kept
      have gd' := @Stp.good (ghoT H0) _ _ _ _ _ _ _ _ stc
      refine h H' ⟨G.grow gg (fun q u ho eu => ?_) (fun t => ⟨(@Good.tab (ghoT H0) _ _ _ _ gd').1, Tbl.up _ _ gg t.2⟩), fun i _ => ⟨rfl, fun o e => ⟨o, e⟩⟩, fun q u eu no nt => kept q u eu nt, fun q hq => .inl hq, fun q hq => @Stp.live (ghoT H0) _ _ _ _ _ _ _ _ stc q hq⟩ v (.d im)
      obtain ⟨u', o, e1, r⟩ := G.at ho
      rw [eu] at e1
      cases e1
      exact kept _ _ eu fun ps z => r.no_tbl z
    refine wpAny_mono (body.nox.run [] s3 (L2.start N [V.ref f]) H0 { nx := fun _ H' => Q .non H', rt := Q } I0 ⟨_, good0, ?_⟩) (fun fl s' z => ?_) fun _ _ z => z
    · have e := hr f
      unfold thOf at e
      generalize b f (toTh (m (datS ρ))) (thS f :: List.replicate (N.length - 1) .no) = z at e
      cases z with
      | no => cases e
      | ex c0 d0 ρ0 => cases e
      | ok o ρ0 =>
        cases o with
        | nx =>
          cases e
          exact fun σ' H' stc => fin stc .non
        | bk => cases e
        | ct => cases e
        | rf o => cases e
        | rt r =>
          cases r with
          | v i => cases e
          | d y =>
            cases e
            intro v σ' H' stc rv
            cases rv with
            | d im => exact fin stc im
    · cases fl with
      | ret u =>
        obtain ⟨v, σ', H', J', rv, q⟩ := z
        exact ⟨v, H', J'.os, J'.bare, J'.base, J'.hok, rv, q⟩
      | next =>
        obtain ⟨σ', H', J', q⟩ := z
        exact ⟨V.non, H', J'.os, J'.bare, J'.base, J'.hok, rfl, q⟩
      | brk => exact z.elim fun _ z => z.elim fun _ z => z.2.elim
      | cont => exact z.elim fun _ z => z.elim fun _ z => z.2.elim
  refine wpAny_call (codeAny_mono rc fun r s3 hq => ?_)
  cases r with
  | error e => exact (show False from hq).elim
  | ok fl =>
    cases fl with
    | ret u => exact I2.after hq
    | next => exact False.elim hq
    | brk => exact False.elim hq
    | cont => exact False.elim hq
end
end Q
namespace Q
open PySem PySem.Spec PyProof.Rows L2 Gd
variable [Tbl]
/-! ### a loop over a list of lambdas -/
theorem Good.gho {K : PySem.W.Frag} {H : Hp} {σ : L2.St} {ρ : Ev} (G : Good K H σ ρ) : @Good (ghoT H) K H σ ρ := @Good.mk (ghoT H) _ _ _ _ G.len G.dat G.own G.dif ⟨G.tab.1, Grow.refl _⟩ G.exc
theorem Stp.unghoed {K : PySem.W.Frag} {n : Nat} {H H' : Hp} {σ σ' : L2.St} {ρ ρ' : Ev} (t : TabOk H) (s : @Stp (ghoT H) K n H σ ρ H' σ' ρ') : Stp K n H σ ρ H' σ' ρ' := by
  have g := @Stp.good (ghoT H) _ _ _ _ _ _ _ _ s
  have tb := @Good.tab (ghoT H) _ _ _ _ g
  exact ⟨⟨@Good.len (ghoT H) _ _ _ _ g, @Good.dat (ghoT H) _ _ _ _ g, @Good.own (ghoT H) _ _ _ _ g, @Good.dif (ghoT H) _ _ _ _ g, ⟨tb.1, Tbl.up _ _ tb.2 t.2⟩, @Good.exc (ghoT H) _ _ _ _ g⟩, @Stp.par (ghoT H) _ _ _ _ _ _ _ _ s, @Stp.kept (ghoT H) _ _ _ _ _ _ _ _ s, @Stp.news (ghoT H) _ _ _ _ _ _ _ _ s, @Stp.live (ghoT H) _ _ _ _ _ _ _ _ s⟩
theorem AftS.gho {K : PySem.W.Frag} {n : Nat} {W : XW} {E : Ends} {H : Hp} {σ : L2.St} {ρ : Ev} {r : Rt Out} (t : TabOk H) (h : AftS K n W E H σ ρ r) : @AftS (ghoT H) K n W E H σ ρ r := by
  cases r with
  | no => exact h
  | ex c d ρ' => exact fun σ' H' s' => h σ' H' (Stp.unghoed t s')
  | ok o ρ' => cases o with
    | nx => exact fun σ' H' s' => h σ' H' (Stp.unghoed t s')
    | bk => exact fun σ' H' s' => h σ' H' (Stp.unghoed t s')
    | ct => exact fun σ' H' s' => h σ' H' (Stp.unghoed t s')
    | rt r => exact fun v σ' H' s' => h v σ' H' (Stp.unghoed t s')
    | rf o => exact fun p u σ' H' s' => h p u σ' H' (Stp.unghoed t s')
/-- one lambda: its function, its code object, what its call gives -/
structure LamR where
  f : Addr
  k : Addr
  o : Obj
  q : Str
  m : Mo R
def LamR.At (r : LamR) (H : Hp) : Prop := H r.f = some (FunO r.f r.o) ∧ H r.k = some (LamX.CodeO r.k r.q)
def loopT (j : Nat) (b : LamR → Mo Out) : List LamR → Mo Out
  | [], ρ => .ok .nx ρ
  | r :: L, ρ => match put j (thS r.f) ρ with
    | none => .no
    | some ρ1 => (b r ρ1).bind fun o ρ2 => match o with
      | .nx => loopT j b L ρ2
      | .ct => loopT j b L ρ2
      | .bk => .ok .nx ρ2
      | .rt r => .ok (.rt r) ρ2
      | .rf r => .ok (.rf r) ρ2
section
variable {X : Cx} {n : Nat} {W : XW}
def tbL (X : Cx) (n : Nat) (W : XW) (ok : LamR → Prop) (b : LamR → Mo Out) : TS := fun D σ H => ∃ r : LamR, ok r ∧ r.At H ∧ @tS (ghoT H) X.K n W (b r) D σ H
theorem pss_lam {body : List Stmt} {ok : LamR → Prop} {b : LamR → Mo Out} (hb : ∀ (r : LamR) (H1 : Hp), ok r → r.At H1 → @XSs (ghoT H1) X n W body (b r)) : PSs X body (tbL X n W ok b) :=
  ⟨fun pins s σ H D I ⟨r, h1, h2, h3⟩ => (hb r H h1 h2).run pins s σ H D I h3⟩
theorem at_kept {r : LamR} {H H' : Hp} {σ σ' : L2.St} {ρ ρ' : Ev} (a : r.At H) (G : Good X.K H σ ρ) (s : Stp X.K n H σ ρ H' σ' ρ') : r.At H' := by
  refine ⟨s.kept _ _ a.1 (fun z => ?_) (fun ps z => nomatch z), s.kept _ _ a.2 (fun z => ?_) (fun ps z => LamX.codeO_ne ps z)⟩
  · obtain ⟨h', o, e, x⟩ := G.at z
    rw [a.1] at e
    cases e
    cases x
  · obtain ⟨h', o, e, x⟩ := G.at z
    rw [a.2] at e
    exact noTab_code x.noTab _ (Option.some.inj e).symm
theorem for_lams {j : Nat} {a : Addr} {L : List LamR} {ok : LamR → Prop} {b : LamR → Mo Out} {E : Ends} {σ : L2.St} {H : Hp} {ρ : Ev} (hnj : n ≤ j) (G : Good X.K H σ ρ) (ea : H a = some (.lst (L.map fun r => V.ref r.f))) (na : ¬ Own σ ρ a) (al : ∀ r ∈ L, ok r ∧ r.At H) (h : AftS X.K n W E H σ ρ (loopT j b L ρ)) :
    ∃ Wv : Nat → Nat → L2.St → Hp → Prop, (∃ m, Wv 0 m σ H) ∧ ∀ i m σ H, Wv i m σ H →
      ((Itl X.K a).stop i H ∧ E.nx σ H) ∨ ((Itl X.K a).go i H ∧ ∃ N : L2.St → Hp → Prop, (∀ σ' H', N σ' H' → ∃ m', m' < m ∧ Wv (i + 1) m' σ' H') ∧ ∀ x H', (Itl X.K a).yld i H x H' → gName j x σ H' fun σ2 H2 => tbL X n W ok b { E with nx := N, ct := N, bk := E.nx } σ2 H2) := by
  refine for_it (walk_list (K := X.K) (a := a) (xs := L.map fun r => V.ref r.f)) (fun i σ' H' => ∃ ρ', Stp X.K n H σ ρ H' σ' ρ' ∧ AftS X.K n W E H σ ρ (loopT j b (L.drop i) ρ')) ⟨ρ, Stp.refl G, h⟩ (fun i σ' H' _ ⟨ρ', st, _⟩ => .inl (.inl (st.kept a _ ea na fun ps z => nomatch z))) (fun i x σ' H' H2 hi hP hY => ?_) (fun σ' H' ⟨ρ', st, h'⟩ => ?_)
  · obtain ⟨ρ', st, h'⟩ := hP
    obtain ⟨rfl, ex⟩ := hY
    rw [List.length_map] at hi
    have es : L.drop i = L[i] :: L.drop (i + 1) := List.drop_eq_getElem_cons hi
    rw [es] at h'
    rw [List.getElem?_map, List.getElem?_eq_getElem hi] at ex
    have ex : V.ref L[i].f = x := Option.some.inj ex
    obtain ⟨ok1, at1⟩ := al L[i] (List.getElem_mem hi)
    generalize L[i] = r at *
    subst ex
    unfold loopT at h'
    cases ep : put j (thS r.f) ρ' with
    | none =>
      rw [ep] at h'
      exact h'.elim
    | some ρ1 =>
    rw [ep] at h'
    obtain ⟨lj, rfl⟩ := put_some ep
    have st2 : Stp X.K n H σ ρ H2 (σ'.set j (some (.ref r.f))) (ρ'.set j (thS r.f)) := st.set_exc hnj lj (.inr ⟨rfl, rfl⟩)
    have at2 := at_kept (n := n) at1 G st2
    refine ⟨r, ok1, at2, ρ'.set j (thS r.f), st2.good.gho, AftS.gho st2.good.tab ?_⟩
    dsimp only at h'
    generalize b r (ρ'.set j (thS r.f)) = z at h'
    cases z with
    | no => exact h'
    | ex c e ρ3 => exact fun σ4 H4 s4 => h' σ4 H4 (st2.trans s4)
    | ok o ρ3 => cases o with
      | nx => exact fun σ4 H4 s4 => ⟨ρ3, st2.trans s4, h'⟩
      | ct => exact fun σ4 H4 s4 => ⟨ρ3, st2.trans s4, h'⟩
      | bk => exact fun σ4 H4 s4 => h' σ4 H4 (st2.trans s4)
      | rt r => exact fun v σ4 H4 s4 rv => h' v σ4 H4 (st2.trans s4) rv
      | rf o => exact fun p u σ4 H4 s4 np => h' p u σ4 H4 (st2.trans s4) (st2.live p np)
  · rw [List.length_map] at h'
    rw [List.drop_length] at h'
    exact h' σ' H' st
end
end Q
namespace Q
open PySem PySem.Spec PyProof.Rows L2 Gd
variable [Tbl]
/-! ### a list of lambdas that is walked over -/
section
variable {K : PySem.W.Frag} {n : Nat} {H H' : Hp} {σ σ' : St} {ρ ρ' : Ev}
theorem Stp.set_any (s : Stp K n H σ ρ H' σ' ρ') {i : Nat} (hn : n ≤ i) (hi : i < ρ'.length) (w : Option V) : Stp K n H σ ρ H' (σ'.set i w) (ρ'.set i .no) := by
  have G := s.good
  have get : ∀ {j : Nat} {t : Sl}, (ρ'.set i .no)[j]? = some t → t ≠ .no → i ≠ j ∧ ρ'[j]? = some t := fun {j t} h ne => by
    by_cases z : i = j
    · subst z
      rw [set_at hi] at h
      cases h
      exact absurd rfl ne
    · rw [set_ne z] at h
      exact ⟨z, h⟩
  have ow : ∀ p, Own (σ'.set i w) (ρ'.set i .no) p → Own σ' ρ' p := fun p h => by
    obtain ⟨j, o, e1, e2⟩ := h
    obtain ⟨z, e1⟩ := get e1 (fun w => nomatch w)
    rw [set_ne z] at e2
    exact ⟨j, o, e1, e2⟩
  refine ⟨⟨by rw [List.length_set, List.length_set, G.len], fun j e h => ?_, fun j o h => ?_, fun j k o o' p h1 h2 h3 h4 => ?_, G.tab, fun j c' f' e h => ?_⟩, fun j hj => ?_, s.kept, fun p h => s.news p (ow p h), s.live⟩
  · obtain ⟨z, h⟩ := get h (fun w => nomatch w)
    rw [set_ne z]
    exact G.dat j e h
  · obtain ⟨z, h⟩ := get h (fun w => nomatch w)
    rw [set_ne z]
    exact G.own j o h
  · obtain ⟨z1, h1⟩ := get h1 (fun w => nomatch w)
    obtain ⟨z2, h2⟩ := get h2 (fun w => nomatch w)
    rw [set_ne z1] at h3
    rw [set_ne z2] at h4
    exact G.dif j k o o' p h1 h2 h3 h4
  · obtain ⟨z, h⟩ := get h (fun w => nomatch w)
    rw [set_ne z]
    exact G.exc j c' f' e h
  · have ne : i ≠ j := by omega
    rw [set_ne ne, set_ne ne]
    exact s.par j hj
end
section
variable {X : Cx} {n : Nat} {W : XW}
/-- a lambda's function is made -/
theorem tlamF_of {prm : Arguments} {bd : Expr} {scp : Scope} {H : Hp} {σ : St} {ρ : Ev} {Q : VK} {m : Mo R} (G : Good X.K H σ ρ)
    (go : ∀ (r : LamR) (H1 : Hp), (∃ pm ctv, r.o = lamO X prm bd scp pm r.k ctv) → r.q = X.env.qual ++ "<lambda>" → r.m = m → Stp X.K n H σ ρ H1 σ ρ → r.At H1 → Q (.ref r.f) H1) : tLamF X Tbl.T prm bd scp σ H Q := by
  refine ⟨G.tab.1, fun f k pm ctv G1 eN T1 lv nf nfr hf hk => ?_⟩
  have gN1 : Grow H G1 := Grow.ext eN
  have G2 : Good X.K G1 σ ρ := G.grow gN1 (fun q u ho eu => by
    obtain ⟨u', o, e1, r⟩ := G.at ho
    rw [eu] at e1
    cases e1
    exact eN _ _ eu fun ps z => r.no_tbl z) (fun t => ⟨T1, Tbl.up _ _ gN1 t.2⟩)
  exact go ⟨f, k, lamO X prm bd scp pm k ctv, X.env.qual ++ "<lambda>", m⟩ G1 ⟨pm, ctv, rfl⟩ rfl rfl ⟨G2, fun i _ => ⟨rfl, fun o e => ⟨o, e⟩⟩, fun q u eu no nt => eN q u eu nt, fun q hq => .inl hq, lv⟩ ⟨hf, hk⟩
/-- the list of lambdas so far -/
structure LamsAt (X : Cx) (n : Nat) (c : Nat) (H : Hp) (σ : St) (ρ : Ev) (a : Addr) (L : List LamR) (H' : Hp) (σ' : St) : Prop where
  new : H a = none
  no : ¬ Own σ' (ρ.set c .no) a
  st : Stp X.K n H σ ρ H' σ' (ρ.set c .no)
  sl : σ'[c]? = some (some (.ref a))
  li : H' a = some (.lst (L.map fun r => V.ref r.f))
  al : ∀ r ∈ L, r.At H'
theorem lams_new {c : Nat} {H H1 : Hp} {σ : St} {ρ : Ev} {p : Addr} {r : LamR} (hnc : n ≤ c) (hc : c < ρ.length) (st1 : Stp X.K n H σ ρ H1 σ ρ) (ra : r.At H1) (hp : H1 p = none) :
    LamsAt X n c H σ ρ p [r] (upd H1 p (.lst [V.ref r.f])) (σ.set c (some (.ref p))) := by
  have s2 : Stp X.K n H1 σ ρ (upd H1 p (.lst [V.ref r.f])) σ ρ := Stp.same st1.good (same_upd hp)
  have hs : c < σ.length := by
    rw [st1.good.len]
    exact hc
  refine ⟨st1.live p hp, ?_, (st1.trans s2).set_any hnc hc _, set_at hs, upd_same, fun x hx => ?_⟩
  · rintro ⟨i, o, e1, e2⟩
    by_cases z : c = i
    · subst z
      rw [set_at hc] at e1
      cases e1
    · rw [set_ne z] at e1 e2
      obtain ⟨h', o', e, _⟩ := st1.good.at ⟨i, o, e1, e2⟩
      rw [hp] at e
      cases e
  · rw [List.mem_singleton.mp hx]
    exact at_kept (n := n) ra st1.good s2
theorem lams_add {c : Nat} {H H1 H2 : Hp} {σ σ1 : St} {ρ : Ev} {a : Addr} {L : List LamR} {r : LamR} (S : LamsAt X n c H σ ρ a L H1 σ1) (st2 : Stp X.K n H1 σ1 (ρ.set c .no) H2 σ1 (ρ.set c .no)) (ra : r.At H2) :
    H2 a = some (.lst (L.map fun r => V.ref r.f)) ∧ LamsAt X n c H σ ρ a (L ++ [r]) (upd H2 a (.lst (L.map (fun r => V.ref r.f) ++ [V.ref r.f]))) σ1 := by
  have e : H2 a = some (.lst (L.map fun r => V.ref r.f)) := st2.kept a _ S.li S.no fun ps z => nomatch z
  have keep : ∀ {x : LamR}, x.At H2 → x.At (upd H2 a (.lst (L.map (fun r => V.ref r.f) ++ [V.ref r.f]))) := fun {x} h => by
    refine ⟨?_, ?_⟩
    · rw [upd_ne fun z => by
        have := h.1
        rw [z, e] at this
        cases this]
      exact h.1
    · rw [upd_ne fun z => by
        have := h.2
        rw [z, e] at this
        cases this]
      exact h.2
  refine ⟨e, S.new, S.no, (S.st.trans st2).beside S.new e trivial trivial S.no, S.sl, ?_, fun x hx => ?_⟩
  · rw [upd_same, List.map_append]
    rfl
  · rcases List.mem_append.mp hx with h | h
    · exact keep (at_kept (S.al x h) S.st.good st2)
    · rw [List.mem_singleton.mp h]
      exact keep ra
theorem Stp.dropSlot {H H' : Hp} {σ σ' : St} {ρ ρ' : Ev} (s : Stp X.K n H σ ρ H' σ' ρ') {i : Nat} (hn : n ≤ i) (hi : i < ρ'.length) : Stp X.K n H σ ρ H' σ' (ρ'.set i .no) := by
  have his : i < σ'.length := by
    rw [s.good.len]
    exact hi
  have := s.set_any hn hi σ'[i]
  rwa [List.set_getElem_self] at this
/-- what the loop gives, whatever the functions' addresses are -/
def Lams3 (c j : Nat) (b : LamR → Mo Out) (m1 m2 m3 : Mo R) (ρ : Ev) (out : Out) (ρ' : Ev) : Prop := c < ρ.length ∧ j < ρ'.length ∧ ∀ r1 r2 r3 : LamR, r1.m = m1 → r2.m = m2 → r3.m = m3 → ∃ s, loopT j b [r1, r2, r3] (ρ.set c .no) = .ok out (ρ'.set j s)
def lamsEnd (j : Nat) (rm : Mo Out) (out : Out) (ρ' : Ev) : Rt Out := match out with
  | .nx => rm (ρ'.set j .no)
  | .rt (.d y) => .ok (.rt (.d y)) (ρ'.set j .no)
  | _ => .no
noncomputable def bLams3 (c j : Nat) (b : LamR → Mo Out) (m1 m2 m3 : Mo R) (rm : Mo Out) : Mo Out := fun ρ => @dite _ (∃ (out : Out) (ρ' : Ev), Lams3 c j b m1 m2 m3 ρ out ρ') (Classical.propDecidable _) (fun h => lamsEnd j rm h.choose h.choose_spec.choose) fun _ => .no
theorem xss_lams3 {c j : Nat} {s1 s2 s3 s4 : Stmt} {rest : List Stmt} {p1 p2 p3 : Arguments} {b1 b2 b3 : Expr} {c1 c2 c3 : Scope} {ok : LamR → Prop} {b : LamR → Mo Out} {m1 m2 m3 : Mo R} {rm : Mo Out} (hnc : n ≤ c) (hnj : n ≤ j)
    (h1 : PS X s1 (tAsg (tLst (tCons (tLamF X Tbl.T p1 b1 c1) tNil)) (gName c)))
    (h2 : PS X s2 (tDrop (tBM X.K "list" rAppend (tVar c) (tCons (tLamF X Tbl.T p2 b2 c2) tNil))))
    (h3 : PS X s3 (tDrop (tBM X.K "list" rAppend (tVar c) (tCons (tLamF X Tbl.T p3 b3 c3) tNil))))
    (h4 : PS X s4 (tFor (iList X.K (tVar c)) (gName j) (tbL X n W ok b))) (h5 : PSs X rest (tS X.K n W rm))
    (ok1 : ∀ r : LamR, (∃ pm ctv, r.o = lamO X p1 b1 c1 pm r.k ctv) → r.q = X.env.qual ++ "<lambda>" → r.m = m1 → ok r)
    (ok2 : ∀ r : LamR, (∃ pm ctv, r.o = lamO X p2 b2 c2 pm r.k ctv) → r.q = X.env.qual ++ "<lambda>" → r.m = m2 → ok r)
    (ok3 : ∀ r : LamR, (∃ pm ctv, r.o = lamO X p3 b3 c3 pm r.k ctv) → r.q = X.env.qual ++ "<lambda>" → r.m = m3 → ok r) :
    XSs X n W (s1 :: s2 :: s3 :: s4 :: rest) (bLams3 c j b m1 m2 m3 rm) := weakSs (pss_cons h1 (pss_cons h2 (pss_cons h3 (pss_cons h4 h5)))) fun E σ H ⟨ρ, G, h⟩ => by
  unfold bLams3 at h
  by_cases hx : ∃ (out : Out) (ρ' : Ev), Lams3 c j b m1 m2 m3 ρ out ρ'
  case neg =>
    rw [dif_neg hx] at h
    exact h.elim
  rw [dif_pos hx] at h
  have hr := hx.choose_spec.choose_spec
  generalize hx.choose_spec.choose = ρ' at h hr
  generalize hx.choose = out at h hr
  obtain ⟨hc, hj, hr⟩ := hr
  refine (show tLamF X Tbl.T p1 b1 c1 σ H (fun x Hq => tNil σ Hq fun xs Hr => (x :: xs).length ≤ sizeLine ∧ ∀ p, Hr p = none → gName c (.ref p) σ (upd Hr p (.lst (x :: xs))) ((tSeq (tDrop (tBM X.K "list" rAppend (tVar c) (tCons (tLamF X Tbl.T p2 b2 c2) tNil))) (tSeq (tDrop (tBM X.K "list" rAppend (tVar c) (tCons (tLamF X Tbl.T p3 b3 c3) tNil))) (tSeq (tFor (iList X.K (tVar c)) (gName j) (tbL X n W ok b)) (tS X.K n W rm)))) E)) → _ from fun q => q) ?_
  refine tlamF_of (m := m1) (n := n) G fun r1 H1 ho1 hq1 hm1 st1 at1 => ?_
  refine ⟨by show 1 ≤ sizeLine; decide, fun p hp => ?_⟩
  have S1 := lams_new hnc hc st1 at1 hp
  show (tSeq _ _) E (σ.set c (some (.ref p))) (upd H1 p (.lst [V.ref r1.f]))
  generalize upd H1 p (.lst [V.ref r1.f]) = Ha at S1 ⊢
  generalize σ.set c (some (.ref p)) = σa at S1 ⊢
  refine ⟨.ref p, S1.sl, .inl ⟨rfl, _, .inl (.inl S1.li)⟩, ?_⟩
  show tLamF X Tbl.T p2 b2 c2 σa Ha _
  refine tlamF_of (m := m2) (n := n) S1.st.good fun r2 H2 ho2 hq2 hm2 st2 at2 => ?_
  obtain ⟨e2, S2⟩ := lams_add S1 st2 at2
  refine ⟨p, _, _, rfl, rfl, e2, by show 1 < sizeLine; decide, ?_⟩
  show (tSeq _ _) E σa (upd H2 p (.lst (([r1] : List LamR).map (fun r => V.ref r.f) ++ [V.ref r2.f])))
  generalize upd H2 p (.lst (([r1] : List LamR).map (fun r => V.ref r.f) ++ [V.ref r2.f])) = Hb at S2 ⊢
  refine ⟨.ref p, S2.sl, .inl ⟨rfl, _, .inl (.inl S2.li)⟩, ?_⟩
  show tLamF X Tbl.T p3 b3 c3 σa Hb _
  refine tlamF_of (m := m3) (n := n) S2.st.good fun r3 H3 ho3 hq3 hm3 st3 at3 => ?_
  obtain ⟨e3, S3⟩ := lams_add S2 st3 at3
  refine ⟨p, _, _, rfl, rfl, e3, by show 2 < sizeLine; decide, ?_⟩
  show (tSeq _ _) E σa (upd H3 p (.lst (([r1] ++ [r2] : List LamR).map (fun r => V.ref r.f) ++ [V.ref r3.f])))
  generalize upd H3 p (.lst (([r1] ++ [r2] : List LamR).map (fun r => V.ref r.f) ++ [V.ref r3.f])) = Hc at S3 ⊢
  refine ⟨.ref p, S3.sl, p, rfl, ⟨_, .inl (.inl S3.li)⟩, ?_⟩
  refine for_lams (L := [r1, r2, r3]) (ρ := ρ.set c .no) hnj S3.st.good S3.li S3.no (fun r hm => ⟨?_, S3.al r hm⟩) ?_
  · simp only [List.mem_cons, List.not_mem_nil, or_false] at hm
    rcases hm with rfl | rfl | rfl
    · exact ok1 _ ho1 hq1 hm1
    · exact ok2 _ ho2 hq2 hm2
    · exact ok3 _ ho3 hq3 hm3
  · obtain ⟨s, el⟩ := hr r1 r2 r3 hm1 hm2 hm3
    rw [el]
    have fin : ∀ {σ' : St} {H' : Hp}, Stp X.K n Hc σa (ρ.set c .no) H' σ' (ρ'.set j s) → Stp X.K n H σ ρ H' σ' (ρ'.set j .no) := fun {σ' H'} s' => by
      have t := Stp.dropSlot (S3.st.trans s') hnj (by rw [List.length_set]; exact hj)
      rwa [List.set_set] at t
    cases out with
    | nx => exact fun σ' H' s' => ⟨ρ'.set j .no, (fin s').good, AftS.on (fin s') h⟩
    | bk => exact h.elim
    | ct => exact h.elim
    | rf o => exact h.elim
    | rt r =>
      cases r with
      | v i => exact h.elim
      | d y => exact fun v σ' H' s' rv => h v σ' H' (fin s') rv
end
end Q
namespace Q
open PySem PySem.Spec PyProof.Rows L2 Gd
/-! ### what is known of each lambda of a list -/
/-- the lambda that r tells of: its object, and what its body gives, under any tables -/
def LamOk (X : Cx) (kk : Nat) (r : LamR) : Prop := r.q = X.env.qual ++ "<lambda>" ∧ ∃ (prm : Arguments) (bd : Expr) (scp : Scope) (pm ctv : Value), r.o = lamO X prm bd scp pm r.k ctv ∧ LamX.LamS X.env.scope scp ∧
  bindArgs (PySem.W.kla_fn "<lambda>" (X.env.qual ++ "<lambda>") prm bd scp (cloFrom X.env.cells scp.names []) pm (.ref r.k) ctv) ⟨[], []⟩ = pure [] ∧
  ∀ [tt : Tbl] (A : Around) (outer : List Env) (s0 : Shared) (H0 : Hp) (E : L2.XK), A.guards = some [] → Room kk (A.deeper (LamX.lamEnv X scp s0.heap.objs.size r.f r.k)) → XD (LamX.lamCx X A outer s0 H0 E scp r.f r.k) 0 (wE X.K fun cls dd _ H => E cls dd H) bd r.m
section
variable [Tbl] {X : Cx} {n : Nat} {W : XW}
theorem pss_lamK {body : List Stmt} {ok : LamR → Prop} {b : LamR → Mo Out} (hb : ∀ (tt : Tbl) (r : LamR), ok r → (∀ H, tt.G H → r.At H) → @XSs tt X n W body (b r)) : PSs X body (tbL X n W ok b) :=
  pss_lam fun r H1 h1 h2 => hb (ghoT H1) r h1 fun H g => ⟨g.2.1 _ _ _ h2.1, g.2.2.2 _ _ h2.2⟩
variable {x a y : Str} {jx kk : Nat} {st : Stmt} {g : Addr} {fd : FuncData} {N : List Str} {b : Addr → Rt D → Mo Out} {p py pos : Pos} {r : LamR}
theorem xd_lamVr (F : Fun X.K x x st g fd) (S : FnScope N [a] (defScope st)) (hN : N[0]? = some a) (hv : Vis (defScope st) a) (gets : Gets X.prog X.w X.K X.mg X.base kk x st g N a b)
    (jN : X.N[jx]? = some y) (vy : Vis X.env.scope y) (hok : LamOk X kk r) (kn : ∀ H, Tbl.G H → r.At H) (gd : X.A.guards = some []) (room : Room (kk + 2) X.A) (hg : Gl X x) (hm : X.mg x = some (.ref g)) (hk : PySem.W.keepIn X.K (.ref g) = true) (hb : Binds X.K fd [a] [])
    (hdy : (y == ("__debug__" : Str)) = false := by decide) (hcy : (y == ("__classdict__" : Str)) = false := by decide) (hdb : (x == ("__debug__" : Str)) = false := by decide) (hd : (a == ("__debug__" : Str)) = false := by decide) (hcd : (a == ("__classdict__" : Str)) = false := by decide) :
    XD X n W (.Call (.Name x p) [.Name y py] [] pos) (eLamV (thOf N.length b) jx r.f r.m) := by
  obtain ⟨hq, prm, bd, scp, pm, ctv, ho, LS, eb, B⟩ := hok
  exact xd_lamV (k := r.k) (pm := pm) (ctv := ctv) (prm := prm) (bd := bd) (scp := scp) F S hN hv gets jN vy (fun H g => ⟨by rw [← ho]; exact (kn H g).1, by rw [← hq]; exact (kn H g).2⟩) gd room hg hm hk hb LS eb (fun A outer s0 H0 E g0 r0 => B A outer s0 H0 E g0 r0) hdy hcy hdb hd hcd
end
end Q
namespace Q
open PySem PySem.Spec PyProof.Rows L2 Gd
/-! ### bLams3, told by any outcome of the loop -/
theorem lams_end_same {j : Nat} {rm : Mo Out} {out out' : Out} {ρ1 ρ2 : Ev} {s t : Sl} (e : out = out') (h : ρ1.set j s = ρ2.set j t) : lamsEnd j rm out ρ1 = lamsEnd j rm out' ρ2 := by
  subst e
  have e2 : ρ1.set j .no = ρ2.set j .no := by
    have := congrArg (fun x : Ev => x.set j .no) h
    simpa only [List.set_set] using this
  unfold lamsEnd
  rw [e2]
theorem bLams3_eq {c j : Nat} {b : LamR → Mo Out} {m1 m2 m3 : Mo R} {rm : Mo Out} {ρ ρ' : Ev} {out : Out} (o : Obj) (h : Lams3 c j b m1 m2 m3 ρ out ρ') : bLams3 c j b m1 m2 m3 rm ρ = lamsEnd j rm out ρ' := by
  have hx : ∃ (out : Out) (ρ' : Ev), Lams3 c j b m1 m2 m3 ρ out ρ' := ⟨out, ρ', h⟩
  unfold bLams3
  rw [dif_pos hx]
  obtain ⟨_, _, h3⟩ := h
  obtain ⟨_, _, k3⟩ := hx.choose_spec.choose_spec
  obtain ⟨s, e1⟩ := h3 ⟨0, 0, o, "", m1⟩ ⟨0, 0, o, "", m2⟩ ⟨0, 0, o, "", m3⟩ rfl rfl rfl
  obtain ⟨t, e2⟩ := k3 ⟨0, 0, o, "", m1⟩ ⟨0, 0, o, "", m2⟩ ⟨0, 0, o, "", m3⟩ rfl rfl rfl
  rw [e1] at e2
  injection e2 with a b
  exact lams_end_same a.symm b.symm
/-- a loop that ends each turn alike -/
theorem lams3_nx {c j : Nat} {b : LamR → Mo Out} {m1 m2 m3 : Mo R} {ρ ρ1 ρ2 ρ3 : Ev} (hc : c < ρ.length) (hj : j < ρ3.length) (hj0 : j < ρ.length) (hj1 : j < ρ1.length) (hj2 : j < ρ2.length)
    (t1 : ∀ r : LamR, r.m = m1 → b r ((ρ.set c .no).set j (thS r.f)) = .ok .nx (ρ1.set j (thS r.f)))
    (t2 : ∀ r : LamR, r.m = m2 → b r (ρ1.set j (thS r.f)) = .ok .nx (ρ2.set j (thS r.f)))
    (t3 : ∀ r : LamR, r.m = m3 → b r (ρ2.set j (thS r.f)) = .ok .nx (ρ3.set j (thS r.f))) : Lams3 c j b m1 m2 m3 ρ .nx ρ3 := by
  have pu : ∀ {s : Sl} {x : Ev}, j < x.length → put j s x = some (x.set j s) := fun {s x} h => by
    unfold put
    exact if_pos h
  refine ⟨hc, hj, fun r1 r2 r3 e1 e2 e3 => ⟨thS r3.f, ?_⟩⟩
  unfold loopT
  rw [pu (by rw [List.length_set]; exact hj0)]
  show (b r1 _).bind _ = _
  rw [t1 r1 e1]
  show loopT j b [r2, r3] (ρ1.set j (thS r1.f)) = _
  unfold loopT
  rw [pu (by rw [List.length_set]; exact hj1)]
  show (b r2 ((ρ1.set j (thS r1.f)).set j (thS r2.f))).bind _ = _
  rw [List.set_set, t2 r2 e2]
  show loopT j b [r3] (ρ2.set j (thS r2.f)) = _
  unfold loopT
  rw [pu (by rw [List.length_set]; exact hj2)]
  show (b r3 ((ρ2.set j (thS r2.f)).set j (thS r3.f))).bind _ = _
  rw [List.set_set, t3 r3 e3]
  rfl
end Q
namespace Q
open PySem PySem.Spec PyProof.Rows L2 Gd
variable [Tbl]
/-! ### repr of data with dicts whose keys are numbers or texts -/
def isKeyD : D → Bool
  | .int _ => true
  | .str _ => true
  | _ => false
mutual
def okDs : D → Bool
  | .none => true
  | .bool _ => true
  | .int _ => true
  | .str _ => true
  | .list xs => okDsL xs
  | .tuple xs => okDsL xs
  | .dict kvs => okKv kvs
def okDsL : List D → Bool
  | [] => true
  | x :: xs => okDs x && okDsL xs
def okKv : List (D × D) → Bool
  | [] => true
  | p :: r => isKeyD p.1 && okDs p.2 && okKv r
end
mutual
/-- what stands in the heap; no dict is the modules' own -/
inductive Rm (h : Heap) : Value → D → Prop
  | non : Rm h .none .none
  | bl (b : Bool) : Rm h (.bool b) (.bool b)
  | int (i : Int) (t : Tok) : Rm h (.int i t) (.int i)
  | str (x : Str) (t : Tok) : Rm h (.str x t) (.str x)
  | lst {a : Addr} {o : Obj} {vs : Array Value} {n : Nat} {xs : List D} : h.get? a = some o → o.cls = .type "list" → o.data = .seq vs n → RmL h vs.toList xs → Rm h (.ref a) (.list xs)
  | tup {a : Addr} {o : Obj} {vs : Array Value} {n : Nat} {xs : List D} : h.get? a = some o → o.cls = .type "tuple" → o.data = .seq vs n → RmL h vs.toList xs → Rm h (.ref a) (.tuple xs)
  | dct {a : Addr} {o : Obj} {es : Array DictEntry} {n : Nat} {kvs : List (D × D)} : h.get? a = some o → o.cls = .type "dict" → o.data = .dict es n → (a == sysModules) = false → RmL h (es.toList.map (·.key)) (kvs.map (·.1)) → RmL h (es.toList.map (·.val)) (kvs.map (·.2)) → Rm h (.ref a) (.dict kvs)
inductive RmL (h : Heap) : List Value → List D → Prop
  | nil : RmL h [] []
  | cons {v : Value} {vs : List Value} {d : D} {ds : List D} : Rm h v d → RmL h vs ds → RmL h (v :: vs) (d :: ds)
end
mutual
theorem Rm.reads {h : Heap} : ∀ {v : Value} {d : D}, Rm h v d → ∃ as, Reads h v d as
  | _, _, .non => ⟨_, .none⟩
  | _, _, .bl b => ⟨_, .bool b⟩
  | _, _, .int i t => ⟨_, .int i t⟩
  | _, _, .str x t => ⟨_, .str x t⟩
  | _, _, .lst h1 h2 h3 h4 => let ⟨_, q⟩ := RmL.reads h4; ⟨_, .list h1 h2 h3 q⟩
  | _, _, .tup h1 h2 h3 h4 => let ⟨_, q⟩ := RmL.reads h4; ⟨_, .tuple h1 h2 h3 q⟩
  | _, _, .dct h1 h2 h3 _ h4 h5 => let ⟨_, q⟩ := RmL.reads h4; let ⟨_, r⟩ := RmL.reads h5; ⟨_, .dict h1 h2 h3 q r⟩
theorem RmL.reads {h : Heap} : ∀ {vs : List Value} {ds : List D}, RmL h vs ds → ∃ as, ReadsAll h vs ds as
  | _, _, .nil => ⟨_, .nil⟩
  | _, _, .cons x r => let ⟨_, p⟩ := Rm.reads x; let ⟨_, q⟩ := RmL.reads r; ⟨_, .cons p q⟩
end
section
variable {P : Program} {w : World} {h : Heap}
def TellsM (P : Program) (w : World) (h : Heap) (v : Value) (d : D) : Prop := ∃ bs, ReadAtMost h d.depth bs ∧ ReprK P w bs h d.depth v d.shown
def TellsML (P : Program) (w : World) (h : Heap) (vs : List Value) (ds : List D) : Prop := ∃ bs, ReadAtMost h (PyData.depthAll ds) bs ∧ ReprAllK P w bs h (PyData.depthAll ds) vs (PyData.shownAll ds)
theorem no_atMostM {n : Nat} : ReadAtMost h n [] := fun _ z => nomatch z
mutual
theorem Rm.tells : ∀ {v : Value} {d : D}, Rm h v d → d.showable = true → d.shown.length ≤ sizeLine → TellsM P w h v d
  | _, _, .non, _, _ => ⟨[], no_atMostM, ReprK.of_is ReprIs.none _ _ _⟩
  | _, _, .bl b, _, _ => ⟨[], no_atMostM, ReprK.of_is (ReprIs.bool b) _ _ _⟩
  | _, _, .int i t, hs, _ => ⟨[], no_atMostM, ReprK.of_is (ReprIs.int t (of_decide_eq_true hs)) _ _ _⟩
  | _, _, .str x t, _, hz => ⟨[], no_atMostM, ReprK.of_is (ReprIs.str x t hz) _ _ _⟩
  | _, _, .lst (a := a) (vs := vs) (xs := xs) h1 h2 h3 h4, hs, hz => by
    have hz : (listText (PyData.shownAll xs)).length ≤ sizeLine := hz
    obtain ⟨bs, hb, hk⟩ := RmL.tells h4 hs fun t ht => Nat.le_trans (listText_mem_le ht) hz
    obtain ⟨_, r⟩ := Rm.reads (Rm.lst h1 h2 h3 h4)
    have dd : PyData.depthAll xs < (PyData.list xs).depth := Nat.lt_succ_self _
    have na := not_mem_of_deeper r dd hb
    refine ⟨a :: bs, ReadAtMost.cons r (Nat.le_of_lt dd) hb, ?_⟩
    show ReprK P w _ h (PyData.depthAll xs + 1) _ (listText (PyData.shownAll xs))
    obtain ⟨l⟩ := vs
    cases l with
    | nil =>
      cases h4
      exact ReprK.listEmpty h1 h2 h3
    | cons x l => exact ReprK.list h1 h2 h3 na (by simpa using hk.length_eq) fun i y e => hk.item i y (by simpa using e)
  | _, _, .tup (a := a) (xs := xs) h1 h2 h3 h4, hs, hz => by
    have hz : (tupleText (PyData.shownAll xs)).length ≤ sizeLine := hz
    obtain ⟨bs, hb, hk⟩ := RmL.tells h4 hs fun t ht => Nat.le_trans (tupleText_mem_le ht) hz
    obtain ⟨_, r⟩ := Rm.reads (Rm.tup h1 h2 h3 h4)
    have dd : PyData.depthAll xs < (PyData.tuple xs).depth := Nat.lt_succ_self _
    exact ⟨a :: bs, ReadAtMost.cons r (Nat.le_of_lt dd) hb, ReprK.tuple h1 h2 h3 (not_mem_of_deeper r dd hb) hk⟩
  | _, _, .dct (a := a) (es := es) (kvs := kvs) h1 h2 h3 h4 h5 h6, hs, hz => by
    have hz' : (dictText (PyData.shownKv kvs)).length ≤ sizeLine := by simpa only [PyData.shown] using hz
    obtain ⟨hs1, hs2⟩ := PyData.showableKv_split kvs (by simpa [PyData.showable] using hs)
    obtain ⟨b1, hb1, k1⟩ := RmL.tells h5 hs1 (fun t ht => let ⟨p, hp, hl⟩ := PyData.shownKv_key_le kvs t ht; Nat.le_trans hl (Nat.le_trans (dictText_mem_le hp) hz'))
    obtain ⟨b2, hb2, k2⟩ := RmL.tells h6 hs2 (fun t ht => let ⟨p, hp, hl⟩ := PyData.shownKv_val_le kvs t ht; Nat.le_trans hl (Nat.le_trans (dictText_mem_le hp) hz'))
    obtain ⟨_, r⟩ := Rm.reads (Rm.dct h1 h2 h3 h4 h5 h6)
    have hb : ReadAtMost h (PyData.depthKv kvs) (b1 ++ b2) := (hb1.mono (PyData.depthAll_keys_le kvs)).append (hb2.mono (PyData.depthAll_vals_le kvs))
    have hna : a ∉ b1 ++ b2 := not_mem_of_deeper r (by simp only [PyData.depth]; omega) hb
    refine ⟨a :: (b1 ++ b2), ReadAtMost.cons r (by simp only [PyData.depth]; omega) hb, ?_⟩
    simp only [PyData.depth, PyData.shown, PyData.shownKv_eq]
    exact ReprK.dict h1 h2 h3 h4 hna (ReprEntriesK.of_two es.toList _ _
      (k1.more_le (fun b hb => List.mem_append_left _ hb) (PyData.depthAll_keys_le kvs)) (k2.more_le (fun b hb => List.mem_append_right _ hb) (PyData.depthAll_vals_le kvs)))
theorem RmL.tells : ∀ {vs : List Value} {ds : List D}, RmL h vs ds → PyData.showableAll ds = true → (∀ t ∈ PyData.shownAll ds, t.length ≤ sizeLine) → TellsML P w h vs ds
  | _, _, .nil, _, _ => ⟨[], no_atMostM, .nil⟩
  | _, _, .cons (d := d) (ds := ds) x r, hs, hz => by
    have hs : (d.showable && PyData.showableAll ds) = true := hs
    rw [Bool.and_eq_true] at hs
    have hz : ∀ t ∈ d.shown :: PyData.shownAll ds, t.length ≤ sizeLine := hz
    obtain ⟨b1, m1, k1⟩ := Rm.tells x hs.1 (hz _ List.mem_cons_self)
    obtain ⟨b2, m2, k2⟩ := RmL.tells r hs.2 fun t ht => hz t (List.mem_cons_of_mem _ ht)
    have l1 : d.depth ≤ PyData.depthAll (d :: ds) := Nat.le_max_left _ _
    have l2 : PyData.depthAll ds ≤ PyData.depthAll (d :: ds) := Nat.le_max_right _ _
    exact ⟨b1 ++ b2, (m1.mono l1).append (m2.mono l2), .cons ((k1.more fun b q => List.mem_append_left _ q).level_le l1) (k2.more_le (fun b q => List.mem_append_right _ q) l2)⟩
end
end
section
variable {X : Cx} {pins : List (Addr × Obj)} {σ : L2.St} {H : Hp} {s : Shared}
theorem rm_keys {h : Heap} {P : Program} {w : World} : ∀ {ks : List (Key × V)} {kvs : List (Key × Value)} {es : List DictEntry} {ds : List (D × D)}, ImKV X.K H ks ds → KV ks kvs → Pairs (mixKind P w) es kvs → RmL h (es.map (·.key)) (ds.map (·.1))
  | _, _, _, _, .nil, .nil, .nil => .nil
  | _, _, _, _, .cons _ r, .cons hk rk, .cons he _ rp => by
    refine .cons ?_ (rm_keys r rk rp)
    have e := hk.1
    simp only at e
    subst e
    rcases keyIs_shape he with ⟨i, t, e1, e2⟩ | ⟨x, t, e1, e2⟩
    · dsimp only
      rw [e2]
      rw [e1]
      exact .int i t
    · dsimp only
      rw [e2]
      rw [e1]
      exact .str x t
mutual
theorem Im.rm (I : Inv X pins σ H s) : ∀ {v : V} (d : D) {u : Value}, Im X.K H v d → okDs d = true → RelV v u → Rm s.heap u d
  | _, .none, _, .non, _, r => by cases r; exact .non
  | _, .bool b, _, .bl _, _, r => by cases r; exact .bl b
  | _, .int i, _, .int _, _, r => by obtain ⟨t, rfl⟩ := r; exact .int i t
  | _, .str x, _, .str _, _, r => by obtain ⟨t, rfl⟩ := r; exact .str x t
  | _, .tuple ds, _, .tup h q, c, r => by
    cases r
    obtain ⟨its, rv, ⟨o, e, e2, n, e3⟩, _⟩ := I.tuple h.sq
    exact .tup e e2 e3 (by simpa using ImL.rm I ds q c rv)
  | _, .list ds, _, .lst h q, c, r => by
    cases r
    obtain ⟨its, rv, ⟨o, n, e, e2, _, e3⟩, _⟩ := I.list h.sq
    exact .lst e e2 e3 (by simpa using ImL.rm I ds q c rv)
  | _, .dict ds, _, .dic h q, c, r => by
    cases r
    obtain ⟨_, _, ns, vs, kv, d⟩ := I.hok _ _ h
    obtain ⟨o, es, ep, e, ex, hd, _, hl, _⟩ := d
    have c : okKv ds = true := c
    exact .dct e ex.1 hd ns (rm_keys q kv hl) (ImKV.rm I ds q c kv hl)
  | _, .dict _, _, .scr h, c, r => by cases c
  | _, .dict _, _, .prm _ _ _, c, r => by cases c
theorem ImL.rm (I : Inv X pins σ H s) : ∀ {vs : List V} (ds : List D) {us : List Value}, ImL X.K H vs ds → okDsL ds = true → Vals vs us → RmL s.heap us ds
  | _, [], _, .nil, _, r => by cases r; exact .nil
  | _, d :: ds, _, .cons h q, c, r => by
    have c : (okDs d && okDsL ds) = true := c
    rw [Bool.and_eq_true] at c
    cases r with
    | cons r1 r2 => exact .cons (Im.rm I d h c.1 r1) (ImL.rm I ds q c.2 r2)
theorem ImKV.rm (I : Inv X pins σ H s) : ∀ {ks : List (Key × V)} (ds : List (D × D)) {kvs : List (Key × Value)} {es : List DictEntry}, ImKV X.K H ks ds → okKv ds = true → KV ks kvs → Pairs (mixKind X.prog X.w) es kvs → RmL s.heap (es.map (·.val)) (ds.map (·.2))
  | _, [], _, _, .nil, _, .nil, .nil => .nil
  | _, (_, d) :: ds, _, _, .cons h q, c, .cons hk rk, .cons _ hv rp => by
    have c : (isKeyD _ && okDs d && okKv ds) = true := c
    rw [Bool.and_eq_true, Bool.and_eq_true] at c
    refine .cons ?_ (ImKV.rm I ds q c.2 rk rp)
    dsimp only
    rw [hv]
    exact Im.rm I d h c.1.2 hk.2
end
theorem Vw.rm {v : V} {d : D} {u : Value} (I : Inv X pins σ H s) (h : Vw X.K H v d) (c : okDs d = true) (r : RelV v u) : Rm s.heap u d := by
  cases h with
  | im h => exact Im.rm I d h c r
  | lst e q =>
    cases r
    obtain ⟨its, rv, ⟨o, n, e, e2, _, e3⟩, _⟩ := I.list (.inl (.inl e))
    exact .lst e e2 e3 (by simpa using ImL.rm I _ q c rv)
  | dic e q =>
    cases r
    obtain ⟨_, ns, vs, kv, d⟩ := I.hok _ _ e
    obtain ⟨o, es, ep, e, ex, hd, _, hl, _⟩ := d
    exact .dct e ex.1 hd ns (rm_keys q kv hl) (ImKV.rm I _ q c kv hl)
noncomputable def reprF : List D → Option D
  | [d] => if cb (d.showable = true ∧ okDs d = true ∧ d.depth ≤ 60 ∧ d.shown.length ≤ sizeLine) = true then some (.str d.shown) else none
  | _ => none
theorem c_reprF (g : X.A.guards = some []) (hu : X.A.units + 64 < cLine) : CallR X (.builtin "repr") (rQN X.K reprF) := by
  rintro pins s σ H xs us Q I r ⟨as, d, hx, e, q⟩
  unfold reprF at e
  split at e
  · next a =>
    split at e
    · next c =>
      cases e
      obtain ⟨hs, hn, hz, hl⟩ := of_cb c
      obtain ⟨x, rfl, h⟩ := hx.one
      obtain ⟨u, rfl, rx⟩ := vals1 r
      have rd := h.rm I hn rx
      have q1 := q (.str a.shown) H (Same.refl H) (.str _)
      have keep : ∀ (h' : Heap) (tk : Nat), (∀ b o, s.heap.get? b = some o → h'.get? b = some o) → Inv X pins σ H { s with heap := h', toks := tk } := fun h' tk hk => I.un (Un.kept hk) (I.hok.kept hk)
      have fin : ∀ (h' : Heap) (u : Tok) (tk : Nat), (∀ b o, s.heap.get? b = some o → h'.get? b = some o) → ∃ v H', Inv X pins σ H' { s with heap := h', toks := tk } ∧ RelV v (.str a.shown u) ∧ Q v H' := fun h' u tk hk => ⟨.str _, H, keep h' tk hk, ⟨u, rfl⟩, q1⟩
      have hu1 : X.A.units + 1 + a.depth < cLine := by omega
      cases rd with
      | non => exact PySem.P.repr_of_none (fin _ _ _ fun _ _ z => z)
      | bl b => exact PySem.P.repr_of_bool (fin _ _ _ fun _ _ z => z)
      | int i t => exact PySem.P.repr_of_int (of_decide_eq_true hs) (fin _ _ _ fun _ _ z => z)
      | str x t => exact PySem.P.repr_of_str (fin _ _ _ fun _ _ z => z) hl
      | lst h1 h2 h3 h4 =>
        rename_i p o vs n ds
        refine call_repr_slot (by omega) ⟨o, h1, h2⟩ F.slot_list_repr.toG ?_
        have hl' : (listText (PyData.shownAll ds)).length ≤ sizeLine := hl
        obtain ⟨bs, hb, hk⟩ := RmL.tells (P := X.prog) (w := X.w) h4 hs fun t ht => Nat.le_trans (listText_mem_le ht) hl'
        obtain ⟨_, rr⟩ := Rm.reads (Rm.lst h1 h2 h3 h4)
        have na := not_mem_of_deeper rr (Nat.lt_succ_self _) hb
        obtain ⟨l⟩ := vs
        cases l with
        | nil =>
          cases h4
          exact call_list_repr_empty ⟨o, h1, h2⟩ h1 h3 ⟨_, _, rfl, fin _ _ _ fun _ _ z => z⟩
        | cons y l => exact call_list_reprK h1 h2 h3 na (by simpa using hk.length_eq) (fun i y e => hk.item i y (by simpa using e)) g (fun b _ => Clear.nil b) hu1 (fun _ _ z => z) (fun h' u tk hk' => ⟨_, _, rfl, fin h' u tk hk'⟩) hl'
      | tup h1 h2 h3 h4 =>
        rename_i p o vs n ds
        refine call_repr_slot (by omega) ⟨o, h1, h2⟩ F.slot_tuple_repr ?_
        have hl' : (tupleText (PyData.shownAll ds)).length ≤ sizeLine := hl
        obtain ⟨bs, hb, hk⟩ := RmL.tells (P := X.prog) (w := X.w) h4 hs fun t ht => Nat.le_trans (tupleText_mem_le ht) hl'
        obtain ⟨_, rr⟩ := Rm.reads (Rm.tup h1 h2 h3 h4)
        have na := not_mem_of_deeper rr (Nat.lt_succ_self _) hb
        exact call_tuple_reprK h1 h2 h3 na hk g (fun b _ => Clear.nil b) hu1 (fun _ _ z => z) (fun h' u tk hk' => ⟨_, _, rfl, fin h' u tk hk'⟩) hl'
      | dct h1 h2 h3 h4 h5 h6 =>
        rename_i p o es n kvs
        refine call_repr_slot (by omega) ⟨o, h1, h2⟩ F.slot_dict_repr ?_
        have hz' : (dictText (PyData.shownKv kvs)).length ≤ sizeLine := by simpa only [PyData.shown] using hl
        obtain ⟨hs1, hs2⟩ := PyData.showableKv_split kvs (by simpa [PyData.showable] using hs)
        obtain ⟨b1, hb1, k1⟩ := RmL.tells (P := X.prog) (w := X.w) h5 hs1 (fun t ht => let ⟨p, hp, hl⟩ := PyData.shownKv_key_le kvs t ht; Nat.le_trans hl (Nat.le_trans (dictText_mem_le hp) hz'))
        obtain ⟨b2, hb2, k2⟩ := RmL.tells (P := X.prog) (w := X.w) h6 hs2 (fun t ht => let ⟨p, hp, hl⟩ := PyData.shownKv_val_le kvs t ht; Nat.le_trans hl (Nat.le_trans (dictText_mem_le hp) hz'))
        obtain ⟨_, rr⟩ := Rm.reads (Rm.dct h1 h2 h3 h4 h5 h6)
        have hb : ReadAtMost s.heap (PyData.depthKv kvs) (b1 ++ b2) := (hb1.mono (PyData.depthAll_keys_le kvs)).append (hb2.mono (PyData.depthAll_vals_le kvs))
        have na : p ∉ b1 ++ b2 := not_mem_of_deeper rr (by simp only [PyData.depth]; omega) hb
        have en := ReprEntriesK.of_two es.toList _ _ (k1.more_le (fun b hb => List.mem_append_left b2 hb) (PyData.depthAll_keys_le kvs)) (k2.more_le (fun b hb => List.mem_append_right b1 hb) (PyData.depthAll_vals_le kvs))
        rw [← PyData.shownKv_eq] at en
        exact call_dict_reprK (as := b1 ++ b2) (d := PyData.depthKv kvs) h1 h2 h3 h4 na en g (fun b _ => Clear.nil b) hu1 (fun _ _ z => z) (fun h' u tk hk' => ⟨_, _, rfl, fin h' u tk hk'⟩) hl
    · cases e
  · cases e
end
end Q
namespace Q
open PySem PySem.Spec PyProof.Rows L2 Gd
variable [Tbl]
/-! ### xs == [], whatever xs holds -/
def eqEmL (a b : D) : Option D := match a, b with
  | .list ds, .list [] => some (.bool ds.isEmpty)
  | _, _ => none
section
variable {X : Cx}
theorem o_eqEmL (hu : X.A.units + 64 < cLine) : OpR X (compareOp .Eq) (rQ2 X.K eqEmL) := by
  rintro pins s σ H x y v u Q I rx ry ⟨a, b, d, ha, hb, e, q⟩
  unfold eqEmL at e
  split at e
  · next ds =>
    cases e
    obtain ⟨p, xs, rfl, hp, ip⟩ := ha.list
    obtain ⟨p2, ys, rfl, hp2, ip2⟩ := hb.list
    cases ip2
    cases rx
    cases ry
    obtain ⟨its, r1, ⟨o1, n1, a1, a2, _, a3⟩, _⟩ := I.list hp
    have p1 : s.heap.IsList p its.toArray := ⟨o1, a1, a2, n1, by simpa using a3⟩
    obtain ⟨its2, r2, ⟨o2, n2, b1, b2, _, b3⟩, _⟩ := I.list hp2
    have q2 : s.heap.IsList p2 its2.toArray := ⟨o2, b1, b2, n2, by simpa using b3⟩
    cases r2
    cases ip with
    | nil =>
      cases r1
      exact SeqAt.RcAt.lists (e := fun _ => true) p1 q2 rfl (by omega) (fun j h1 h2 => absurd h2 (Nat.not_lt_zero _)) _ _ _ _ ⟨.bl true, H, I, rfl, q _ H (Same.refl H) (.bl _)⟩
    | cons _ _ =>
      cases r1
      exact SeqAt.RcAt.lists_lengths p1 q2 (by simp) (by omega) _ _ _ _ ⟨.bl false, H, I, rfl, q _ H (Same.refl H) (.bl _)⟩
  · cases e
end
end Q
namespace Gd
open PySem PySem.Spec PyProof.Rows L2
/-- nothing is known but locked lists and empty tables -/
def OnlyT (H : Hp) : Prop := ∀ b, H b = none ∨ H b = some (.tbl #[]) ∨ ∃ o xs, H b = some (.frz o (.lst xs))
/-- the goal that k_head leaves, by the promise of a law that makes lambdas; cs: the code objects and their tables -/
theorem law_callGT {P : Program} {w : World} {K : PySem.W.Frag} {mg mb : Str → Option Value} {k : Nat} {fa a : Addr} {cs : List (Addr × Addr)} {fd : FuncData} {x : Str} {sp : Sp} {s₁ : Shared} {vs : List Value} {ns : List Int}
    (kin : K.In s₁.heap) (hns : s₁.heap.Ns mainGlobals mg) (hb : s₁.heap.Ns builtinsNs mb) (hbb : ∀ x : Str, x ≠ "__name__" → mb x = bootBuiltins x) (hlim : s₁.heap.NoLimit) (hg : s₁.gens = #[])
    (tO : ∀ p ∈ cs, s₁.heap.get? p.2 = some { cls := .none, data := .fields #[] }) (tN : ∀ p ∈ cs, K.lookup p.2 = none) (tC : ∀ p ∈ cs, PySem.W.CodeHd s₁.heap p.1 p.2)
    (tM : ∃ (bm : Addr) (ob : Obj), mg "__builtins__" = some (.ref bm) ∧ bm ≠ builtinsNs ∧ s₁.heap.get? bm = some ob ∧ ob.cls = .type "module" ∧ ob.dict = some builtinsNs ∧ ob.data = .plain)
    (ha : s₁.heap.get? a = some { cls := .type "list", data := .seq vs.toArray }) (hi : IntsAre vs ns) (hl : ns.length ≤ sizeLine) (room : Room k callerA)
    (F : ∀ base : Heap, K.In base → base.Ns mainGlobals mg → (∀ p ∈ cs, LamX.TabB base mg p.1 p.2) → FnG P w K mg base k fa fd [x] sp) (bind : ∀ (s : Shared) (u : Value), BindsTo s fd ⟨[u], []⟩ [(x, u)])
    (want : ∀ H : Hp, OnlyT H → (∀ p ∈ cs, H p.2 = some (.tbl #[])) → SqL K H a (ns.map V.int) → sp [.ref a] H (fun v _ => v = .bl true) fun _ _ _ => False) :
    codeAny (model P w) callerA (.call (.ref fa) ⟨[.ref a], []⟩) (fun r s' => r = .ok (.ret (.bool true)) ∧ OldK s₁.heap s'.heap ∧ s'.os = s₁.os ∧ AllBare s'.gens) s₁ := by
  have tab : ∀ b : Addr, (b ∈ cs.map fun p => p.2) → ∃ p ∈ cs, p.2 = b := fun b h => List.mem_map.mp h
  have noa : ∀ p ∈ cs, p.2 ≠ a := fun p hp z => by
    have e := tO p hp
    rw [z, ha] at e
    exact Data.noConfusion (congrArg Obj.data (Option.some.inj e))
  have main : ∀ H : Hp, OnlyT H → (∀ p ∈ cs, H p.2 = some (.tbl #[])) → SqL K H a (ns.map V.int) → HOk P w H s₁.heap → (∀ b u, H b = some u → (b = a ∧ K.lookup a = none) ∨ ∃ p ∈ cs, p.2 = b) →
      codeAny (model P w) callerA (.call (.ref fa) ⟨[.ref a], []⟩) (fun r s' => r = .ok (.ret (.bool true)) ∧ OldK s₁.heap s'.heap ∧ s'.os = s₁.os ∧ AllBare s'.gens) s₁ := by
    intro H hO hT hS hok hA
    have off : ∀ {b : Addr} {o : Obj}, s₁.heap.get? b = some o → (∀ us n, o.data ≠ .seq us n) → o.data ≠ .fields #[] → H b = none := by
      intro b o e n1 n2
      cases q : H b with
      | none => rfl
      | some u =>
        rcases hA b u q with ⟨rfl, _⟩ | ⟨p, hp, rfl⟩
        · rw [ha] at e
          cases e
          exact absurd rfl (n1 _ _)
        · rw [tO p hp] at e
          cases e
          exact absurd rfl n2
    have offd : ∀ {b : Addr} {o : Obj} {es : Array DictEntry} {ep : Nat}, s₁.heap.get? b = some o → o.data = .dict es ep → H b = none := fun {b o es ep} e d =>
      off e (fun us n z => by rw [d] at z; cases z) fun z => by rw [d] at z; cases z
    have names : ∀ {b : Addr} {m : Str → Option Value}, s₁.heap.Ns b m → (hidT s₁.heap H).Ns b m := by
      rintro b m ⟨o, es, ep, e, d, r⟩
      exact ⟨o, es, ep, hidT_get e (offd e d), d, r⟩
    have kin' : K.In (hidT s₁.heap H) := by
      intro b o e
      refine hidT_get (kin b o e) ?_
      cases q : H b with
      | none => rfl
      | some u =>
        rcases hA b u q with ⟨rfl, z⟩ | ⟨p, hp, rfl⟩
        · rw [z] at e
          cases e
        · rw [tN p hp] at e
          cases e
    have hM : Mod K mg (hidT s₁.heap H) := by
      obtain ⟨mc, l1, l2⟩ := hlim
      exact ⟨kin', names hns, ⟨mb, names hb, hbb⟩, ⟨mc, names l1, l2⟩⟩
    have tB : ∀ p ∈ cs, LamX.TabB (hidT s₁.heap H) mg p.1 p.2 := by
      intro p hp
      refine ⟨?_, ?_, fun z => ?_⟩
      · obtain ⟨o, us, file, tf, flags, tg, inF, text, tt, e1, r1, r2, r3, rest⟩ := tC p hp
        refine ⟨o, us, file, tf, flags, tg, inF, text, tt, hidT_get e1 (off e1 (fun vs n z => by rw [r2] at z; cases z) fun z => ?_), r1, r2, r3, rest⟩
        rw [r2] at z
        cases z
        simp at r3
      · obtain ⟨bm, ob, b1, b2, b3, b4, b5, b6⟩ := tM
        refine ⟨bm, ob, b1, b2, fun q => ?_, fun q => ?_, hidT_get b3 (off b3 (fun vs n z => by rw [b6] at z; cases z) fun z => by rw [b6] at z; cases z), b4, b5, b6⟩
        · obtain ⟨o, es, ep, e, hd, _⟩ := hns
          rw [q, e] at b3
          cases b3
          rw [hd] at b6
          cases b6
        · rw [q, tO p hp] at b3
          cases b3
          cases b6
      · obtain ⟨o, es, ep, e, hd, _⟩ := hns
        rw [z, tO p hp] at e
        cases e
        cases hd
    have env0 : Env0 P w K mg (hidT s₁.heap H) callerA [] s₁ H :=
      ⟨rfl, hM, fun b o e => of_hidT e, Nat.le_of_eq (hidT_size _ _), trivial, fun b hb => (nomatch hb), hok, .of_eq hg⟩
    refine codeAny_mono ((F _ kin' (names hns) tB).go (us := [.ref a]) (vs := [.ref a]) rfl room env0 (bind s₁ (.ref a)) (.cons rfl .nil) (want H hO hT hS)) fun r s' h => ?_
    cases r with
    | error e => exact h.elim
    | ok fl =>
      cases fl with
      | next => exact False.elim h
      | brk => exact False.elim h
      | cont => exact False.elim h
      | ret u =>
        obtain ⟨v, H', os, bare, un, hok', r', q⟩ := h
        have q' : v = .bl true := q
        subst q'
        obtain rfl : u = Value.bool true := r'
        have more : ∀ p ∈ cs, ∃ us : Array Value, s'.heap.get? p.2 = some { cls := .none, data := .fields us } := fun p hp => by
          obtain ⟨us, z⟩ := un.tbls p.2 #[] (hT p hp)
          exact ⟨_, hok' p.2 _ z⟩
        have same : ∀ b o, (∀ p ∈ cs, p.2 ≠ b) → s₁.heap.get? b = some o → s'.heap.get? b = some o := fun b o nb e => by
          cases z : H b with
          | none => exact un.keep b o e z (fun y => (nomatch y)) (fun y => (nomatch y))
          | some u =>
            rcases hA b u z with ⟨rfl, _⟩ | ⟨p, hp, y⟩
            · rcases hO b with y | y | ⟨ob, xs, y⟩
              · rw [z] at y
                cases y
              · have y2 : s₁.heap.get? b = some { cls := .none, data := .fields #[] } := hok b _ y
                rw [ha] at y2
                exact Data.noConfusion (congrArg Obj.data (Option.some.inj y2))
              · obtain ⟨e1, _⟩ := hok b _ y
                obtain ⟨e2, _⟩ := hok' b _ (un.frzs b ob _ y)
                rw [e] at e1
                cases e1
                exact e2
            · exact absurd y (nb p hp)
        refine ⟨rfl, ⟨fun b o e => ?_, fun b o e => ?_⟩, os, bare⟩
        · by_cases hb : ∃ p ∈ cs, p.2 = b
          · obtain ⟨p, hp, rfl⟩ := hb
            obtain ⟨us, hm⟩ := more p hp
            rw [tO p hp] at e
            cases e
            exact .inr (.inl ⟨((tC p hp).tab (tO p hp)).isCodeTable, rfl, #[], us, rfl, by rw [Array.empty_append]; exact hm⟩)
          · exact .inl (same b o (fun p hp y => hb ⟨p, hp, y⟩) e)
        · by_cases hb : ∃ p ∈ cs, p.2 = b
          · obtain ⟨p, hp, rfl⟩ := hb
            exact (more p hp).elim fun us hm => ⟨_, hm⟩
          · exact ⟨o, same b o (fun p hp y => hb ⟨p, hp, y⟩) e⟩
  have lenV := hi.length
  have rv := vals_ints hi
  have tabs : ∀ {b : Addr}, b ∈ (cs.map fun p => p.2) → HOk P w (fun _ => none) s₁.heap → s₁.heap.get? b = some { cls := .none, data := .fields #[] } := fun {b} h _ => by
    obtain ⟨p, hp, rfl⟩ := tab b h
    exact tO p hp
  cases hk : K.lookup a with
  | some o =>
    have e := kin a o hk
    rw [ha] at e
    cases e
    refine main (fun b => if b ∈ (cs.map fun p => p.2) then some (.tbl #[]) else none) (fun b => ?_) (fun p hp => if_pos (List.mem_map.mpr ⟨p, hp, rfl⟩)) (.inr ⟨_, vs.toArray, _, hk, rfl, rfl, rfl, ?_, ?_⟩) (fun b u z => ?_) (fun b u z => ?_)
    · by_cases h : b ∈ (cs.map fun p => p.2)
      · exact .inr (.inl (if_pos h))
      · exact .inl (if_neg h)
    · rw [List.size_toArray, lenV]
      exact hl
    · simpa using rv
    · try dsimp only at z
      split at z
      · next h =>
        cases z
        obtain ⟨p, hp, rfl⟩ := tab b h
        exact tO p hp
      · cases z
    · try dsimp only at z
      split at z
      · next h => exact .inr (tab b h)
      · cases z
  | none =>
    refine main (fun b => if b = a then some (HO.frz { cls := .type "list", data := .seq vs.toArray } (.lst (ns.map V.int))) else if b ∈ (cs.map fun p => p.2) then some (.tbl #[]) else none) (fun b => ?_) (fun p hp => ?_) (.inl (.inr ⟨_, if_pos rfl⟩)) (fun b u z => ?_) (fun b u z => ?_)
    · by_cases hb : b = a
      · exact .inr (.inr ⟨_, _, if_pos hb⟩)
      · by_cases h : b ∈ (cs.map fun p => p.2)
        · exact .inr (.inl ((if_neg hb).trans (if_pos h)))
        · exact .inl ((if_neg hb).trans (if_neg h))
    · exact (if_neg (noa p hp)).trans (if_pos (List.mem_map.mpr ⟨p, hp, rfl⟩))
    · try dsimp only at z
      split at z
      · next h =>
        cases z
        subst h
        exact ⟨ha, by rw [List.length_map]; exact hl, vs, _, rv, ha⟩
      · split at z
        · next h =>
          cases z
          obtain ⟨p, hp, rfl⟩ := tab b h
          exact tO p hp
        · cases z
    · try dsimp only at z
      split at z
      · next h => exact .inl ⟨h, hk⟩
      · split at z
        · next h => exact .inr (tab b h)
        · cases z
theorem walkGT {l : PySem.W.OpenLaw} {n k : Nat} {q : Program} {loose : List Str} {XP : (Str → Option Value) → Heap → Prop} {YP : World → Heap → Prop} {d : DefRec} {K : Params → PySem.W.Frag} {x : Str}
    (hn : l.most = some n) (hn2 : n ≤ sizeLine) (hdf : d.params.defaults = []) (room : Room k callerA) (hY : ∀ (w : World) (h : Heap), YP w h → (K w.params).In h)
    (F : ∀ (w : World) (mg : Str → Option Value) (fa : Addr) (h : Heap), YP w h → (K w.params).In h → h.Ns mainGlobals mg → mg d.name = some (.ref fa) → ∃ (fd : FuncData) (cs : List (Addr × Addr)) (sp : Sp), (∀ p ∈ cs, h.get? p.2 = some { cls := .none, data := .fields #[] }) ∧ (∀ p ∈ cs, (K w.params).lookup p.2 = none) ∧ (∀ p ∈ cs, PySem.W.CodeHd h p.1 p.2) ∧ (∀ (s : Shared) (u : Value), BindsTo s fd ⟨[u], []⟩ [(x, u)]) ∧
      (∀ (H : Hp) (a : Addr) (ns : List Int), ns.length ≤ n → OnlyT H → (∀ p ∈ cs, H p.2 = some (.tbl #[])) → SqL (K w.params) H a (ns.map V.int) → sp [.ref a] H (fun v _ => v = .bl true) fun _ _ _ => False) ∧
        ∀ base : Heap, (K w.params).In base → base.Ns mainGlobals mg → (∀ p ∈ cs, LamX.TabB base mg p.1 p.2) → FnG l.prog w (K w.params) mg base k fa fd [x] sp) :
    PySem.W.WalkO q loose XP YP l.row.toRowW d [] (fun f vs => PySem.call f vs) :=
  Att.attach_callB hn hdf fun w s₀ s₁ mg mb fa o pm cd doc a vs ns G Y ho hd hcd hmg hobj hints hlen hbits hg => by
    obtain ⟨fd, cs, sp, t1, t2, t3, hb, want, hF⟩ := F w mg fa _ Y (hY w _ Y) G.T.g hmg
    exact law_callGT (hY w _ Y) G.T.g G.T.b G.T.builtins G.T.nolimit hg t1 t2 t3 G.T.bmain hobj hints (Nat.le_trans hlen hn2) room hF hb fun H h1 h2 h3 => want H a ns hlen h1 h2 h3
end Gd
namespace Z
open PySem PySem.Spec PyProof.Rows L2 Gd Q
def topS (i : Nat) : Stmt := PySem.Challenge.pw_movingpages_k37_values_that_are_no_token.main.body.getD i (.Pass ⟨0, 0, 0, 0⟩)
abbrev s_i_BadToken : Stmt := (cbody (topS 2)).getD 0 (.Pass ⟨0, 0, 0, 0⟩)
theorem sc_i_BadToken : FnScope ["self", "token"] ["self", "token"] (defScope s_i_BadToken) := ⟨rfl, rfl, rfl, by decide +kernel, rfl, by decide +kernel, by decide +kernel⟩
/-! ### _law_hand -/
abbrev s__law_hand : Stmt := topS 18
abbrev n__law_hand : List Str := ["_law_script", "_law_k", "_law_cell", "_law_great"]
theorem sc__law_hand : FnScope n__law_hand ["_law_script", "_law_k"] (defScope s__law_hand) := ⟨rfl, rfl, rfl, by decide +kernel, rfl, by decide +kernel, by decide +kernel⟩
noncomputable def b__law_hand : Mo Out := (bSeq (bSet 2 (eIf (asB (e2 ltD (eVar 1) (eN lenD (eCons (eVar 0) eNil)))) (e2 ixD (eVar 0) (eVar 1)) (e2 addD (e2 mulA (eC (.int 7)) (eVar 1)) (eC (.int 3))))) (bSeq (bSet 3 (e2 mulA (e2 modD (eN absD (eCons (eVar 2) eNil)) (e2 mulA (e2 mulA (e2 mulA (e2 powD (eC (.int 10)) (eC (.int 60))) (e2 powD (eC (.int 10)) (eC (.int 60)))) (e2 powD (eC (.int 10)) (eC (.int 60)))) (e2 powD (eC (.int 10)) (eC (.int 60))))) (eN intD (eCons (e2 geD (eN absD (eCons (eVar 2) eNil)) (e2 powD (eC (.int 10)) (eC (.int 18)))) eNil)))) (bSeq (bRetF (fLst (eCons (eVar 3) (eCons (e2 modD (e2 mulA (e2 addD (e2 addD (e2 modD (eVar 2) (eC (.int 2305843009213693951))) (e2 mulA (e2 mulA (eC (.int 104729)) (eVar 1)) (eVar 1))) (eC (.int 29))) (eC (.int 48271))) (eC (.int 2305843009213693921))) (eCons (eC (.int 0)) eNil))))) bNil)))
noncomputable def F__law_hand : Fn := fnOf 2 4 b__law_hand
/-! ### _law_take -/
abbrev s__law_take : Stmt := topS 19
abbrev n__law_take : List Str := ["_law_hand_here", "_law_many", "_law_digit", "_law_turn", "_law_prime", "_law_mixed"]
theorem sc__law_take : FnScope n__law_take ["_law_hand_here", "_law_many"] (defScope s__law_take) := ⟨rfl, rfl, rfl, by decide +kernel, rfl, by decide +kernel, by decide +kernel⟩
noncomputable def b__law_take : Mo Out := (bSeq (bIf (asB (e2 gtD (e2 ixD (eVar 0) (eC (.int 0))) (eC (.int 0)))) (bSeq (bSet 2 (e2 modD (e2 ixD (eVar 0) (eC (.int 0))) (eVar 1))) (bSeq (bSetIx 0 (e2 fdivD (e2 ixD (eVar 0) (eC (.int 0))) (eVar 1)) (eC (.int 0))) (bSeq (bRet (eVar 2)) bNil))) bNil) (bSeq (bSetIx 0 (e2 addD (e2 ixD (eVar 0) (eC (.int 2))) (eC (.int 1))) (eC (.int 2))) (bSeq (bSet 3 (e2 ixD (eVar 0) (eC (.int 2)))) (bSeq (bSet 4 (e2 ixD (eLock (fLst (eCons (eC (.int 2147483647)) (eCons (eC (.int 2147483629)) (eCons (eC (.int 2147483587)) (eCons (eC (.int 2147483579)) (eCons (eC (.int 2147483563)) (eCons (eC (.int 2147483549)) eNil)))))))) (e2 modD (eVar 3) (eC (.int 6))))) (bSeq (bSet 5 (e2 modD (e2 powD (e2 addD (e2 addD (e2 ixD (eVar 0) (eC (.int 1))) (e2 mulA (e2 mulA (eC (.int 65537)) (eVar 3)) (eVar 3))) (e2 mulA (eC (.int 31)) (eVar 3))) (eC (.int 3))) (eVar 4))) (bSeq (bRet (e2 modD (e2 fdivD (e2 modD (e2 mulA (eVar 5) (e2 addD (e2 modD (eVar 5) (eC (.int 10007))) (e2 mulA (eC (.int 13)) (eVar 3)))) (eC (.int 2305843009213693907))) (eC (.int 97))) (eVar 1))) bNil))))))
noncomputable def F__law_take : Fn := fnOf 2 6 b__law_take
/-! ### _law_pick -/
abbrev s__law_pick : Stmt := topS 20
abbrev n__law_pick : List Str := ["_law_hand_here", "_law_items"]
theorem sc__law_pick : FnScope n__law_pick ["_law_hand_here", "_law_items"] (defScope s__law_pick) := ⟨rfl, rfl, rfl, by decide +kernel, rfl, by decide +kernel, by decide +kernel⟩
noncomputable def b__law_pick : Mo Out := (bSeq (bRet (e2 ixD (eVar 1) (eCall F__law_take (eCons (eVar 0) (eCons (eN lenD (eCons (eVar 1) eNil)) eNil))))) bNil)
noncomputable def F__law_pick : Fn := fnOf 2 2 b__law_pick
/-! ### _law_names -/
abbrev s__law_names : Stmt := topS 21
abbrev n__law_names : List Str := ["_law_hand_here", "_law_count", "_law_letters", "_law_first", "_law_leap", "_law_stem", "_law_cut", "_law_nth"]
theorem sc__law_names : FnScope n__law_names ["_law_hand_here", "_law_count"] (defScope s__law_names) := ⟨rfl, rfl, rfl, by decide +kernel, rfl, by decide +kernel, by decide +kernel⟩
noncomputable def b__law_names : Mo Out := (bSeq (bSet 2 (eC (.str abcS))) (bSeq (bAsg (eTup (eCons (eCall F__law_take (eCons (eVar 0) (eCons (eC (.int 26)) eNil))) (eCons (eCall F__law_pick (eCons (eVar 0) (eCons (eLock (fLst (eCons (eC (.int 1)) (eCons (eC (.int 3)) (eCons (eC (.int 5)) (eCons (eC (.int 7)) (eCons (eC (.int 9)) (eCons (eC (.int 11)) (eCons (eC (.int 25)) eNil))))))))) eNil))) eNil))) (gT 2 (gsCons (gN 3) (gsCons (gN 4) gsNil)))) (bSeq (bSet 5 (e2 mulA (eCall F__law_pick (eCons (eVar 0) (eCons (eVar 2) eNil))) (eCall F__law_pick (eCons (eVar 0) (eCons (eLock (fLst (eCons (eC (.int 0)) (eCons (eC (.int 0)) (eCons (eC (.int 1)) (eCons (eC (.int 3)) (eCons (eC (.int 7)) eNil))))))) eNil))))) (bSeq (bSet 6 (eCall F__law_take (eCons (eVar 0) (eCons (e2 addD (eN lenD (eCons (eVar 5) eNil)) (eC (.int 1))) eNil)))) (bSeq (bRetF (fComp (iN range1D (eCons (eVar 1) eNil)) (gN 7) bYes (e2 addD (e2 addD (eSl (eVar 5) pNo (pSo (eVar 6))) (e2 ixD (eVar 2) (e2 modD (e2 addD (eVar 3) (e2 mulA (eVar 4) (eVar 7))) (eC (.int 26))))) (eSl (eVar 5) (pSo (eVar 6)) pNo)) [7])) bNil)))))
noncomputable def F__law_names : Fn := fnOf 2 8 b__law_names
/-! ### _law_shuffled -/
abbrev s__law_shuffled : Stmt := topS 22
abbrev n__law_shuffled : List Str := ["_law_hand_here", "_law_items", "_law_rest", "_law_found"]
theorem sc__law_shuffled : FnScope n__law_shuffled ["_law_hand_here", "_law_items"] (defScope s__law_shuffled) := ⟨rfl, rfl, rfl, by decide +kernel, rfl, by decide +kernel, by decide +kernel⟩
noncomputable def b__law_shuffled : Mo Out := (bSeq (bPar 2 3 (.ff (fN listD (eCons (eVar 1) eNil))) (.ff (fLst eNil))) (bSeq (whileD (asB (e2 neF (eVar 2) (eLock (fLst eNil)))) (bSeq (bEx (eMut appF 3 (eCons (eMut popF 2 (eCons (eCall F__law_take (eCons (eVar 0) (eCons (eN lenD (eCons (eVar 2) eNil)) eNil))) eNil)) eNil))) bNil) 1000) (bSeq (bRet (eVar 3)) bNil)))
noncomputable def F__law_shuffled : Fn := fnOf 2 4 b__law_shuffled
/-! ### _law_odd -/
abbrev s__law_odd : Stmt := topS 25
abbrev n__law_odd : List Str := ["_law_hand_here", "_law_orders_here", "_law_token", "_law_place", "_law_odd_here", "_law_some", "_law_order"]
theorem sc__law_odd : FnScope n__law_odd ["_law_hand_here", "_law_orders_here"] (defScope s__law_odd) := ⟨rfl, rfl, rfl, by decide +kernel, rfl, by decide +kernel, by decide +kernel⟩
noncomputable def b__law_odd : Mo Out := (bSeq (bSet 2 (eN tupleD (eCons (eLock (fComp (iSeq (eVar 1)) (gN 6) bYes (eCall F__law_take (eCons (eVar 0) (eCons (e2 addD (eN lenD (eCons (eVar 6) eNil)) (eC (.int 1))) eNil))) [6])) eNil))) (bSeq (bSet 3 (eCall F__law_take (eCons (eVar 0) (eCons (e2 addD (eN lenD (eCons (eVar 2) eNil)) (eC (.int 1))) eNil)))) (bSeq (bSet 4 (eCall F__law_pick (eCons (eVar 0) (eCons (eLock (fLst (eCons (e1 negD (eC (.int 1))) (eCons (eC (.bool true)) (eCons (eC (.bool false)) (eCons (eC .none) (eCons (eC (.str "1")) (eCons (eTup (eCons (eC (.int 1)) eNil)) (eCons (eLock (fLst eNil)) (eCons (e2 powD (eC (.int 10)) (eC (.int 29))) (eCons (eC (.int 6)) (eCons (eC (.int 5)) (eCons (eC (.int 0)) (eCons (eC (.int 1)) eNil)))))))))))))) eNil)))) (bSeq (bSet 5 (eLock (fLst (eCons (eVar 2) (eCons (eVar 2) (eCons (eLock (fN listD (eCons (eVar 2) eNil))) (eCons (e2 addD (eVar 2) (eTup (eCons (eVar 4) eNil))) (eCons (eSl (eVar 2) (pSo (eC (.int 1))) pNo) (eCons (e2 addD (e2 addD (eSl (eVar 2) pNo (pSo (eVar 3))) (eTup (eCons (eVar 4) eNil))) (eSl (eVar 2) (pSo (e2 addD (eVar 3) (eC (.int 1)))) pNo)) (eCons (eTup (eCons (eVar 2) eNil)) eNil)))))))))) (bSeq (bSet 5 (eLock (f2 cat2 (eVar 5) (eLock (fLst (eCons (e2 addD (e2 addD (eSl (eVar 2) pNo (pSo (eVar 3))) (eTup (eCons (eVar 4) eNil))) (eSl (eVar 2) (pSo (eVar 3)) pNo)) (eCons (eC .none) (eCons (eC (.int 0)) (eCons (eC (.str "")) (eCons (eTup eNil) (eCons (eLock (fLst eNil)) (eCons (eLock fNewD) (eCons (eC (.bool true)) (eCons (eLock (fDisp1 (eC (.int 0)) (eVar 2))) (eCons (e1 revF (eVar 2)) eNil))))))))))))))) (bSeq (bRet (eCall F__law_pick (eCons (eVar 0) (eCons (eVar 5) eNil)))) bNil))))))
noncomputable def F__law_odd : Fn := fnOf 2 7 b__law_odd
/-! ### _law_caught -/
abbrev s__law_caught : Stmt := topS 26
abbrev n__law_caught : List Str := ["_law_call", "error"]
theorem sc__law_caught : FnScope n__law_caught ["_law_call"] (defScope s__law_caught) := ⟨rfl, rfl, rfl, by decide +kernel, rfl, by decide +kernel, by decide +kernel⟩
noncomputable def b__law_caught (f_ : Addr) (r_ : Rt D) : Mo Out := (bSeq (bTryT [("BadToken", true)] 1 (bSeq (bRet (eTup (eCons (eC (.str "value")) (eCons (eThk f_ 0 r_) eNil)))) bNil) (bSeq (bRet (eTup (eCons (eC (.str "error")) (eCons (eFldX ["BadToken"] "token" 1) eNil)))) bNil)) bNil)
noncomputable def F__law_caught : Addr → Rt D → Option D := thOf 2 b__law_caught
/-! ### union_of -/
abbrev s_union_of : Stmt := topS 13
abbrev n_union_of : List Str := ["groups", "rows", "row"]
theorem sc_union_of : FnScope n_union_of ["groups"] (defScope s_union_of) := ⟨rfl, rfl, rfl, by decide +kernel, rfl, by decide +kernel, by decide +kernel⟩
noncomputable def b_union_of : Mo Out := (bSeq (bRet (eN tupleD (eCons (eLock (fSc2 (iSeq (eVar 0)) (gN 1) (iSeq (eVar 1)) (gN 2) (eVar 2) [1, 2] [2])) eNil))) bNil)
noncomputable def F_union_of : Fn := fnOf 1 3 b_union_of
/-! ### is_integer_within -/
abbrev s_is_integer_within : Stmt := topS 4
abbrev n_is_integer_within : List Str := ["value", "low", "high"]
theorem sc_is_integer_within : FnScope n_is_integer_within ["value", "low", "high"] (defScope s_is_integer_within) := ⟨rfl, rfl, rfl, by decide +kernel, rfl, by decide +kernel, by decide +kernel⟩
noncomputable def b_is_integer_within : Mo Out := (bSeq (bIf (bOr (asB (e1 (isiD "bool") (eVar 0))) (bNot (asB (e1 (isiD "int") (eVar 0))))) (bSeq (bRet (eC (.bool false))) bNil) bNil) (bSeq (bRet (eChain leD leD (eVar 1) (eVar 0) (eVar 2))) bNil))
noncomputable def F_is_integer_within : Fn := fnOf 3 3 b_is_integer_within
/-! ### is_token -/
abbrev s_is_token : Stmt := topS 12
abbrev n_is_token : List Str := ["orders", "value", "order", "many"]
theorem sc_is_token : FnScope n_is_token ["orders", "value"] (defScope s_is_token) := ⟨rfl, rfl, rfl, by decide +kernel, rfl, by decide +kernel, by decide +kernel⟩
noncomputable def b_is_token : Mo Out := (bSeq (bIf (bOr (bNot (asB (e1 (isiD "tuple") (eVar 1)))) (asB (e2 neF (eN lenD (eCons (eVar 1) eNil)) (eN lenD (eCons (eVar 0) eNil))))) (bSeq (bRet (eC (.bool false))) bNil) bNil) (bSeq (bRet (eN allD (eCons (eLock (fComp (iMap zipF (eCons (eVar 0) (eCons (eVar 1) eNil))) (gT 2 (gsCons (gN 2) (gsCons (gN 3) gsNil))) bYes (eCall F_is_integer_within (eCons (eVar 3) (eCons (eC (.int 0)) (eCons (eN lenD (eCons (eVar 2) eNil)) eNil)))) [2, 3])) eNil))) bNil))
noncomputable def F_is_token : Fn := fnOf 2 4 b_is_token
/-! ### decode_token -/
abbrev s_decode_token : Stmt := topS 11
abbrev n_decode_token : List Str := ["orders", "token", "order", "many"]
theorem sc_decode_token : FnScope n_decode_token ["orders", "token"] (defScope s_decode_token) := ⟨rfl, rfl, rfl, by decide +kernel, rfl, by decide +kernel, by decide +kernel⟩
noncomputable def b_decode_token : Mo Out := (bSeq (bIf (bNot (asB (eCall F_is_token (eCons (eVar 0) (eCons (eVar 1) eNil))))) (bSeq (bRaise "BadToken" "token" (eCons (eVar 1) eNil)) bNil) bNil) (bSeq (bRet (eCall F_union_of (eCons (eLock (fComp (iMap zipF (eCons (eVar 0) (eCons (eVar 1) eNil))) (gT 2 (gsCons (gN 2) (gsCons (gN 3) gsNil))) bYes (eSl (eVar 2) pNo (pSo (eVar 3))) [2, 3])) eNil))) bNil))
noncomputable def F_decode_token : Fn := fnX 2 4 b_decode_token
/-! ### prefix_length -/
abbrev s_prefix_length : Stmt := topS 8
abbrev n_prefix_length : List Str := ["version", "live", "rows", "place", "row"]
theorem sc_prefix_length : FnScope n_prefix_length ["version", "live", "rows"] (defScope s_prefix_length) := ⟨rfl, rfl, rfl, by decide +kernel, rfl, by decide +kernel, by decide +kernel⟩
noncomputable def b_prefix_length : Mo Out := (bSeq (bFor (iMap enF (eCons (eVar 0) eNil)) (gT 2 (gsCons (gN 3) (gsCons (gN 4) gsNil))) (bSeq (bIf (bAnd (asB (e2 ninF (eVar 4) (eVar 2))) (asB (e2 inF (eVar 4) (eVar 1)))) (bSeq (bRet (eVar 3)) bNil) bNil) bNil)) (bSeq (bRet (eN lenD (eCons (eVar 0) eNil))) bNil))
noncomputable def F_prefix_length : Fn := fnOf 3 5 b_prefix_length
/-! ### encode_state -/
abbrev s_encode_state : Stmt := topS 10
abbrev n_encode_state : List Str := ["orders", "rows", "order"]
theorem sc_encode_state : FnScope n_encode_state ["orders", "rows"] (defScope s_encode_state) := ⟨rfl, rfl, rfl, by decide +kernel, rfl, by decide +kernel, by decide +kernel⟩
noncomputable def b_encode_state : Mo Out := (bSeq (bRet (eN tupleD (eCons (eLock (fComp (iSeq (eVar 0)) (gN 2) bYes (eCall F_prefix_length (eCons (eVar 2) (eCons (eVar 2) (eCons (eVar 1) eNil)))) [2])) eNil))) bNil)
noncomputable def F_encode_state : Fn := fnOf 2 3 b_encode_state
/-! ### normalize_token -/
abbrev s_normalize_token : Stmt := topS 14
abbrev n_normalize_token : List Str := ["orders", "token"]
theorem sc_normalize_token : FnScope n_normalize_token ["orders", "token"] (defScope s_normalize_token) := ⟨rfl, rfl, rfl, by decide +kernel, rfl, by decide +kernel, by decide +kernel⟩
noncomputable def b_normalize_token : Mo Out := (bSeq (bRet (eCall F_encode_state (eCons (eVar 0) (eCons (eCallX F_decode_token (eCons (eVar 0) (eCons (eVar 1) eNil))) eNil)))) bNil)
noncomputable def F_normalize_token : Fn := fnX 2 2 b_normalize_token
/-! ### page_of -/
abbrev s_page_of : Stmt := topS 6
abbrev n_page_of : List Str := ["version", "sent", "count", "unsent", "row"]
theorem sc_page_of : FnScope n_page_of ["version", "sent", "count"] (defScope s_page_of) := ⟨rfl, rfl, rfl, by decide +kernel, rfl, by decide +kernel, by decide +kernel⟩
noncomputable def b_page_of : Mo Out := (bSeq (bSet 3 (eLock (fComp (iSeq (eVar 0)) (gN 4) (asB (e2 ninF (eVar 4) (eVar 1))) (eVar 4) [4]))) (bSeq (bRet (eN tupleD (eCons (eLock (fSl (eVar 3) pNo (pSo (eVar 2)))) eNil))) bNil))
noncomputable def F_page_of : Fn := fnOf 3 5 b_page_of
/-! ### send_page -/
abbrev s_send_page : Stmt := topS 16
abbrev n_send_page : List Str := ["orders", "version", "token", "count", "sent", "page"]
theorem sc_send_page : FnScope n_send_page ["orders", "version", "token", "count"] (defScope s_send_page) := ⟨rfl, rfl, rfl, by decide +kernel, rfl, by decide +kernel, by decide +kernel⟩
noncomputable def b_send_page : Mo Out := (bSeq (bSet 4 (eCallX F_decode_token (eCons (eVar 0) (eCons (eVar 2) eNil)))) (bSeq (bSet 5 (eCall F_page_of (eCons (eVar 1) (eCons (eVar 4) (eCons (eVar 3) eNil))))) (bSeq (bRet (eTup (eCons (eVar 5) (eCons (eCall F_encode_state (eCons (eVar 0) (eCons (eCall F_union_of (eCons (eLock (fLst (eCons (eVar 4) (eCons (eVar 5) eNil)))) eNil)) eNil))) eNil)))) bNil)))
noncomputable def F_send_page : Fn := fnX 4 6 b_send_page
/-! ### _law_is_token -/
abbrev s__law_is_token : Stmt := topS 24
abbrev n__law_is_token : List Str := ["_law_orders_here", "_law_value", "_law_length", "_law_order"]
theorem sc__law_is_token : FnScope n__law_is_token ["_law_orders_here", "_law_value"] (defScope s__law_is_token) := ⟨rfl, rfl, rfl, by decide +kernel, rfl, by decide +kernel, by decide +kernel⟩
noncomputable def b__law_is_token : Mo Out := (bSeq (bIf (bOr (bNot (asB (e1 (isiD "tuple") (eVar 1)))) (asB (e2 neF (eN lenD (eCons (eVar 1) eNil)) (eN lenD (eCons (eVar 0) eNil))))) (bSeq (bRet (eC (.bool false))) bNil) bNil) (bSeq (bFor (iMap zipF (eCons (eVar 1) (eCons (eVar 0) eNil))) (gT 2 (gsCons (gN 2) (gsCons (gN 3) gsNil))) (bSeq (bIf (bOr (bNot (asB (e1 (isiD "int") (eVar 2)))) (bOr (asB (e1 (isiD "bool") (eVar 2))) (bNot (asB (eChain leD leD (eC (.int 0)) (eVar 2) (eN lenD (eCons (eVar 3) eNil))))))) (bSeq (bRet (eC (.bool false))) bNil) bNil) bNil)) (bSeq (bRet (eC (.bool true))) bNil)))
noncomputable def F__law_is_token : Fn := fnOf 2 4 b__law_is_token
/-! ### merge_tokens -/
abbrev s_merge_tokens : Stmt := topS 15
abbrev n_merge_tokens : List Str := ["orders", "one", "other", "rows"]
theorem sc_merge_tokens : FnScope n_merge_tokens ["orders", "one", "other"] (defScope s_merge_tokens) := ⟨rfl, rfl, rfl, by decide +kernel, rfl, by decide +kernel, by decide +kernel⟩
noncomputable def b_merge_tokens : Mo Out := (bSeq (bSet 3 (eCallX F_decode_token (eCons (eVar 0) (eCons (eVar 1) eNil)))) (bSeq (bRet (eCall F_encode_state (eCons (eVar 0) (eCons (eCall F_union_of (eCons (eLock (fLst (eCons (eVar 3) (eCons (eCallX F_decode_token (eCons (eVar 0) (eCons (eVar 2) eNil))) eNil)))) eNil)) eNil)))) bNil))
noncomputable def F_merge_tokens : Fn := fnX 3 4 b_merge_tokens
/-! ### _law_right -/
abbrev s__law_right : Stmt := topS 27
abbrev n__law_right : List Str := ["_law_hand_here", "_law_orders_here", "_law_version", "_law_before", "_law_calls", "_law_call", "_law_told", "_law_bad", "_law_value", "_law_one", "_law_other"]
theorem sc__law_right : FnScope n__law_right ["_law_hand_here", "_law_orders_here", "_law_version"] (defScope s__law_right) := ⟨rfl, rfl, rfl, by decide +kernel, rfl, by decide +kernel, by decide +kernel⟩
noncomputable def b__law_right : Mo Out := (bSeq (bAsg (eTup (eCons (eCall F__law_odd (eCons (eVar 0) (eCons (eVar 1) eNil))) (eCons (eCall F__law_odd (eCons (eVar 0) (eCons (eVar 1) eNil))) eNil))) (gT 2 (gsCons (gN 9) (gsCons (gN 10) gsNil)))) (bSeq (bSet 3 (eN reprF (eCons (eTup (eCons (eVar 1) (eCons (eVar 9) (eCons (eVar 10) eNil)))) eNil))) (bLams3 4 5 (fun r_ => (bSeq (bSet 6 (eLamV F__law_caught 5 r_.f r_.m)) (bSeq (bIf (bOr (asB (e2 neF (eCall F__law_is_token (eCons (eVar 1) (eCons (eVar 9) eNil))) (e2 eqF (e2 ixD (eVar 6) (eC (.int 0))) (eC (.str "value"))))) (asB (e2 eqF (e2 ixD (eVar 6) (eC (.int 0))) (eC (.str "other"))))) (bSeq (bRet (eC (.bool false))) bNil) bNil) (bSeq (bIf (bAnd (asB (e2 eqF (e2 ixD (eVar 6) (eC (.int 0))) (eC (.str "error")))) (asB (e2 neF (eN reprF (eCons (e2 ixD (eVar 6) (eC (.int 1))) eNil)) (eN reprF (eCons (eVar 9) eNil))))) (bSeq (bRet (eC (.bool false))) bNil) bNil) bNil)))) (eCallX F_decode_token (eCons (eVar 1) (eCons (eVar 9) eNil))) (eCallX F_normalize_token (eCons (eVar 1) (eCons (eVar 9) eNil))) (eCallX F_send_page (eCons (eVar 1) (eCons (eVar 2) (eCons (eVar 9) (eCons (eC (.int 2)) eNil))))) (bSeq (bPar 6 7 (.dd (eLam F__law_caught (eCallX F_merge_tokens (eCons (eVar 1) (eCons (eVar 9) (eCons (eVar 10) eNil)))))) (.ff (fLst eNil))) (bSeq (bFor (iSeq (eTup (eCons (eVar 9) (eCons (eVar 10) eNil)))) (gN 8) (bSeq (bEx (eExt 7 (eLock (fIf (bNot (asB (eCall F__law_is_token (eCons (eVar 1) (eCons (eVar 8) eNil))))) (fLst (eCons (eVar 8) eNil)) (fLst eNil))))) bNil)) (bSeq (bIf (bOr (asB (e2 neF (e2 eqF (e2 ixD (eVar 6) (eC (.int 0))) (eC (.str "value"))) (e2 eqEmL (eVar 7) (eLock (fLst eNil))))) (bAnd (asB (e2 eqF (e2 ixD (eVar 6) (eC (.int 0))) (eC (.str "error")))) (asB (e2 neF (eN reprF (eCons (e2 ixD (eVar 6) (eC (.int 1))) eNil)) (eN reprF (eCons (e2 ixD (eVar 7) (eC (.int 0))) eNil)))))) (bSeq (bRet (eC (.bool false))) bNil) bNil) (bSeq (bRet (eAnd (e2 neF (e2 ixD (eVar 6) (eC (.int 0))) (eC (.str "other"))) (e2 eqF (eN reprF (eCons (eTup (eCons (eVar 1) (eCons (eVar 9) (eCons (eVar 10) eNil)))) eNil)) (eVar 3)))) bNil)))))))
noncomputable def F__law_right : Fn := fnOf 3 11 b__law_right
/-! ### _law_orders -/
abbrev s__law_orders : Stmt := topS 23
abbrev n__law_orders : List Str := ["_law_hand_here", "_law_most", "_law_rows", "_law_found", "_law_turn", "_law_order"]
theorem sc__law_orders : FnScope n__law_orders ["_law_hand_here", "_law_most", "_law_rows"] (defScope s__law_orders) := ⟨rfl, rfl, rfl, by decide +kernel, rfl, by decide +kernel, by decide +kernel⟩
noncomputable def b__law_orders : Mo Out := (bSeq (bSetF 3 (fLst eNil)) (bSeq (bFor (iN range1D (eCons (eCall F__law_take (eCons (eVar 0) (eCons (e2 addD (eVar 1) (eC (.int 1))) eNil))) eNil)) (gN 4) (bSeq (bSet 5 (eLock (fCall F__law_shuffled (eCons (eVar 0) (eCons (eVar 2) eNil))))) (bSeq (bEx (eMut appF 3 (eCons (eN tupleD (eCons (eLock (fSl (eVar 5) pNo (pSo (eCall F__law_take (eCons (eVar 0) (eCons (e2 addD (eN lenD (eCons (eVar 5) eNil)) (eC (.int 1))) eNil)))))) eNil)) eNil))) bNil))) (bSeq (bRet (eN tupleD (eCons (eVar 3) eNil))) bNil)))
noncomputable def F__law_orders : Fn := fnOf 3 6 b__law_orders
/-! ### law -/
abbrev s_law : Stmt := topS 28
abbrev n_law : List Str := ["_law_script", "_law_k", "_law_hand_here", "_law_turn", "_law_names_here", "_law_version"]
theorem sc_law : FnScope n_law ["_law_script"] (defScope s_law) := ⟨rfl, rfl, rfl, by decide +kernel, rfl, by decide +kernel, by decide +kernel⟩
noncomputable def b_law : Mo Out := (bSeq (bFor (iN range1D (eCons (eN max2D (eCons (eC (.int 1)) (eCons (eN min2D (eCons (eC (.int 3)) (eCons (eN lenD (eCons (eVar 0) eNil)) eNil))) eNil))) eNil)) (gN 1) (bSeq (bSetF 2 (fCall F__law_hand (eCons (eVar 0) (eCons (eVar 1) eNil)))) (bSeq (bFor (iN range1D (eCons (eC (.int 24)) eNil)) (gN 3) (bSeq (bSet 4 (eLock (fCall F__law_names (eCons (eVar 2) (eCons (e2 addD (eC (.int 1)) (eCall F__law_take (eCons (eVar 2) (eCons (eC (.int 5)) eNil)))) eNil))))) (bSeq (bSet 5 (eN tupleD (eCons (eLock (fCall F__law_shuffled (eCons (eVar 2) (eCons (eVar 4) eNil)))) eNil))) (bSeq (bIf (bNot (asB (eCall F__law_right (eCons (eVar 2) (eCons (e2 addD (eCall F__law_orders (eCons (eVar 2) (eCons (eC (.int 3)) (eCons (eVar 4) eNil)))) (eTup (eCons (eVar 5) eNil))) (eCons (eVar 5) eNil)))))) (bSeq (bRet (eC (.bool false))) bNil) bNil) bNil)))) bNil))) (bSeq (bRet (eC (.bool true))) bNil))
noncomputable def F_law : Fn := fnOf 1 6 b_law
structure Txt0 (K : PySem.W.Frag) (mg : Str → Option Value) (f__law_hand f__law_take f__law_pick f__law_names f__law_shuffled f__law_odd f__law_caught f_union_of f_is_integer_within f_is_token f_decode_token f_prefix_length f_encode_state f_normalize_token f_page_of f_send_page f__law_is_token f_merge_tokens f__law_right f__law_orders f_law c_PagesError c_BadToken i_BadToken : Addr) (e__law_hand e__law_take e__law_pick e__law_names e__law_shuffled e__law_odd e__law_caught e_union_of e_is_integer_within e_is_token e_decode_token e_prefix_length e_encode_state e_normalize_token e_page_of e_send_page e__law_is_token e_merge_tokens e__law_right e__law_orders e_law j_BadToken : FuncData) : Prop where
  d__law_hand : Fun K "_law_hand" "_law_hand" s__law_hand f__law_hand e__law_hand
  b__law_hand : Binds K e__law_hand ["_law_script", "_law_k"] []
  g__law_hand : mg "_law_hand" = some (.ref f__law_hand)
  d__law_take : Fun K "_law_take" "_law_take" s__law_take f__law_take e__law_take
  b__law_take : Binds K e__law_take ["_law_hand_here", "_law_many"] []
  g__law_take : mg "_law_take" = some (.ref f__law_take)
  d__law_pick : Fun K "_law_pick" "_law_pick" s__law_pick f__law_pick e__law_pick
  b__law_pick : Binds K e__law_pick ["_law_hand_here", "_law_items"] []
  g__law_pick : mg "_law_pick" = some (.ref f__law_pick)
  d__law_names : Fun K "_law_names" "_law_names" s__law_names f__law_names e__law_names
  b__law_names : Binds K e__law_names ["_law_hand_here", "_law_count"] []
  g__law_names : mg "_law_names" = some (.ref f__law_names)
  d__law_shuffled : Fun K "_law_shuffled" "_law_shuffled" s__law_shuffled f__law_shuffled e__law_shuffled
  b__law_shuffled : Binds K e__law_shuffled ["_law_hand_here", "_law_items"] []
  g__law_shuffled : mg "_law_shuffled" = some (.ref f__law_shuffled)
  d__law_odd : Fun K "_law_odd" "_law_odd" s__law_odd f__law_odd e__law_odd
  b__law_odd : Binds K e__law_odd ["_law_hand_here", "_law_orders_here"] []
  g__law_odd : mg "_law_odd" = some (.ref f__law_odd)
  d__law_caught : Fun K "_law_caught" "_law_caught" s__law_caught f__law_caught e__law_caught
  b__law_caught : Binds K e__law_caught ["_law_call"] []
  g__law_caught : mg "_law_caught" = some (.ref f__law_caught)
  d_union_of : Fun K "union_of" "union_of" s_union_of f_union_of e_union_of
  b_union_of : Binds K e_union_of ["groups"] []
  g_union_of : mg "union_of" = some (.ref f_union_of)
  d_is_integer_within : Fun K "is_integer_within" "is_integer_within" s_is_integer_within f_is_integer_within e_is_integer_within
  b_is_integer_within : Binds K e_is_integer_within ["value", "low", "high"] []
  g_is_integer_within : mg "is_integer_within" = some (.ref f_is_integer_within)
  d_is_token : Fun K "is_token" "is_token" s_is_token f_is_token e_is_token
  b_is_token : Binds K e_is_token ["orders", "value"] []
  g_is_token : mg "is_token" = some (.ref f_is_token)
  d_decode_token : Fun K "decode_token" "decode_token" s_decode_token f_decode_token e_decode_token
  b_decode_token : Binds K e_decode_token ["orders", "token"] []
  g_decode_token : mg "decode_token" = some (.ref f_decode_token)
  d_prefix_length : Fun K "prefix_length" "prefix_length" s_prefix_length f_prefix_length e_prefix_length
  b_prefix_length : Binds K e_prefix_length ["version", "live", "rows"] []
  g_prefix_length : mg "prefix_length" = some (.ref f_prefix_length)
  d_encode_state : Fun K "encode_state" "encode_state" s_encode_state f_encode_state e_encode_state
  b_encode_state : Binds K e_encode_state ["orders", "rows"] []
  g_encode_state : mg "encode_state" = some (.ref f_encode_state)
  d_normalize_token : Fun K "normalize_token" "normalize_token" s_normalize_token f_normalize_token e_normalize_token
  b_normalize_token : Binds K e_normalize_token ["orders", "token"] []
  g_normalize_token : mg "normalize_token" = some (.ref f_normalize_token)
  d_page_of : Fun K "page_of" "page_of" s_page_of f_page_of e_page_of
  b_page_of : Binds K e_page_of ["version", "sent", "count"] []
  g_page_of : mg "page_of" = some (.ref f_page_of)
  d_send_page : Fun K "send_page" "send_page" s_send_page f_send_page e_send_page
  b_send_page : Binds K e_send_page ["orders", "version", "token", "count"] []
  g_send_page : mg "send_page" = some (.ref f_send_page)
  d__law_is_token : Fun K "_law_is_token" "_law_is_token" s__law_is_token f__law_is_token e__law_is_token
  b__law_is_token : Binds K e__law_is_token ["_law_orders_here", "_law_value"] []
  g__law_is_token : mg "_law_is_token" = some (.ref f__law_is_token)
  d_merge_tokens : Fun K "merge_tokens" "merge_tokens" s_merge_tokens f_merge_tokens e_merge_tokens
  b_merge_tokens : Binds K e_merge_tokens ["orders", "one", "other"] []
  g_merge_tokens : mg "merge_tokens" = some (.ref f_merge_tokens)
  d__law_right : Fun K "_law_right" "_law_right" s__law_right f__law_right e__law_right
  b__law_right : Binds K e__law_right ["_law_hand_here", "_law_orders_here", "_law_version"] []
  g__law_right : mg "_law_right" = some (.ref f__law_right)
  d__law_orders : Fun K "_law_orders" "_law_orders" s__law_orders f__law_orders e__law_orders
  b__law_orders : Binds K e__law_orders ["_law_hand_here", "_law_most", "_law_rows"] []
  g__law_orders : mg "_law_orders" = some (.ref f__law_orders)
  d_law : Fun K "law" "law" s_law f_law e_law
  b_law : Binds K e_law ["_law_script"] []
  g_law : mg "law" = some (.ref f_law)
  m_len : mg "len" = none
  m_abs : mg "abs" = none
  m_int : mg "int" = none
  m_range : mg "range" = none
  m_list : mg "list" = none
  m_tuple : mg "tuple" = none
  m_repr : mg "repr" = none
  m_max : mg "max" = none
  m_min : mg "min" = none
  m_sorted : mg "sorted" = none
  m_isinstance : mg "isinstance" = none
  m_bool : mg "bool" = none
  m_all : mg "all" = none
  m_enumerate : mg "enumerate" = none
  m_zip : mg "zip" = none
  eb : ExcB K
  x_BadToken : ExcT K mg "BadToken" "token" c_BadToken i_BadToken
  di_BadToken : Fun K "__init__" "BadToken.__init__" s_i_BadToken i_BadToken j_BadToken
  bi_BadToken : Binds K j_BadToken ["self", "token"] []
  i_BadToken : ∀ (P : Program) (w : World) (base : Heap), FnOk P w K mg base (L2.CX P w) 1 i_BadToken j_BadToken ["self", "token"] (spIni c_BadToken "token")
  g_BadToken : mg "BadToken" = some (.ref c_BadToken)
  e_BadToken_BadToken : PySem.W.exmOne K (.ref c_BadToken) (.ref c_BadToken) = some true
structure Lam0 [Tbl] (base : Heap) (mg : Str → Option Value) (e__law_hand e__law_take e__law_pick e__law_names e__law_shuffled e__law_odd e__law_caught e_union_of e_is_integer_within e_is_token e_decode_token e_prefix_length e_encode_state e_normalize_token e_page_of e_send_page e__law_is_token e_merge_tokens e__law_right e__law_orders e_law j_BadToken : FuncData) : Prop where
  l__law_right : ∃ c PT, e__law_right.code = .ref c ∧ LamX.TabB base mg c PT ∧ (PT, (envOfC "_law_right" (defScope s__law_right) 0 0 .none).qual ++ "<lambda>") ∈ Tbl.T ∧ ∀ p ∈ Tbl.T, p.1 = PT → p.2 = (envOfC "_law_right" (defScope s__law_right) 0 0 .none).qual ++ "<lambda>"
noncomputable def b__law_changed : Mo Out := (bSeq (bPar 3 4 (.dd (eCall F__law_take (eCons (eVar 0) (eCons (eC (.int 10)) eNil)))) (.ff (fN listD (eCons (eVar 1) eNil)))) (bSeq (bIf (bAnd (asB (e2 eqF (eVar 3) (eC (.int 0)))) (bAnd (asB (e2 neF (eVar 2) (eLock (fLst eNil)))) (asB (e2 ltD (eN lenD (eCons (eVar 4) eNil)) (eC (.int 24)))))) (bSeq (bEx (eMut insF 4 (eCons (eCall F__law_take (eCons (eVar 0) (eCons (e2 addD (eN lenD (eCons (eVar 4) eNil)) (eC (.int 1))) eNil))) (eCons (eMut popF 2 (eCons (eC (.int 0)) eNil)) eNil)))) bNil) (bSeq (bIf (bAnd (asB (e2 eqF (eVar 3) (eC (.int 1)))) (asB (e2 neF (eVar 4) (eLock (fLst eNil))))) (bSeq (bEx (eMut popF 4 (eCons (eCall F__law_take (eCons (eVar 0) (eCons (eN lenD (eCons (eVar 4) eNil)) eNil))) eNil))) bNil) (bSeq (bIf (asB (e2 eqF (eVar 3) (eC (.int 2)))) (bSeq (bSetF 4 (fRev (eVar 4))) bNil) (bSeq (bIf (asB (e2 neF (eVar 4) (eLock (fLst eNil)))) (bSeq (bSet 5 (eMut popF 4 (eCons (eCall F__law_take (eCons (eVar 0) (eCons (eN lenD (eCons (eVar 4) eNil)) eNil))) eNil))) (bSeq (bEx (eMut insF 4 (eCons (eCall F__law_pick (eCons (eVar 0) (eCons (eLock (fLst (eCons (eC (.int 0)) (eCons (eCall F__law_take (eCons (eVar 0) (eCons (e2 addD (eN lenD (eCons (eVar 4) eNil)) (eC (.int 1))) eNil))) (eCons (eN lenD (eCons (eVar 4) eNil)) eNil))))) eNil))) (eCons (eVar 5) eNil)))) bNil)) bNil) bNil)) bNil)) bNil)) (bSeq (bRet (eN tupleD (eCons (eVar 4) eNil))) bNil)))
noncomputable def F__law_changed : Fn := fnOf 3 6 b__law_changed
noncomputable def b__law_history : Mo Out := (bSeq (bSet 3 (eLock (fCall F__law_names (eCons (eVar 0) (eCons (eN min2D (eCons (eC (.int 24)) (eCons (e2 addD (eVar 1) (eC (.int 4))) eNil))) eNil))))) (bSeq (bSet 4 (eCall F__law_take (eCons (eVar 0) (eCons (e2 addD (eVar 1) (eC (.int 1))) eNil)))) (bSeq (bPar 5 6 (.ff (fLst (eCons (eN tupleD (eCons (eLock (fCall F__law_shuffled (eCons (eVar 0) (eCons (eLock (fSl (eVar 3) pNo (pSo (eVar 4)))) eNil)))) eNil)) eNil))) (.ff (fSl (eVar 3) (pSo (eVar 4)) pNo))) (bSeq (bFor (iN range1D (eCons (eCall F__law_take (eCons (eVar 0) (eCons (eVar 2) eNil))) eNil)) (gN 7) (bSeq (bEx (eMut appF 5 (eCons (eCall F__law_changed (eCons (eVar 0) (eCons (e2 ixD (eVar 5) (e1 negD (eC (.int 1)))) (eCons (eVar 6) eNil)))) eNil))) bNil)) (bSeq (bRet (eN tupleD (eCons (eVar 5) eNil))) bNil)))))
noncomputable def F__law_history : Fn := fnOf 3 8 b__law_history
noncomputable def b_live_rows : Mo Out := (bSeq (bRet (eN tupleD (eCons (eLock (fN sortedD (eCons (e2 ixD (eVar 0) (e1 negD (eC (.int 1)))) eNil))) eNil))) bNil)
noncomputable def F_live_rows : Fn := fnOf 1 1 b_live_rows
noncomputable def b_live_rows_among : Mo Out := (bSeq (bRet (eN tupleD (eCons (eLock (fComp (iSeq (eCall F_live_rows (eCons (eVar 0) eNil))) (gN 2) (asB (e2 inF (eVar 2) (eVar 1))) (eVar 2) [2])) eNil))) bNil)
noncomputable def F_live_rows_among : Fn := fnOf 2 3 b_live_rows_among
noncomputable def b_is_row_set : Mo Out := (bSeq (bRet (eAnd (e1 (isiD "tuple") (eVar 1)) (e2 eqF (eVar 1) (eCall F_live_rows_among (eCons (eVar 0) (eCons (eVar 1) eNil)))))) bNil)
noncomputable def F_is_row_set : Fn := fnOf 2 2 b_is_row_set
noncomputable def b_prefix_lengths : Mo Out := (bSeq (bRet (eN tupleD (eCons (eLock (fComp (iSeq (eVar 0)) (gN 2) bYes (eCall F_prefix_length (eCons (eVar 2) (eCons (e2 ixD (eVar 0) (e1 negD (eC (.int 1)))) (eCons (eVar 1) eNil)))) [2])) eNil))) bNil)
noncomputable def F_prefix_lengths : Fn := fnOf 2 3 b_prefix_lengths
noncomputable def b_prefixes_within : Mo Out := (bSeq (bRetF (fComp (iMap zipF (eCons (eVar 0) (eCons (eCall F_prefix_lengths (eCons (eVar 0) (eCons (eVar 1) eNil))) eNil))) (gT 2 (gsCons (gN 2) (gsCons (gN 3) gsNil))) bYes (eSl (eVar 2) pNo (pSo (eVar 3))) [2, 3])) bNil)
noncomputable def F_prefixes_within : Fn := fnOf 2 4 b_prefixes_within
noncomputable def b_first_support : Mo Out := (bSeq (bFor (iMap enF (eCons (eVar 0) eNil)) (gT 2 (gsCons (gN 2) (gsCons (gN 3) gsNil))) (bSeq (bIf (asB (e2 inF (eVar 1) (eVar 3))) (bSeq (bRet (eVar 2)) bNil) bNil) bNil)) (bSeq (bRet (eC .none)) bNil))
noncomputable def F_first_support : Fn := fnOf 2 4 b_first_support
noncomputable def b_find_supports : Mo Out := (bSeq (bSet 2 (eLock (fCall F_prefixes_within (eCons (eVar 0) (eCons (eVar 1) eNil))))) (bSeq (bSet 3 (eLock (fComp (iSeq (eVar 1)) (gN 4) bYes (eCall F_first_support (eCons (eVar 2) (eCons (eVar 4) eNil))) [4]))) (bSeq (bIf (asB (e2 inF (eC .none) (eVar 3))) (bSeq (bRet (eC .none)) bNil) bNil) (bSeq (bRet (eN tupleD (eCons (eVar 3) eNil))) bNil))))
noncomputable def F_find_supports : Fn := fnOf 2 5 b_find_supports
noncomputable def b_is_reachable : Mo Out := (bSeq (bRet (eAnd (eCall F_is_row_set (eCons (eVar 0) (eCons (eVar 1) eNil))) (e2 notND (eCall F_find_supports (eCons (eVar 0) (eCons (eVar 1) eNil))) (eC .none)))) bNil)
noncomputable def F_is_reachable : Fn := fnOf 2 2 b_is_reachable
noncomputable def b__law_flat : Mo Out := (bSeq (bSetF 1 (fLst eNil)) (bSeq (bFor (iSeq (eVar 0)) (gN 2) (bSeq (bEx (eExt 1 (eVar 2))) bNil)) (bSeq (bRet (eVar 1)) bNil)))
noncomputable def F__law_flat : Fn := fnOf 1 3 b__law_flat
noncomputable def b__law_prefixes : Mo Out := (bSeq (bSetF 1 (fLst (eCons (eTup eNil) eNil))) (bSeq (bFor (iSeq (eVar 0)) (gN 2) (bSeq (bSet 3 (eLock (fComp (iSeq (eVar 2)) (gN 4) (asB (e2 inF (eVar 4) (e2 ixD (eVar 0) (e1 negD (eC (.int 1)))))) (eVar 4) [4]))) (bSeq (bEx (eExt 1 (eLock (fComp (iN range2D (eCons (eC (.int 1)) (eCons (e2 addD (eN lenD (eCons (eVar 3) eNil)) (eC (.int 1))) eNil))) (gN 5) bYes (eN tupleD (eCons (eLock (fSl (eVar 3) pNo (pSo (eVar 5)))) eNil)) [5])))) bNil))) (bSeq (bRet (eVar 1)) bNil)))
noncomputable def F__law_prefixes : Fn := fnOf 1 6 b__law_prefixes
noncomputable def b__law_greatest : Mo Out := (bSeq (bSet 2 (eLock (fComp (iSeq (eVar 0)) (gN 3) (asB (eN allD (eCons (eLock (fComp (iSeq (eVar 3)) (gN 4) bYes (e2 inF (eVar 4) (eVar 1)) [4])) eNil))) (eVar 3) [3]))) (bSeq (bRet (eN tupleD (eCons (eLock (fN sortedD (eCons (eLock (fDict (eCons (eLock (fComp (iSeq (eLock (fCall F__law_flat (eCons (eVar 2) eNil)))) (gN 4) bYes (eTup (eCons (eVar 4) (eCons (eC (.bool true)) eNil))) [4])) eNil))) eNil))) eNil))) bNil))
noncomputable def F__law_greatest : Fn := fnOf 2 5 b__law_greatest
noncomputable def b__law_some_set : Mo Out := (bSeq (bSet 3 (eLock (fN sortedD (eCons (e2 ixD (eVar 1) (e1 negD (eC (.int 1)))) eNil)))) (bSeq (bAsg (eTup (eCons (eCall F__law_take (eCons (eVar 0) (eCons (eC (.int 4)) eNil))) (eCons (eLock (fComp (iN range1D (eCons (e2 addD (eC (.int 1)) (eCall F__law_take (eCons (eVar 0) (eCons (eC (.int 3)) eNil)))) eNil)) (gN 8) bYes (eCall F__law_pick (eCons (eVar 0) (eCons (eVar 2) eNil))) [8])) eNil))) (gT 2 (gsCons (gN 4) (gsCons (gN 5) gsNil)))) (bSeq (bSet 7 (eLock (fComp (iSeq (eVar 3)) (gN 6) (asB (e2 inF (eVar 6) (eLock (fCall F__law_flat (eCons (eVar 5) eNil))))) (eVar 6) [6]))) (bSeq (bIf (asB (e2 eqF (eVar 4) (eC (.int 0)))) (bSeq (bSet 7 (eLock (fComp (iSeq (eVar 3)) (gN 6) (asB (e2 eqF (eCall F__law_take (eCons (eVar 0) (eCons (eC (.int 2)) eNil))) (eC (.int 0)))) (eVar 6) [6]))) bNil) bNil) (bSeq (bIf (bAnd (asB (e2 gtD (eVar 4) (eC (.int 1)))) (asB (e2 neF (eVar 3) (eLock (fLst eNil))))) (bSeq (bSet 6 (eCall F__law_pick (eCons (eVar 0) (eCons (eVar 3) eNil)))) (bSeq (bSet 7 (eLock (fComp (iSeq (eVar 3)) (gN 9) (asB (e2 neF (e2 inF (eVar 9) (eVar 7)) (e2 eqF (eVar 9) (eVar 6)))) (eVar 9) [9]))) bNil)) bNil) (bSeq (bRet (eN tupleD (eCons (eVar 7) eNil))) bNil))))))
noncomputable def F__law_some_set : Fn := fnOf 3 10 b__law_some_set
end Z
namespace Z
open PySem PySem.Spec PyProof.Rows L2 Gd Q
/-! ### the hand -/
def HandOk (h : List D) (n : Nat) : Prop := ∃ g s t : Int, h = [.int g, .int s, .int t] ∧ 0 ≤ g ∧ 0 ≤ s ∧ s < 2305843009213693952 ∧ 0 ≤ t ∧ t ≤ n
theorem HandOk.up {h : List D} {n m : Nat} (x : HandOk h n) (l : n ≤ m) : HandOk h m := by
  obtain ⟨g, s, t, e, h1, h2, h3, h4, h5⟩ := x
  exact ⟨g, s, t, e, h1, h2, h3, h4, by omega⟩
theorem sq_bound {t : Int} (h0 : 0 ≤ t) (h1 : t ≤ 1000000) : 0 ≤ 65537 * t * t ∧ 65537 * t * t ≤ 65537000000000000 := by
  have a1 : 0 ≤ 65537 * t := by omega
  have a2 : 65537 * t ≤ 65537000000 := by omega
  have b1 : 0 ≤ 65537 * t * t := Int.mul_nonneg a1 h0
  have b2 : 65537 * t * t ≤ 65537000000 * 1000000 := Int.mul_le_mul a2 h1 h0 (by decide)
  exact ⟨b1, by omega⟩
theorem prime_at {i : Int} (h0 : 0 ≤ i) (h1 : i < 6) : ∃ p : Int, atI [PyData.int 2147483647, PyData.int 2147483629, PyData.int 2147483587, PyData.int 2147483579, PyData.int 2147483563, PyData.int 2147483549] i = some (PyData.int p) ∧ 0 < p ∧ p < 2147483648 := by
  obtain ⟨j, rfl⟩ := Int.eq_ofNat_of_zero_le h0
  have hj : j < 6 := by omega
  match j, hj with
  | 0, _ => exact ⟨_, atI_nat (j := 0) rfl, by decide, by decide⟩
  | 1, _ => exact ⟨_, atI_nat (j := 1) rfl, by decide, by decide⟩
  | 2, _ => exact ⟨_, atI_nat (j := 2) rfl, by decide, by decide⟩
  | 3, _ => exact ⟨_, atI_nat (j := 3) rfl, by decide, by decide⟩
  | 4, _ => exact ⟨_, atI_nat (j := 4) rfl, by decide, by decide⟩
  | 5, _ => exact ⟨_, atI_nat (j := 5) rfl, by decide, by decide⟩
theorem mid_of {i : Int} (h : -(2 ^ 64) < i ∧ i < 2 ^ 64) : mid i = true := cb_true h
theorem mulD_l {i j : Int} (h : -(2 ^ 64) < i ∧ i < 2 ^ 64) : mulA (.int i) (.int j) = some (.int (i * j)) := by
  show (if mulOk i j = true then some (PyData.int (i * j)) else none) = _
  unfold mulOk
  rw [mid_of h]
  rfl
theorem mulD_r {i j : Int} (h : -(2 ^ 64) < j ∧ j < 2 ^ 64) : mulA (.int i) (.int j) = some (.int (i * j)) := by
  show (if mulOk i j = true then some (PyData.int (i * j)) else none) = _
  unfold mulOk
  rw [mid_of h, Bool.or_true, Bool.true_or]
  rfl
theorem at0 {a b c : D} : atI [a, b, c] 0 = some a := atI_nat (j := 0) rfl
theorem at1 {a b c : D} : atI [a, b, c] 1 = some b := atI_nat (j := 1) rfl
theorem at2 {a b c : D} : atI [a, b, c] 2 = some c := atI_nat (j := 2) rfl
theorem ix0 : ixN 3 0 = some 0 := rfl
theorem ix2 : ixN 3 2 = some 2 := rfl
theorem take_spec {h : List D} {n : Nat} {m : Int} (hh : HandOk h n) (hn : n < 1000000) (m0 : 0 < m) (m1 : m < 1073741824) :
    ∃ (v : Int) (h' : List D), F__law_take [.own (.lst h), .dat (.int m)] = .ok (.dat (.int v)) [.own (.lst h'), .dat (.int m)] ∧ 0 ≤ v ∧ v < m ∧ HandOk h' (n + 1) := by
  obtain ⟨g, s, t, rfl, g0, s0, s1, t0, t1⟩ := hh
  by_cases hg : 0 < g
  · refine ⟨g % m, [.int (g.fdiv m), .int s, .int t], ?_, Int.emod_nonneg _ (by omega), Int.emod_lt_of_pos _ m0, g.fdiv m, s, t, rfl, ?_, s0, s1, t0, by omega⟩
    · have c := cb_true (p := m ≠ 0 ∧ m.natAbs < 1073741824) ⟨by omega, by omega⟩
      simp [F__law_take, fnOf, b__law_take, bSeq, bIf, asB, e2, eVar, eC, F2, look, Sl.ob, Ob.d, lift, ixD, at0, gtD, ordD, hg, Rt.bind, Rt.bnd, bSet, put, nxt, modD, m0, bSetIx, fdivD, c, setIx, ix0, bRet, fin]
    · rw [Int.fdiv_eq_ediv_of_nonneg g (by omega)]
      exact Int.ediv_nonneg g0 (by omega)
  · obtain ⟨p, hp, p0, p1⟩ := prime_at (i := (t + 1) % 6) (Int.emod_nonneg _ (by decide)) (Int.emod_lt_of_pos _ (by decide))
    have B := sq_bound (t := t + 1) (by omega) (by omega)
    have q1 := mulD_l (i := 65537) (j := t + 1) ⟨by decide, by decide⟩
    have q2 := mulD_r (i := 65537 * (t + 1)) (j := t + 1) ⟨by omega, by omega⟩
    have q3 := mulD_l (i := 31) (j := t + 1) ⟨by decide, by decide⟩
    have q4 : powD (.int (s + 65537 * (t + 1) * (t + 1) + 31 * (t + 1))) (.int 3) = some (.int ((s + 65537 * (t + 1) * (t + 1) + 31 * (t + 1)) ^ 3)) := by
      show (if cb ((0 : Int) ≤ 3 ∧ (3 : Int) ≤ 1000000 ∧ (s + 65537 * (t + 1) * (t + 1) + 31 * (t + 1)).natAbs < 2 ^ 64) = true then _ else _) = _
      rw [if_pos (cb_true ⟨by decide, by decide, by omega⟩)]
      rfl
    generalize hy : (s + 65537 * (t + 1) * (t + 1) + 31 * (t + 1)) ^ 3 = y at q4
    have x0 : 0 ≤ y % p := Int.emod_nonneg _ (by omega)
    have x1 : y % p < p := Int.emod_lt_of_pos _ p0
    have q5 := mulD_l (i := 13) (j := t + 1) ⟨by decide, by decide⟩
    have q6 := mulD_l (i := y % p) (j := y % p % 10007 + 13 * (t + 1)) ⟨by omega, by omega⟩
    refine ⟨(y % p * (y % p % 10007 + 13 * (t + 1)) % 2305843009213693907).fdiv 97 % m, [.int g, .int s, .int (t + 1)], ?_, Int.emod_nonneg _ (by omega), Int.emod_lt_of_pos _ m0, g, s, t + 1, rfl, g0, s0, s1, by omega, by omega⟩
    have c97 := cb_true (p := (97 : Int) ≠ 0 ∧ (97 : Int).natAbs < 1073741824) ⟨by decide, by decide⟩
    have sh : short [PyData.int 2147483647, PyData.int 2147483629, PyData.int 2147483587, PyData.int 2147483579, PyData.int 2147483563, PyData.int 2147483549] = some [PyData.int 2147483647, PyData.int 2147483629, PyData.int 2147483587, PyData.int 2147483579, PyData.int 2147483563, PyData.int 2147483549] := rfl
    simp [F__law_take, fnOf, b__law_take, bSeq, bIf, asB, e2, eVar, eC, F2, look, Sl.ob, Ob.d, lift, ixD, at0, at1, at2, gtD, ordD, hg, Rt.bind, Rt.bnd, bSet, put, nxt, modD, m0, p0, bSetIx, fdivD, setIx, ix2, bRet, fin, bNil, addD, eLock, fLst, eCons, eNil, datas, sh, hp, q1, q2, q3, q4, q5, q6, c97]
end Z
namespace Z
open PySem PySem.Spec PyProof.Rows L2 Gd Q
/-- a row -/
def RowS (z : Str) : Prop := 1 ≤ z.length ∧ z.length ≤ 8 ∧ ∀ c ∈ z.cps.toList, 97 ≤ c ∧ c ≤ 122
abbrev abc : Str := abcS
theorem abc_len : abc.length = 26 := by decide +kernel
theorem abc_at : ∀ j : Nat, j < 26 → abc.cps.toList[j]? = some (97 + j) := by decide +kernel
theorem abc_mem : ∀ c ∈ abc.cps.toList, 97 ≤ c ∧ c ≤ 122 := by decide +kernel
def nmS (z : Str) (k : Nat) (c : Nat) : Str := cutS z none (some (k : Int)) ++ ⟨#[c]⟩ ++ cutS z (some (k : Int)) none
theorem len_cps (z : Str) : z.cps.toList.length = z.length := Array.length_toList
theorem nmS_list {z : Str} {k c : Nat} (hk : k ≤ z.length) : (nmS z k c).cps.toList = z.cps.toList.take k ++ c :: z.cps.toList.drop k := by
  unfold nmS cutS
  rw [PySem.W.KT.app_list, PySem.W.KT.app_list, HT.sIx_none, HT.sIx_none, HT.sIx_nat, HT.sIx_nat, Nat.min_eq_left hk]
  show (List.take (k - 0) (List.drop 0 z.cps.toList)) ++ [c] ++ List.take (z.length - k) (List.drop k z.cps.toList) = _
  rw [List.drop_zero, Nat.sub_zero, List.append_assoc]
  have e : List.take (z.length - k) (List.drop k z.cps.toList) = List.drop k z.cps.toList := List.take_of_length_le (by rw [List.length_drop, len_cps]; omega)
  rw [e]
  rfl
theorem nmS_len {z : Str} {k c : Nat} (hk : k ≤ z.length) : (nmS z k c).length = z.length + 1 := by
  rw [← len_cps, nmS_list hk, List.length_append, List.length_cons, List.length_take, List.length_drop, len_cps]
  omega
theorem nmS_inj {z : Str} {k c d : Nat} (hk : k ≤ z.length) (h : nmS z k c = nmS z k d) : c = d := by
  have e := congrArg (fun s : Str => s.cps.toList) h
  simp only [nmS_list hk] at e
  have e2 := List.append_cancel_left e
  exact (List.cons.inj e2).1
theorem nmS_row {z : Str} {k c : Nat} (hk : k ≤ z.length) (hz : z.length ≤ 7) (ha : ∀ x ∈ z.cps.toList, 97 ≤ x ∧ x ≤ 122) (hc : 97 ≤ c ∧ c ≤ 122) : RowS (nmS z k c) := by
  refine ⟨by rw [nmS_len hk]; omega, by rw [nmS_len hk]; omega, fun x hx => ?_⟩
  rw [nmS_list hk] at hx
  rcases List.mem_append.mp hx with hx | hx
  · exact ha x (List.mem_of_mem_take hx)
  · rcases List.mem_cons.mp hx with hx | hx
    · rw [hx]; exact hc
    · exact ha x (List.mem_of_mem_drop hx)
/-- the j-th letter's place -/
def plc (first leap : Int) (j : Nat) : Nat := ((first + leap * (j : Int)) % 26).toNat
theorem plc_lt (first leap : Int) (j : Nat) : plc first leap j < 26 := by
  unfold plc
  have := Int.emod_nonneg (first + leap * (j : Int)) (show (26 : Int) ≠ 0 by decide)
  have := Int.emod_lt_of_pos (first + leap * (j : Int)) (show (0 : Int) < 26 by decide)
  omega
theorem plc_inj {first leap : Int} (hl : leap ∈ [(1 : Int), 3, 5, 7, 9, 11, 25]) {i j : Nat} (hi : i < 26) (hj : j < 26) (h : plc first leap i = plc first leap j) : i = j := by
  unfold plc at h
  simp only [List.mem_cons, List.not_mem_nil, or_false] at hl
  rcases hl with rfl | rfl | rfl | rfl | rfl | rfl | rfl <;> omega
def nmL (z : Str) (k : Nat) (first leap : Int) (n : Nat) : List Str := (List.range n).map fun j => nmS z k (97 + plc first leap j)
theorem nmL_nodup {z : Str} {k n : Nat} {first leap : Int} (hk : k ≤ z.length) (hl : leap ∈ [(1 : Int), 3, 5, 7, 9, 11, 25]) (hn : n ≤ 26) : (nmL z k first leap n).Nodup := by
  unfold nmL
  rw [List.nodup_iff_pairwise_ne, List.pairwise_map]
  refine List.Pairwise.imp_of_mem ?_ (List.nodup_iff_pairwise_ne.mp List.nodup_range)
  intro i j hi hj ne e
  have hi := List.mem_range.mp hi
  have hj := List.mem_range.mp hj
  have e2 := nmS_inj hk e
  exact ne (plc_inj (first := first) hl (by omega) (by omega) (by omega))
theorem nmL_len {z : Str} {k n : Nat} {first leap : Int} : (nmL z k first leap n).length = n := by
  unfold nmL
  rw [List.length_map, List.length_range]
theorem nmL_row {z : Str} {k n : Nat} {first leap : Int} (hk : k ≤ z.length) (hz : z.length ≤ 7) (ha : ∀ x ∈ z.cps.toList, 97 ≤ x ∧ x ≤ 122) : ∀ y ∈ nmL z k first leap n, RowS y := by
  intro y hy
  unfold nmL at hy
  obtain ⟨j, _, rfl⟩ := List.mem_map.mp hy
  have := plc_lt first leap j
  exact nmS_row hk hz ha (by omega)
theorem stem_ok {c : Nat} (hc : 97 ≤ c ∧ c ≤ 122) {n : Int} (hn2 : n = 0 ∨ n = 1 ∨ n = 3 ∨ n = 7) : (Txt.mul ⟨#[c]⟩ n).length ≤ 7 ∧ ∀ x ∈ (Txt.mul ⟨#[c]⟩ n).cps.toList, 97 ≤ x ∧ x ≤ 122 := by
  have one : ∀ l : List Nat, (∀ x ∈ l, x = c) → ∀ x ∈ l, 97 ≤ x ∧ x ≤ 122 := fun l h x hx => by rw [h x hx]; exact hc
  rcases hn2 with rfl | rfl | rfl | rfl
  · exact ⟨by show 0 ≤ 7; decide, one _ (fun x hx => by cases hx)⟩
  · exact ⟨by show 1 ≤ 7; decide, one _ (fun x hx => by
      have hx : x ∈ [c] := hx
      simpa using hx)⟩
  · exact ⟨by show 3 ≤ 7; decide, one _ (fun x hx => by
      have hx : x ∈ [c, c, c] := hx
      simpa using hx)⟩
  · exact ⟨by show 7 ≤ 7; decide, one _ (fun x hx => by
      have hx : x ∈ [c, c, c, c, c, c, c] := hx
      simpa using hx)⟩
theorem stem_six {c : Nat} {n : Int} (hn2 : n = 0 ∨ n = 1 ∨ n = 3 ∨ n = 7) : (Txt.mul ⟨#[c]⟩ n).length ≠ 6 := by
  rcases hn2 with rfl | rfl | rfl | rfl
  · show 0 ≠ 6; decide
  · show 1 ≠ 6; decide
  · show 3 ≠ 6; decide
  · show 7 ≠ 6; decide
theorem nmL_seven {z : Str} {k n : Nat} {first leap : Int} (hk : k ≤ z.length) (hz : z.length ≠ 6) : ∀ y ∈ nmL z k first leap n, y.length ≠ 7 := by
  intro y hy
  unfold nmL at hy
  obtain ⟨j, _, rfl⟩ := List.mem_map.mp hy
  rw [nmS_len hk]
  omega
theorem at_in {α : Type} {xs : List α} {i : Int} (h0 : 0 ≤ i) (h1 : i < (xs.length : Int)) : ∃ v, v ∈ xs ∧ atI xs i = some v := by
  obtain ⟨j, rfl⟩ := Int.eq_ofNat_of_zero_le h0
  have hj : j < xs.length := by omega
  exact ⟨xs[j], List.getElem_mem hj, atI_nat (List.getElem?_eq_getElem hj)⟩
end Z
namespace Z
open PySem PySem.Spec PyProof.Rows L2 Gd Q
/-! ### pick -/
/-- items that are picked from: data, or a thing of the caller's own -/
inductive Its : Sl → List D → Prop
  | list {xs : List D} : Its (.dat (.list xs)) xs
  | tuple {xs : List D} : Its (.dat (.tuple xs)) xs
  | own {xs : List D} : Its (.own (.lst xs)) xs
theorem pick_spec {h : List D} {n : Nat} {it : Sl} {xs : List D} (hi : Its it xs) (hh : HandOk h n) (hn : n < 1000000) (l0 : xs ≠ []) (l1 : xs.length < 1073741824) :
    ∃ (y : D) (h' : List D), F__law_pick [.own (.lst h), it] = .ok (.dat y) [.own (.lst h'), it] ∧ y ∈ xs ∧ HandOk h' (n + 1) := by
  have lp : 0 < xs.length := List.length_pos_iff.mpr l0
  obtain ⟨v, h', e, v0, v1, hk⟩ := take_spec hh hn (m := (xs.length : Int)) (by omega) (by omega)
  obtain ⟨y, hy, ey⟩ := at_in (xs := xs) v0 v1
  refine ⟨y, h', ?_, hy, hk⟩
  cases hi <;> simp [F__law_pick, b__law_pick, e, ixD, ey]
theorem pickS_spec {h : List D} {n : Nat} {z : Str} (hh : HandOk h n) (hn : n < 1000000) (l0 : 0 < z.length) (l1 : z.length ≤ 1000) :
    ∃ (c : Nat) (h' : List D), F__law_pick [.own (.lst h), .dat (.str z)] = .ok (.dat (sign c)) [.own (.lst h'), .dat (.str z)] ∧ c ∈ z.cps.toList ∧ HandOk h' (n + 1) := by
  have ls : z.length ≤ sizeLine := sz1000 l1
  obtain ⟨v, h', e, v0, v1, hk⟩ := take_spec hh hn (m := (z.length : Int)) (by omega) (by omega)
  obtain ⟨y, hy, ey⟩ := at_in (xs := z.cps.toList) v0 (by rw [len_cps]; exact v1)
  refine ⟨y, h', ?_, hy, hk⟩
  simp [F__law_pick, b__law_pick, e, ixD, ey, ls]
theorem short_ok {ds : List D} (h : ds.length ≤ 1000) : short ds = some ds := if_pos (sz1000 h)
/-! ### step by step -/
theorem seq_nx {f g : Mo Out} {ρ ρ1 : Ev} {r : Rt Out} (h : f ρ = .ok .nx ρ1) (h' : g ρ1 = r) : bSeq f g ρ = r := by
  unfold bSeq
  rw [h]
  exact h'
theorem seq_one {f g : Mo Out} {ρ ρ1 : Ev} {o : Out} (h : f ρ = .ok o ρ1) (ne : o ≠ .nx) : bSeq f g ρ = .ok o ρ1 := by
  unfold bSeq
  rw [h]
  cases o with
  | nx => exact absurd rfl ne
  | _ => rfl
theorem if_t {c : Mo Bool} {f g : Mo Out} {ρ : Ev} {r : Rt Out} (h : c ρ = .ok true ρ) (h' : f ρ = r) : bIf c f g ρ = r := by
  unfold bIf
  rw [h]
  exact h'
theorem if_f {c : Mo Bool} {f g : Mo Out} {ρ : Ev} {r : Rt Out} (h : c ρ = .ok false ρ) (h' : g ρ = r) : bIf c f g ρ = r := by
  unfold bIf
  rw [h]
  exact h'
theorem fn_run {n N : Nat} {b : Mo Out} {as : List Sl} {o : Out} {ρ : Ev} {r : Rt Sl} (h : as.length = n) (hb : b (as ++ List.replicate (N - n) .no) = .ok o ρ) (hf : fin n ρ o = r) : fnOf n N b as = r := by
  unfold fnOf
  rw [if_pos h, hb]
  exact hf
theorem fin_rf {n : Nat} {ρ : Ev} {o : Ob} {as : List Sl} (h : ρ.take n = as) : fin n ρ (.rf o) = .ok (.own o) as := by rw [← h]; rfl
theorem fin_rt {n : Nat} {ρ : Ev} {d : D} {as : List Sl} (h : ρ.take n = as) : fin n ρ (.rt (.d d)) = .ok (.dat d) as := by rw [← h]; rfl
theorem comp_eq {it : Mo (List D)} {g : Tg} {t : Mo Bool} {e : Mo R} {vs : List Nat} {ρ ρ1 ρ2 ρ3 : Ev} {ds xs : List D} (hi : it ρ = .ok ds ρ1) (hl : ds.length ≤ sizeLine) (hn : noOwn ρ1 vs = true) (hc : compD g t e vs ds (wipeE ρ1 vs) = .ok xs ρ2) (hm : mixE ρ1 ρ2 vs = ρ3) : fComp it g t e vs ρ = .ok (.lst xs) ρ3 := by
  unfold fComp
  rw [hi]
  show (if ds.length ≤ sizeLine ∧ noOwn ρ1 vs = true then _ else _) = _
  rw [if_pos ⟨hl, hn⟩, hc, ← hm]
  rfl
theorem retF_eq {f : Mo Ob} {ρ ρ1 : Ev} {o : Ob} (h : f ρ = .ok o ρ1) : bRetF f ρ = .ok (.rf o) ρ1 := by
  unfold bRetF
  rw [h]
  rfl
theorem small_ok {i : Int} (h : -1000000000 ≤ i ∧ i ≤ 1000000000) : small i = true := cb_true (by
  have e : (2 : Int) ^ 62 = 4611686018427387904 := by decide
  rw [e]
  omega)
theorem range1_eq {c : Nat} (h : c ≤ 1000) : range1D [.int c] = some ((List.range c).map fun i => .int (i : Nat)) := by
  show (if small (c : Int) = true then some (rngD 0 (c : Int).toNat) else none) = _
  rw [if_pos (small_ok (by omega)), Int.toNat_natCast]
  unfold rngD
  simp only [Int.zero_add]
/-! ### names -/
theorem comp_names {z : Str} {k : Nat} {first leap : Int} {a0 a1 : Sl} (hk : k ≤ z.length) (hz : z.length ≤ 7) (h0 : 0 ≤ first ∧ first < 26) (hl : leap ∈ [(1 : Int), 3, 5, 7, 9, 11, 25]) : ∀ (m lo : Nat), lo + m ≤ 26 →
    compD (gN 7) bYes (e2 addD (e2 addD (eSl (eVar 5) pNo (pSo (eVar 6))) (e2 ixD (eVar 2) (e2 modD (e2 addD (eVar 3) (e2 mulA (eVar 4) (eVar 7))) (eC (.int 26))))) (eSl (eVar 5) (pSo (eVar 6)) pNo)) [7]
      ((List.range' lo m).map fun i => .int (i : Nat)) [a0, a1, .dat (.str abc), .dat (.int first), .dat (.int leap), .dat (.str z), .dat (.int k), .no]
      = .ok ((List.range' lo m).map fun j => .str (nmS z k (97 + plc first leap j))) [a0, a1, .dat (.str abc), .dat (.int first), .dat (.int leap), .dat (.str z), .dat (.int k), .no]
  | 0, lo, _ => rfl
  | m + 1, lo, h => by
    have ih := comp_names (a0 := a0) (a1 := a1) hk hz h0 hl m (lo + 1) (by omega)
    have lb : (1 : Int) ≤ leap ∧ leap ≤ 25 := by
      simp only [List.mem_cons, List.not_mem_nil, or_false] at hl
      omega
    have q1 := mulD_l (i := leap) (j := (lo : Nat)) ⟨by omega, by omega⟩
    have ls : z.length ≤ sizeLine := by
      have e2 : sizeLine = 16777216 := by decide
      omega
    have la : abc.length ≤ sizeLine := by decide +kernel
    have p0 : 0 ≤ (first + leap * (lo : Nat)) % 26 := Int.emod_nonneg _ (by decide)
    have p1 : (first + leap * (lo : Nat)) % 26 < 26 := Int.emod_lt_of_pos _ (by decide)
    have ea : atI abc.cps.toList ((first + leap * (lo : Nat)) % 26) = some (97 + plc first leap lo) := by
      have e : (first + leap * (lo : Nat)) % 26 = ((plc first leap lo : Nat) : Int) := by
        unfold plc
        rw [Int.toNat_of_nonneg p0]
      rw [e]
      exact atI_nat (abc_at _ (plc_lt first leap lo))
    have lc : ∀ a b : Option Int, (cutS z a b).length ≤ z.length := fun a b => by
      show ((cutS z a b).cps).size ≤ _
      unfold cutS
      rw [List.size_toArray, List.length_take, List.length_drop, len_cps]
      omega
    have s1 : (cutS z none (some (k : Int))).length + Str.length ⟨#[97 + plc first leap lo]⟩ ≤ sizeLine := by
      have e2 : sizeLine = 16777216 := by decide
      have := lc none (some (k : Int))
      have : Str.length ⟨#[97 + plc first leap lo]⟩ = 1 := rfl
      omega
    have s2 : (cutS z none (some (k : Int)) ++ ⟨#[97 + plc first leap lo]⟩).length + (cutS z (some (k : Int)) none).length ≤ sizeLine := by
      have e2 : sizeLine = 16777216 := by decide
      have a := lc none (some (k : Int))
      have b := lc (some (k : Int)) none
      have e3 : (cutS z none (some (k : Int)) ++ ⟨#[97 + plc first leap lo]⟩).length = (cutS z none (some (k : Int))).length + 1 := by
        rw [← len_cps, PySem.W.KT.app_list, List.length_append, len_cps]
        rfl
      omega
    rw [List.range'_succ, List.map_cons, List.map_cons]
    simp [compD, q1, modD, ixD, ea, la, ls, sign, s1, s2, ih]
    rfl
theorem names_spec {h : List D} {n : Nat} {c : Nat} (hh : HandOk h n) (hn : n + 10 < 1000000) (hc : c ≤ 26) :
    ∃ (ns : List Str) (h' : List D), F__law_names [.own (.lst h), .dat (.int c)] = .ok (.own (.lst (ns.map .str))) [.own (.lst h'), .dat (.int c)] ∧ ns.length = c ∧ ns.Nodup ∧ (∀ z ∈ ns, RowS z) ∧ HandOk h' (n + 10) ∧ ∀ z ∈ ns, z.length ≠ 7 := by
  obtain ⟨first, h1, e1, f0, f1, hk1⟩ := take_spec hh (by omega) (m := 26) (by decide) (by decide)
  obtain ⟨y2, h2, e2, hy2, hk2⟩ := pick_spec (Its.list (xs := [.int 1, .int 3, .int 5, .int 7, .int 9, .int 11, .int 25])) hk1 (by omega) (by simp) (by decide)
  obtain ⟨leap, rfl, hl⟩ : ∃ leap, y2 = .int leap ∧ leap ∈ [(1 : Int), 3, 5, 7, 9, 11, 25] := by
    simp only [List.mem_cons, List.not_mem_nil, or_false] at hy2
    rcases hy2 with h | h | h | h | h | h | h <;> exact ⟨_, h, by simp⟩
  obtain ⟨ch, h3, e3, hch, hk3⟩ := pickS_spec (z := abc) hk2 (by omega) (by rw [abc_len]; decide) (by rw [abc_len]; decide)
  obtain ⟨y4, h4, e4, hy4, hk4⟩ := pick_spec (Its.list (xs := [.int 0, .int 0, .int 1, .int 3, .int 7])) hk3 (by omega) (by simp) (by decide)
  obtain ⟨r, rfl, hr⟩ : ∃ r, y4 = .int r ∧ (r = 0 ∨ r = 1 ∨ r = 3 ∨ r = 7) := by
    simp only [List.mem_cons, List.not_mem_nil, or_false] at hy4
    rcases hy4 with h | h | h | h | h <;> exact ⟨_, h, by simp⟩
  obtain ⟨hz7, hzc⟩ := stem_ok (abc_mem ch hch) hr
  have hz6 := stem_six (c := ch) hr
  have em : mulA (sign ch) (.int r) = some (.str (Txt.mul ⟨#[ch]⟩ r)) := by
    show (if 0 ≤ r ∧ r ≤ 1000 ∧ Str.length ⟨#[ch]⟩ ≤ 1000 then some (PyData.str (Txt.mul ⟨#[ch]⟩ r)) else none) = _
    rw [if_pos ⟨by omega, by omega, by show 1 ≤ 1000; decide⟩]
  generalize Txt.mul ⟨#[ch]⟩ r = z at hz7 hzc em hz6
  obtain ⟨kk, h5, e5, k0, k1, hk5⟩ := take_spec hk4 (by omega) (m := (z.length : Int) + 1) (by omega) (by omega)
  obtain ⟨k, rfl⟩ := Int.eq_ofNat_of_zero_le k0
  have hkz : k ≤ z.length := by omega
  have ls : z.length ≤ sizeLine := sz1000 (by omega)
  have cn := comp_names (a0 := .own (.lst h5)) (a1 := .dat (.int c)) hkz hz7 ⟨f0, f1⟩ hl c 0 (by omega)
  have lr : c ≤ sizeLine := sz1000 (by omega)
  refine ⟨nmL z k first leap c, h5, ?_, nmL_len, nmL_nodup hkz hl hc, nmL_row hkz hz7 hzc, hk5.up (by omega), nmL_seven hkz hz6⟩
  rw [← List.range_eq_range'] at cn
  have sh1 := short_ok (ds := [.int 1, .int 3, .int 5, .int 7, .int 9, .int 11, .int 25]) (by decide)
  have sh2 := short_ok (ds := [.int 0, .int 0, .int 1, .int 3, .int 7]) (by decide)
  have sh3 := short_ok (ds := [.int first, .int leap]) (by simp)
  refine fn_run (ρ := [.own (.lst h5), .dat (.int c), .dat (.str abc), .dat (.int first), .dat (.int leap), .dat (.str z), .dat (.int k), .no]) rfl ?_ (fin_rf rfl)
  refine seq_nx (ρ1 := [.own (.lst h), .dat (.int c), .dat (.str abc), .no, .no, .no, .no, .no]) (by simp) ?_
  refine seq_nx (ρ1 := [.own (.lst h2), .dat (.int c), .dat (.str abc), .dat (.int first), .dat (.int leap), .no, .no, .no]) (by simp [sh1, sh3, e1, e2]) ?_
  refine seq_nx (ρ1 := [.own (.lst h4), .dat (.int c), .dat (.str abc), .dat (.int first), .dat (.int leap), .dat (.str z), .no, .no]) (by simp [sh2, e3, e4, em]) ?_
  refine seq_nx (ρ1 := [.own (.lst h5), .dat (.int c), .dat (.str abc), .dat (.int first), .dat (.int leap), .dat (.str z), .dat (.int k), .no]) (by simp [e5, ls]) ?_
  have en : (nmL z k first leap c).map PyData.str = (List.range c).map fun j => .str (nmS z k (97 + plc first leap j)) := by
    unfold nmL
    rw [List.map_map]
    rfl
  rw [en]
  refine seq_one (retF_eq (comp_eq (ρ1 := [.own (.lst h5), .dat (.int c), .dat (.str abc), .dat (.int first), .dat (.int leap), .dat (.str z), .dat (.int k), .no]) (ds := (List.range c).map fun i => .int (i : Nat)) (by simp [range1_eq (c := c) (by omega)]) (by rw [List.length_map, List.length_range]; exact lr) rfl cn rfl)) (fun z => nomatch z)
end Z
namespace Z
open PySem PySem.Spec PyProof.Rows L2 Gd Q
theorem RowS.ok {z : Str} (h : RowS z) : PyData.strOk z = true := by
  unfold PyData.strOk
  rw [Array.all_eq_true_iff_forall_mem]
  intro c hc
  have := h.2.2 c (Array.mem_toList_iff.mpr hc)
  exact decide_eq_true (by omega)
theorem lay_strs : ∀ ns : List Str, (∀ z ∈ ns, PyData.strOk z = true) → PyData.canLayAll0 (ns.map PyData.str) = true
  | [], _ => rfl
  | x :: ns, h => by
    show (PyData.strOk x && PyData.canLayAll0 (ns.map PyData.str)) = true
    rw [lay_strs ns fun z hz => h z (List.mem_cons_of_mem _ hz), h x List.mem_cons_self]
    rfl
theorem deep_strs : ∀ ns : List Str, PyData.depthAll (ns.map PyData.str) = 0
  | [] => rfl
  | x :: ns => by
    show max 0 (PyData.depthAll (ns.map PyData.str)) = 0
    rw [deep_strs ns]
    rfl
theorem shaped_lst {ns : List Str} (h : ∀ z ∈ ns, RowS z) : SeqAt.shaped (.list (ns.map PyData.str)) = true := by
  unfold SeqAt.shaped
  rw [Bool.and_eq_true]
  refine ⟨lay_strs ns fun z hz => (h z hz).ok, decide_eq_true ?_⟩
  show PyData.depthAll (ns.map PyData.str) + 1 ≤ 64
  rw [deep_strs]
  decide
theorem shaped_str {z : Str} (h : RowS z) : SeqAt.shaped (.str z) = true := by
  unfold SeqAt.shaped
  rw [Bool.and_eq_true]
  exact ⟨h.ok, decide_eq_true (by show 0 ≤ 64; decide)⟩
theorem seq_at {n : Nat} {v : Int} (h0 : 0 ≤ v) (h1 : v < (n : Int)) : seqIndex? v n = some v.toNat := by
  have e : ixN n v = some v.toNat := by
    unfold ixN
    rw [if_pos h0, if_pos (by omega)]
  exact (ixN_seq e).1
/-! ### lists of rows, beside [] -/
theorem ne_nil {ns : List Str} (h : ∀ z ∈ ns, RowS z) : neF (.list (ns.map PyData.str)) (.list []) = some (.bool (!ns.isEmpty)) := by
  unfold neF eqD
  rw [if_pos ⟨shaped_lst h, shaped_lst (ns := []) (fun z hz => nomatch hz)⟩]
  cases ns with
  | nil => rfl
  | cons _ _ => rfl
theorem app_eq {ds : List D} {x : D} (h : ds.length ≤ 1000) : appF ds [x] = some (.none, ds ++ [x]) := by
  show (if ds.length < sizeLine then some (PyData.none, ds ++ [x]) else none) = _
  rw [if_pos (Nat.lt_of_le_of_lt h (by decide))]
theorem erase_map {α β : Type} (f : α → β) : ∀ (l : List α) (i : Nat), (l.map f).eraseIdx i = (l.eraseIdx i).map f
  | [], _ => rfl
  | _ :: _, 0 => rfl
  | x :: l, i + 1 => by
    show f x :: (l.map f).eraseIdx i = f x :: (l.eraseIdx i).map f
    rw [erase_map f l i]
theorem pop_eq {ns : List Str} {v : Int} (h0 : 0 ≤ v) (h1 : v < (ns.length : Int)) (hl : ns.length ≤ 1000) : ∃ x, x ∈ ns ∧ popF (ns.map PyData.str) [.int v] = some (.str x, (ns.eraseIdx v.toNat).map PyData.str) ∧ ns[v.toNat]? = some x := by
  have lt : v.toNat < ns.length := by omega
  refine ⟨ns[v.toNat], List.getElem_mem lt, ?_, List.getElem?_eq_getElem lt⟩
  show (if cb (-(2 ^ 63) ≤ v ∧ v < 2 ^ 63) = true then (seqIndex? v (ns.map PyData.str).length).bind fun k => (ns.map PyData.str)[k]?.map fun y => (y, (ns.map PyData.str).eraseIdx k) else none) = _
  rw [if_pos (cb_true ⟨by omega, by omega⟩), List.length_map, seq_at h0 h1]
  show ((ns.map PyData.str)[v.toNat]?).map _ = _
  rw [List.getElem?_map, List.getElem?_eq_getElem lt]
  simp [erase_map]
theorem erase_perm {α : Type} : ∀ {l : List α} {i : Nat} {x : α}, l[i]? = some x → (x :: l.eraseIdx i).Perm l
  | [], _, _, h => by simp at h
  | y :: l, 0, x, h => by
    cases (Option.some.inj h)
    exact List.Perm.refl _
  | y :: l, i + 1, x, h => by
    have ih := erase_perm (l := l) (i := i) (x := x) h
    exact (List.Perm.swap y x (l.eraseIdx i)).trans (ih.cons y)
/-! ### shuffled -/
theorem shuf_loop {it : Sl} : ∀ (fuel : Nat) (rest found : List Str) (h : List D) (n : Nat), rest.length < fuel → found.length + rest.length ≤ 1000 → (∀ z ∈ rest, RowS z) → HandOk h n → n + rest.length < 1000000 →
    ∃ (out : List Str) (h' : List D), whileD (asB (e2 neF (eVar 2) (eLock (fLst eNil)))) (bSeq (bEx (eMut appF 3 (eCons (eMut popF 2 (eCons (eCall F__law_take (eCons (eVar 0) (eCons (eN lenD (eCons (eVar 2) eNil)) eNil))) eNil)) eNil))) bNil) fuel
      [.own (.lst h), it, .own (.lst (rest.map PyData.str)), .own (.lst (found.map PyData.str))] = .ok .nx [.own (.lst h'), it, .own (.lst []), .own (.lst (out.map PyData.str))] ∧ out.Perm (found ++ rest) ∧ HandOk h' (n + rest.length)
  | 0, _, _, _, _, l, _, _, _, _ => by omega
  | fuel + 1, [], found, h, n, _, _, _, hh, _ => by
    refine ⟨found, h, ?_, by rw [List.append_nil], hh⟩
    have e := ne_nil (ns := []) (fun z hz => nomatch hz)
    rw [List.map_nil] at e
    have sh := short_ok (ds := []) (by decide)
    unfold whileD
    simp [sh, e]
  | fuel + 1, x :: rest, found, h, n, l, l2, hr, hh, hn => by
    obtain ⟨v, h1, e1, v0, v1, hk⟩ := take_spec hh (by omega) (m := (rest.length : Int) + 1) (by omega) (by rw [List.length_cons] at l2; omega)
    obtain ⟨y, hy, ey, gy⟩ := pop_eq (ns := x :: rest) v0 (by rw [List.length_cons]; omega) (by omega)
    have pm := erase_perm gy
    have le : ((x :: rest).eraseIdx v.toNat).length = rest.length := by
      have := pm.length_eq
      rw [List.length_cons, List.length_cons] at this
      omega
    rw [List.length_cons] at l l2 hn
    obtain ⟨out, h2, e2, p2, hk2⟩ := shuf_loop (it := it) fuel ((x :: rest).eraseIdx v.toNat) (found ++ [y]) h1 (n + 1) (by omega) (by rw [List.length_append, List.length_singleton]; omega) (fun z hz => hr z (pm.subset (List.mem_cons_of_mem _ hz))) hk (by omega)
    refine ⟨out, h2, ?_, ?_, hk2.up (by rw [List.length_cons]; omega)⟩
    · have e := ne_nil hr
      rw [List.map_cons] at e
      have sh := short_ok (ds := []) (by decide)
      have ap := app_eq (ds := found.map PyData.str) (x := .str y) (by rw [List.length_map]; omega)
      rw [List.map_append] at e2
      rw [List.map_cons] at ey
      unfold whileD
      simp at e2
      simp [sh, e, e1, ey, ap, e2]
    · refine p2.trans ?_
      rw [List.append_assoc]
      exact List.Perm.append_left found pm
theorem shuffled_spec {h : List D} {n : Nat} {it : Sl} {ns : List Str} (hi : Its it (ns.map PyData.str)) (hr : ∀ z ∈ ns, RowS z) (hh : HandOk h n) (hl : ns.length ≤ 900) (hn : n + ns.length < 1000000) :
    ∃ (out : List Str) (h' : List D), F__law_shuffled [.own (.lst h), it] = .ok (.own (.lst (out.map PyData.str))) [.own (.lst h'), it] ∧ out.Perm ns ∧ HandOk h' (n + ns.length) := by
  obtain ⟨out, h', e, p, hk⟩ := shuf_loop (it := it) 1000 ns [] h n (by omega) (by rw [List.length_nil]; omega) hr hh hn
  refine ⟨out, h', ?_, by rw [List.nil_append] at p; exact p, hk⟩
  have sh := short_ok (ds := []) (by decide)
  refine fn_run (o := .rt (.v 3)) (ρ := [.own (.lst h'), it, .own (.lst []), .own (.lst (out.map PyData.str))]) rfl ?_ rfl
  refine seq_nx (ρ1 := [.own (.lst h), it, .own (.lst (ns.map PyData.str)), .own (.lst [])]) ?_ (seq_nx e ?_)
  · cases hi <;> simp [sh]
  · exact seq_one rfl (fun z => nomatch z)
end Z
namespace Z
open PySem PySem.Spec PyProof.Rows L2 Gd Q
def verD (v : List Str) : D := .tuple (v.map PyData.str)
theorem eq_int (a b : Int) : eqF (.int a) (.int b) = some (.bool (a == b)) := by
  unfold eqF eqD
  rw [if_pos ⟨rfl, rfl⟩]
  rfl
/-- what becomes of a version, and of the names that are not used yet -/
inductive Chg (v fresh : List Str) : List Str → List Str → Prop
  | moved {v' : List Str} : v'.Perm v → Chg v fresh v' fresh
  | gone {v' : List Str} {x : Str} : (x :: v').Perm v → Chg v fresh v' fresh
  | came {v' fresh' : List Str} {x : Str} : fresh = x :: fresh' → v'.Perm (x :: v) → v.length < 24 → Chg v fresh v' fresh'
end Z
namespace Z
open PySem PySem.Spec PyProof.Rows L2 Gd Q
/-! ### histories -/
structure HOk (hs : List (List Str)) : Prop where
  ne : hs ≠ []
  nodup : ∀ v ∈ hs, v.Nodup
  row : ∀ v ∈ hs, ∀ z ∈ v, RowS z
  len : ∀ v ∈ hs, v.length ≤ 24
  stay : ∀ (i j k : Nat) (a b c : List Str) (z : Str), hs[i]? = some a → hs[j]? = some b → hs[k]? = some c → i < j → j < k → z ∈ a → z ∉ b → z ∉ c
structure HFr (hs : List (List Str)) (fresh names : List Str) : Prop where
  ok : HOk hs
  fnd : fresh.Nodup
  frow : ∀ z ∈ fresh, RowS z
  apart : ∀ v ∈ hs, ∀ z ∈ v, z ∉ fresh
  sub : ∀ v ∈ hs, ∀ z ∈ v, z ∈ names
  fsub : ∀ z ∈ fresh, z ∈ names
theorem HFr.step {hs : List (List Str)} {fresh names v v' fresh' : List Str} (h : HFr hs fresh names) (hl : hs.getLast? = some v) (c : Chg v fresh v' fresh') : HFr (hs ++ [v']) fresh' names := by
  have hv : v ∈ hs := List.mem_of_getLast? hl
  -- what the new version has
  have mem : ∀ z ∈ v', z ∈ v ∨ (z ∈ fresh ∧ z ∉ fresh') := by
    cases c with
    | moved p => exact fun z hz => .inl (p.subset hz)
    | gone p => exact fun z hz => .inl (p.subset (List.mem_cons_of_mem _ hz))
    | came e p _ =>
      subst e
      intro z hz
      rcases List.mem_cons.mp (p.subset hz) with q | q
      · exact .inr ⟨by rw [q]; exact List.mem_cons_self, by rw [q]; exact (List.nodup_cons.mp h.fnd).1⟩
      · exact .inl q
  have nd : v'.Nodup := by
    cases c with
    | moved p => exact p.nodup_iff.mpr (h.ok.nodup v hv)
    | gone p => exact (List.nodup_cons.mp (p.nodup_iff.mpr (h.ok.nodup v hv))).2
    | came e p _ =>
      subst e
      exact p.nodup_iff.mpr (List.nodup_cons.mpr ⟨fun z => h.apart v hv _ z List.mem_cons_self, h.ok.nodup v hv⟩)
  have len : v'.length ≤ 24 := by
    have lv := h.ok.len v hv
    cases c with
    | moved p => rw [p.length_eq]; exact lv
    | gone p =>
      have := p.length_eq
      rw [List.length_cons] at this
      omega
    | came e p l => rw [p.length_eq, List.length_cons]; omega
  have fs : ∀ z ∈ fresh', z ∈ fresh := by
    cases c with
    | moved _ => exact fun z hz => hz
    | gone _ => exact fun z hz => hz
    | came e _ _ =>
      subst e
      exact fun z hz => List.mem_cons_of_mem _ hz
  have fn : fresh'.Nodup := by
    cases c with
    | moved _ => exact h.fnd
    | gone _ => exact h.fnd
    | came e _ _ =>
      subst e
      exact (List.nodup_cons.mp h.fnd).2
  have two : ∀ {P : List Str → Prop}, (∀ u ∈ hs, P u) → P v' → ∀ u ∈ hs ++ [v'], P u := fun {P} a b u hu => by
    rcases List.mem_append.mp hu with q | q
    · exact a u q
    · rw [List.mem_singleton.mp q]
      exact b
  refine ⟨⟨by simp, two h.ok.nodup nd, two h.ok.row fun z hz => ?_, two h.ok.len len, fun i j k a b c z ha hb hc ij jk za zb zc => ?_⟩, fn, fun z hz => h.frow z (fs z hz), two (fun u hu z hz q => h.apart u hu z hz (fs z q)) fun z hz q => ?_, two h.sub fun z hz => ?_, fun z hz => h.fsub z (fs z hz)⟩
  · rcases mem z hz with q | q
    · exact h.ok.row v hv z q
    · exact h.frow z q.1
  · have lk : k < (hs ++ [v']).length := (List.getElem?_eq_some_iff.mp hc).1
    rw [List.length_append, List.length_singleton] at lk
    rw [List.getElem?_append_left (by omega)] at ha hb
    by_cases kl : k < hs.length
    · rw [List.getElem?_append_left kl] at hc
      exact h.ok.stay i j k a b c z ha hb hc ij jk za zb zc
    · have ke : k = hs.length := by omega
      subst ke
      rw [List.getElem?_append_right (Nat.le_refl _), Nat.sub_self] at hc
      cases hc
      rcases mem z zc with q | q
      · have gl : hs[hs.length - 1]? = some v := by rw [← List.getLast?_eq_getElem?]; exact hl
        by_cases jl : j = hs.length - 1
        · subst jl
          rw [gl] at hb
          cases hb
          exact zb q
        · exact h.ok.stay i j (hs.length - 1) a b v z ha hb gl ij (by omega) za zb q
      · exact h.apart a (List.mem_of_getElem? ha) z za q.1
  · rcases mem z hz with w | w
    · exact h.apart v hv z w (fs z q)
    · exact w.2 q
  · rcases mem z hz with q | q
    · exact h.sub v hv z q
    · exact h.fsub z q.1
def histD (hs : List (List Str)) : D := .tuple (hs.map verD)
theorem cutL_to {α : Type} (xs : List α) (c : Nat) : cutL xs none (some (c : Int)) = xs.take c := by
  unfold cutL
  rw [HT.sIx_none, HT.sIx_nat, List.drop_zero, Nat.sub_zero]
  by_cases h : c ≤ xs.length
  · rw [Nat.min_eq_left h]
  · rw [Nat.min_eq_right (by omega), List.take_length, List.take_of_length_le (by omega)]
theorem cutL_from {α : Type} (xs : List α) (c : Nat) : cutL xs (some (c : Int)) none = xs.drop c := by
  unfold cutL
  rw [HT.sIx_none, HT.sIx_nat]
  by_cases h : c ≤ xs.length
  · rw [Nat.min_eq_left h, List.take_of_length_le (by rw [List.length_drop]; omega)]
  · rw [Nat.min_eq_right (by omega), List.drop_of_length_le (l := xs) (by omega), List.drop_of_length_le (l := xs) (by omega), List.take_nil]
theorem for_eq {it : Mo (List D)} {g : Tg} {b : Mo Out} {ρ ρ1 : Ev} {ds : List D} {r : Rt Out} (hi : it ρ = .ok ds ρ1) (h : loopD g b ds ρ1 = r) : bFor it g b ρ = r := by
  unfold bFor
  rw [hi]
  exact h
theorem nodup_sub_len {xs : List Str} : ∀ {ys : List Str}, ys.Nodup → (∀ z ∈ ys, z ∈ xs) → ys.length ≤ xs.length
  | [], _, _ => Nat.zero_le _
  | y :: ys, nd, h => by
    obtain ⟨ny, nd⟩ := List.nodup_cons.mp nd
    have hy := h y List.mem_cons_self
    have e : xs.length = (xs.erase y).length + 1 := by
      have := List.length_erase_of_mem hy
      have : 0 < xs.length := List.length_pos_of_mem hy
      omega
    have := nodup_sub_len (xs := xs.erase y) nd fun z hz => (List.mem_erase_of_ne fun q => ny (by rw [← q]; exact hz)).mpr (h z (List.mem_cons_of_mem _ hz))
    rw [List.length_cons]
    omega
end Z
namespace Z
open PySem PySem.Spec PyProof.Rows L2 Gd Q
/-! ### a new hand -/
theorem pow_ok {i : Int} {j : Nat} (h : i.natAbs < 2 ^ 64) (hj : j ≤ 1000) : powD (.int i) (.int j) = some (.int (i ^ j)) := by
  show (if cb (0 ≤ (j : Int) ∧ (j : Int) ≤ 1000000 ∧ i.natAbs < 2 ^ 64) = true then some (PyData.int (i ^ (j : Int).toNat)) else none) = _
  rw [if_pos (cb_true ⟨by omega, by omega, h⟩), Int.toNat_natCast]
theorem mul_wide {i j : Int} {a b : Nat} (ha : i.natAbs < 2 ^ a) (hb : j.natAbs < 2 ^ b) (h0 : 0 < a) (h1 : 0 < b) (h : a + b ≤ 1000000) : mulA (.int i) (.int j) = some (.int (i * j)) := by
  show (if mulOk i j = true then some (PyData.int (i * j)) else none) = _
  unfold mulOk
  have : CMulW i j := wide_mul ha hb h0 h1 h
  rw [cb_true (p := i.natAbs.log2 + j.natAbs.log2 < 1000000) this, Bool.or_true]
  rfl
theorem hand_spec {ns : List Int} {k : Nat} (hk : k ≤ 1000) : ∃ h : List D, F__law_hand [.dat (scrD ns), .dat (.int k)] = .ok (.own (.lst h)) [.dat (scrD ns), .dat (.int k)] ∧ HandOk h 0 := by
  -- the cell
  obtain ⟨cell, ec⟩ : ∃ cell : Int, eIf (asB (e2 ltD (eVar 1) (eN lenD (eCons (eVar 0) eNil)))) (e2 ixD (eVar 0) (eVar 1)) (e2 addD (e2 mulA (eC (.int 7)) (eVar 1)) (eC (.int 3))) [.dat (scrD ns), .dat (.int k), .no, .no] = .ok (.d (.int cell)) [.dat (scrD ns), .dat (.int k), .no, .no] := by
    by_cases lt : k < ns.length
    · have l2 : (k : Int) < (ns.length : Int) := by omega
      have ea : atI (ns.map PyData.int) (k : Int) = some (.int ns[k]) := atI_nat (by rw [List.getElem?_map, List.getElem?_eq_getElem lt]; rfl)
      exact ⟨ns[k], by simp [scrD, ltD, ordD, l2, lt, ixD, ea]⟩
    · have l2 : ¬ (k : Int) < (ns.length : Int) := by omega
      have em := mulD_l (i := 7) (j := (k : Nat)) ⟨by decide, by decide⟩
      exact ⟨7 * (k : Int) + 3, by simp [scrD, ltD, ordD, l2, lt, em]⟩
  have p60 : powD (.int 10) (.int 60) = some (.int ((10 : Int) ^ 60)) := pow_ok (i := 10) (j := 60) (by decide) (by decide)
  have p18 : powD (.int 10) (.int 18) = some (.int ((10 : Int) ^ 18)) := pow_ok (i := 10) (j := 18) (by decide) (by decide)
  have b60 : ((10 : Int) ^ 60).natAbs < 2 ^ 200 := by decide +kernel
  have pos : (0 : Int) < 10 ^ 60 := by decide +kernel
  generalize (10 : Int) ^ 60 = t at p60 b60 pos
  generalize (10 : Int) ^ 18 = u at p18
  have t2 : (t * t).natAbs < 2 ^ 400 := by
    rw [Int.natAbs_mul, show (400 : Nat) = 200 + 200 from rfl, Nat.pow_add]
    exact Nat.mul_lt_mul'' b60 b60
  have t3 : (t * t * t).natAbs < 2 ^ 600 := by
    rw [Int.natAbs_mul, show (600 : Nat) = 400 + 200 from rfl, Nat.pow_add]
    exact Nat.mul_lt_mul'' t2 b60
  have q1 := mul_wide b60 b60 (by decide) (by decide) (by decide)
  have q2 := mul_wide t2 b60 (by decide) (by decide) (by decide)
  have q3 := mul_wide t3 b60 (by decide) (by decide) (by decide)
  have pt : 0 < t * t * t * t := Int.mul_pos (Int.mul_pos (Int.mul_pos pos pos) pos) pos
  generalize t * t * t * t = w at q3 pt
  have bit : ∀ b : Bool, mulA (.int ((if cell < 0 then -cell else cell) % w)) (.int (if b = true then 1 else 0)) = some (.int ((if cell < 0 then -cell else cell) % w * if b = true then 1 else 0)) := fun b => mulD_r (by cases b <;> decide)
  have k1 := mulD_l (i := 104729) (j := (k : Nat)) ⟨by decide, by decide⟩
  have k2 := mulD_r (i := 104729 * (k : Int)) (j := (k : Nat)) ⟨by omega, by omega⟩
  have k3 := mulD_r (i := cell % 2305843009213693951 + 104729 * (k : Int) * (k : Int) + 29) (j := 48271) ⟨by decide, by decide⟩
  generalize hb : decide (u ≤ if cell < 0 then -cell else cell) = b
  have bb := bit b
  generalize ha : (if cell < 0 then -cell else cell) = a at bb hb
  generalize hg : (a % w * if b = true then (1 : Int) else 0) = g at bb
  have g0 : 0 ≤ g := by
    rw [← hg]
    refine Int.mul_nonneg (Int.emod_nonneg _ (by omega)) ?_
    split <;> decide
  have sh := short_ok (ds := [.int g, .int ((cell % 2305843009213693951 + 104729 * (k : Int) * (k : Int) + 29) * 48271 % 2305843009213693921), .int 0]) (by simp)
  refine ⟨[.int g, .int ((cell % 2305843009213693951 + 104729 * (k : Int) * (k : Int) + 29) * 48271 % 2305843009213693921), .int 0], ?_, g, _, 0, rfl, g0, Int.emod_nonneg _ (by decide), Int.lt_of_lt_of_le (Int.emod_lt_of_pos _ (by decide)) (by decide), by decide, by decide⟩
  refine fn_run (ρ := [.dat (scrD ns), .dat (.int k), .dat (.int cell), .dat (.int g)]) rfl ?_ (fin_rf rfl)
  refine seq_nx (ρ1 := [.dat (scrD ns), .dat (.int k), .dat (.int cell), .no]) (by show bSet 2 _ _ = _; unfold bSet; rw [show ([Sl.dat (scrD ns), .dat (.int k)] ++ List.replicate (4 - 2) Sl.no) = [.dat (scrD ns), .dat (.int k), .no, .no] from rfl, ec]; simp) ?_
  refine seq_nx (ρ1 := [.dat (scrD ns), .dat (.int k), .dat (.int cell), .dat (.int g)]) ?_ ?_
  · simp [p60, p18, q1, q2, q3, modD, pt, geD, ordD, ha, hb, bb]
  · exact seq_one (by simp [modD, k1, k2, k3, sh]) (fun z => nomatch z)
end Z
namespace Z
open PySem PySem.Spec PyProof.Rows L2 Gd Q
theorem set_set {α : Type} (l : List α) (i : Nat) (a b : α) : (l.set i a).set i b = l.set i b := by
  apply List.ext_getElem?
  intro j
  simp only [List.getElem?_set]
  split
  · simp
  · rfl
theorem set_self {l : List Sl} {i : Nat} (h : i < l.length) : l.set i (l.getD i .no) = l := by
  apply List.ext_getElem?
  intro j
  simp only [List.getElem?_set, List.getD_eq_getElem?_getD]
  split
  · next e =>
    subst e
    simp [h]
  · rfl
theorem gN_eq {i : Nat} {ρ : Ev} {d : D} (h : i < ρ.length) : gN i d ρ = some (ρ.set i (.dat d)) := if_pos h
/-- a comprehension over one name that changes nothing -/
theorem comp_pure {i : Nat} {t : Mo Bool} {e : Mo R} {ρ : Ev} {p : D → Bool} {f : D → D} (li : i < ρ.length) : ∀ (ds : List D), (∀ d ∈ ds, t (ρ.set i (.dat d)) = .ok (p d) (ρ.set i (.dat d))) → (∀ d ∈ ds, p d = true → e (ρ.set i (.dat d)) = .ok (.d (f d)) (ρ.set i (.dat d))) →
    compD (gN i) t e [i] ds (ρ.set i .no) = .ok ((ds.filter p).map f) (ρ.set i .no)
  | [], _, _ => rfl
  | d :: ds, ht, he => by
    have ih := comp_pure (t := t) (e := e) (ρ := ρ) (p := p) (f := f) li ds (fun d hd => ht d (List.mem_cons_of_mem _ hd)) fun d hd => he d (List.mem_cons_of_mem _ hd)
    have h1 := ht d List.mem_cons_self
    have w : wipeE (ρ.set i (.dat d)) [i] = ρ.set i .no := set_set ρ i _ _
    unfold compD
    rw [gN_eq (by rw [List.length_set]; exact li), set_set]
    dsimp only
    rw [h1]
    cases hp : p d with
    | false =>
      show compD (gN i) t e [i] ds (wipeE (ρ.set i (.dat d)) [i]) = _
      rw [w, ih, List.filter_cons, hp]
      rfl
    | true =>
      have h2 := he d List.mem_cons_self hp
      show (e (ρ.set i (.dat d))).bnd _ = _
      rw [h2]
      show (compD (gN i) t e [i] ds (wipeE (ρ.set i (.dat d)) [i])).bnd _ = _
      rw [w, ih, List.filter_cons, hp]
      rfl
theorem fcomp_pure {i : Nat} {it : Mo (List D)} {t : Mo Bool} {e : Mo R} {ρ : Ev} {ds : List D} (p : D → Bool) (f : D → D) (li : i < ρ.length) (no : noOwn ρ [i] = true) (hi : it ρ = .ok ds ρ) (hl : ds.length ≤ 1000) (ht : ∀ d ∈ ds, t (ρ.set i (.dat d)) = .ok (p d) (ρ.set i (.dat d))) (he : ∀ d ∈ ds, p d = true → e (ρ.set i (.dat d)) = .ok (.d (f d)) (ρ.set i (.dat d))) :
    fComp it (gN i) t e [i] ρ = .ok (.lst ((ds.filter p).map f)) ρ := by
  refine comp_eq hi (sz1000 hl) no (comp_pure li ds ht he) ?_
  show ((ρ.set i .no).set i (ρ.getD i .no)) = ρ
  rw [set_set, set_self li]
theorem fcomp_map {i : Nat} {it : Mo (List D)} {e : Mo R} {ρ : Ev} {ds : List D} (f : D → D) (li : i < ρ.length) (no : noOwn ρ [i] = true) (hi : it ρ = .ok ds ρ) (hl : ds.length ≤ 1000) (he : ∀ d ∈ ds, e (ρ.set i (.dat d)) = .ok (.d (f d)) (ρ.set i (.dat d))) :
    fComp it (gN i) bYes e [i] ρ = .ok (.lst (ds.map f)) ρ := by
  have := fcomp_pure (t := bYes) (e := e) (fun _ => true) f li no hi hl (fun _ _ => rfl) fun d hd _ => he d hd
  rw [List.filter_eq_self.mpr fun _ _ => rfl] at this
  exact this
/-! ### the first place where something holds -/
def enumFrom (k : Nat) (ds : List D) : List D := (ds.zipIdx k).map fun p => Q.pairD (.int (p.2 : Nat)) p.1
theorem enumD_from (ds : List D) : enumD ds = enumFrom 0 ds := rfl
theorem set_comm2 {l : List Sl} {a b : Nat} {x y z : Sl} (h : a ≠ b) : ((l.set a x).set b y).set a z = (l.set a z).set b y := by
  rw [List.set_comm _ _ h.symm, set_set]
abbrev g2 (a b : Nat) : Tg := gT 2 (gsCons (gN a) (gsCons (gN b) gsNil))
theorem g2_eq {a b : Nat} {ρ : Ev} {d e : D} (ha : a < ρ.length) (hb : b < ρ.length) : g2 a b (Q.pairD d e) ρ = some ((ρ.set a (.dat d)).set b (.dat e)) := by
  have hb2 : b < (ρ.set a (.dat d)).length := by rw [List.length_set]; exact hb
  simp [Q.pairD, ha, hb]
theorem loop_first {a b : Nat} {ρ : Ev} {body : Mo Out} {p : D → Bool} (hab : a ≠ b) (ha : a < ρ.length) (hb : b < ρ.length) : ∀ (ds : List D) (k : Nat) (x y : Sl), (∀ d ∈ ds, ∀ k : Nat, (p d = true → body ((ρ.set a (.dat (.int k))).set b (.dat d)) = .ok (.rt (.d (.int k))) ((ρ.set a (.dat (.int k))).set b (.dat d))) ∧ (p d = false → body ((ρ.set a (.dat (.int k))).set b (.dat d)) = .ok .nx ((ρ.set a (.dat (.int k))).set b (.dat d)))) →
    ∃ x' y', loopD (g2 a b) body (enumFrom k ds) ((ρ.set a x).set b y) = match ds.findIdx? p with
      | some j => .ok (.rt (.d (.int ((k + j : Nat))))) ((ρ.set a x').set b y')
      | none => .ok .nx ((ρ.set a x').set b y')
  | [], k, x, y, _ => ⟨x, y, rfl⟩
  | d :: ds, k, x, y, h => by
    have h1 := h d List.mem_cons_self k
    have l1 : a < ((ρ.set a x).set b y).length := by rw [List.length_set, List.length_set]; exact ha
    have l2 : b < ((ρ.set a x).set b y).length := by rw [List.length_set, List.length_set]; exact hb
    have e1 : enumFrom k (d :: ds) = Q.pairD (.int (k : Nat)) d :: enumFrom (k + 1) ds := rfl
    have e2 : (((ρ.set a x).set b y).set a (.dat (.int k))).set b (.dat d) = (ρ.set a (.dat (.int k))).set b (.dat d) := by rw [set_comm2 hab, set_set]
    rw [e1]
    unfold loopD
    rw [g2_eq l1 l2, e2]
    dsimp only
    rw [List.findIdx?_cons]
    cases hp : p d with
    | true =>
      rw [h1.1 hp]
      exact ⟨.dat (.int k), .dat d, rfl⟩
    | false =>
      rw [h1.2 hp]
      obtain ⟨x', y', e⟩ := loop_first (p := p) hab ha hb ds (k + 1) (.dat (.int k)) (.dat d) fun d hd => h d (List.mem_cons_of_mem _ hd)
      refine ⟨x', y', ?_⟩
      show loopD (g2 a b) body (enumFrom (k + 1) ds) ((ρ.set a (.dat (.int k))).set b (.dat d)) = _
      rw [e]
      cases ds.findIdx? p with
      | none => rfl
      | some j =>
        show Rt.ok (Out.rt (.d (.int ((k + 1 + j : Nat))))) _ = Rt.ok (Out.rt (.d (.int ((k + (j + 1) : Nat))))) _
        rw [show k + 1 + j = k + (j + 1) by omega]
/-! ### rows in rows -/
theorem any_strs (x : Str) : ∀ ys : List Str, ((ys.map PyData.str).any fun z => PyData.eqv z (.str x)) = ys.contains x
  | [] => rfl
  | y :: ys => by
    rw [List.map_cons, List.any_cons, any_strs x ys, List.contains_cons]
    show ((y == x) || _) = _
    rw [show (y == x) = (x == y) from Bool.eq_iff_iff.mpr (by rw [beq_iff_eq, beq_iff_eq]; exact eq_comm)]
theorem inT {x : Str} {ys : List Str} (hx : RowS x) (hy : ∀ z ∈ ys, RowS z) : inF (.str x) (.tuple (ys.map PyData.str)) = some (.bool (ys.contains x)) := by
  show Option.map PyData.bool (if SeqAt.shaped (PyData.str x) = true ∧ PyData.canLayAll0 (ys.map PyData.str) = true then some ((ys.map PyData.str).any fun z => PyData.eqv z (.str x)) else none) = _
  rw [if_pos ⟨shaped_str hx, lay_strs ys fun z hz => (hy z hz).ok⟩, any_strs]
  rfl
theorem ninT {x : Str} {ys : List Str} (hx : RowS x) (hy : ∀ z ∈ ys, RowS z) : ninF (.str x) (.tuple (ys.map PyData.str)) = some (.bool (!ys.contains x)) := by
  show Option.map (fun r => PyData.bool (!r)) (if SeqAt.shaped (PyData.str x) = true ∧ PyData.canLayAll0 (ys.map PyData.str) = true then some ((ys.map PyData.str).any fun z => PyData.eqv z (.str x)) else none) = _
  rw [if_pos ⟨shaped_str hx, lay_strs ys fun z hz => (hy z hz).ok⟩, any_strs]
  rfl
theorem findIdx_map {α β : Type} (f : α → β) (p : β → Bool) : ∀ l : List α, (l.map f).findIdx? p = l.findIdx? (p ∘ f)
  | [] => rfl
  | x :: l => by
    rw [List.map_cons, List.findIdx?_cons, List.findIdx?_cons, findIdx_map f p l]
    rfl
def strOf : D → Str
  | .str z => z
  | _ => ""
/-- how many first rows have no live row outside of some -/
def lim (v live w : List Str) : Nat := (v.findIdx? fun z => !w.contains z && live.contains z).getD v.length
end Z
namespace Z
open PySem PySem.Spec PyProof.Rows L2 Gd Q
theorem bool2 (b : Bool) : b = true ∨ b = false := by cases b <;> simp
abbrev Rows (v : List Str) : Prop := ∀ z ∈ v, RowS z
theorem prefix_length_spec {v live w : List Str} (hv : Rows v) (hl : Rows live) (hs : Rows w) : F_prefix_length [.dat (verD v), .dat (verD live), .dat (verD w)] = .ok (.dat (.int (lim v live w))) [.dat (verD v), .dat (verD live), .dat (verD w)] := by
  obtain ⟨x, y, e⟩ := loop_first (a := 3) (b := 4) (ρ := [.dat (verD v), .dat (verD live), .dat (verD w), .no, .no]) (p := fun d => !w.contains (strOf d) && live.contains (strOf d))
    (body := bSeq (bIf (bAnd (asB (e2 ninF (eVar 4) (eVar 2))) (asB (e2 inF (eVar 4) (eVar 1)))) (bSeq (bRet (eVar 3)) bNil) bNil) bNil) (by decide) (by simp) (by simp) (v.map PyData.str) 0 .no .no (fun d hd k => by
      obtain ⟨z, hz, rfl⟩ := List.mem_map.mp hd
      have i1 := inT (hv z hz) hl
      have i2 := ninT (hv z hz) hs
      refine ⟨fun hp => ?_, fun hp => ?_⟩ <;> (have hp : (!w.contains z && live.contains z) = _ := hp) <;> rcases bool2 (w.contains z) with h1 | h1 <;> rcases bool2 (live.contains z) with h2 | h2 <;> rw [h1, h2] at hp <;> first | (exact absurd hp (by decide)) | (rw [h1] at i2; rw [h2] at i1; simp [verD, i1, i2]))
  rw [findIdx_map] at e
  have it : iMap enF (eCons (eVar 0) eNil) [.dat (verD v), .dat (verD live), .dat (verD w), .no, .no] = .ok (enumFrom 0 (v.map PyData.str)) [.dat (verD v), .dat (verD live), .dat (verD w), .no, .no] := by
    simp [verD, enumD_from]
  have ef : (fun d => !w.contains (strOf d) && live.contains (strOf d)) ∘ PyData.str = fun z => !w.contains z && live.contains z := rfl
  rw [ef] at e
  unfold lim
  cases hf : v.findIdx? fun z => !w.contains z && live.contains z with
  | none =>
    rw [hf] at e
    refine fn_run (ρ := [.dat (verD v), .dat (verD live), .dat (verD w), x, y]) rfl ?_ (fin_rt rfl)
    exact seq_nx (for_eq it e) (seq_one (by simp [verD]) (fun z => nomatch z))
  | some j =>
    rw [hf] at e
    refine fn_run (ρ := [.dat (verD v), .dat (verD live), .dat (verD w), x, y]) rfl ?_ (fin_rt rfl)
    refine seq_one ((for_eq it e).trans ?_) (fun z => nomatch z)
    show Rt.ok (Out.rt (.d (.int ((0 + j : Nat))))) _ = _
    rw [Nat.zero_add]
    rfl
def intD' (n : Nat) : D := .int (n : Nat)
def limsD (hs : List (List Str)) (last w : List Str) : List D := hs.map fun v => .int (lim v last w : Nat)
end Z
namespace Z
open PySem PySem.Spec PyProof.Rows L2 Gd Q
/-! ### a comprehension over two names -/
/-! ### prefixes -/
def pfx (v last w : List Str) : List Str := v.take (lim v last w)
/-! ### supports -/
def natD : Option Nat → D
  | some j => .int (j : Nat)
  | none => .none
def supp (hs : List (List Str)) (last w : List Str) (z : Str) : Option Nat := hs.findIdx? fun v => (pfx v last w).contains z
def suppsD (hs : List (List Str)) (last w : List Str) : D := if (w.all fun z => (supp hs last w z).isSome) = true then .tuple (w.map fun z => natD (supp hs last w z)) else .none
end Z
namespace Z
open PySem PySem.Spec PyProof.Rows L2 Gd Q
/-! ### the live rows -/
/-- what `row in value` says of a text and any value that can be laid -/
def isIn (d : D) (z : Str) : Bool := match d with
  | .tuple ds => ds.any fun x => PyData.eqv x (.str z)
  | .list ds => ds.any fun x => PyData.eqv x (.str z)
  | _ => false
theorem isIn_ver (w : List Str) (z : Str) : isIn (verD w) z = w.contains z := any_strs z w
def isSet (last w : List Str) : Bool := w == (srt last).filter fun z => w.contains z
/-! ### is_reachable -/
def reach (hs : List (List Str)) (last w : List Str) : Bool := isSet last w && w.all fun z => (supp hs last w z).isSome
end Z
namespace Z
open PySem PySem.Spec PyProof.Rows L2 Gd Q
theorem loop_cons {g : Tg} {b : Mo Out} {d : D} {ds : List D} {ρ ρ1 ρ2 : Ev} {r : Rt Out} (hg : g d ρ = some ρ1) (hb : b ρ1 = .ok .nx ρ2) (h : loopD g b ds ρ2 = r) : loopD g b (d :: ds) ρ = r := by
  unfold loopD
  rw [hg]
  show (b ρ1).bind _ = r
  rw [hb]
  exact h
theorem lock_eq {m : Mo Ob} {ρ ρ1 : Ev} {o : Ob} (h : m ρ = .ok o ρ1) (nd : o.nd = true := by rfl) : eLock m ρ = .ok (.d o.d) ρ1 := by
  unfold eLock
  rw [h]
  cases o with
  | dt _ => cases nd
  | _ => rfl
/-! ### the law's prefixes -/
def live (last v : List Str) : List Str := v.filter fun z => last.contains z
def takes (u : List Str) : List (List Str) := (List.range u.length).map fun i => u.take (1 + i)
def prefs (hs : List (List Str)) (last : List Str) : List (List Str) := [] :: hs.flatMap fun v => takes (live last v)
def cutOf (u : List Str) : D → D
  | .int i => verD (u.take i.toNat)
  | x => x
end Z
namespace Z
open PySem PySem.Spec PyProof.Rows L2 Gd Q
/-! ### the keys of a dict of pairs -/
theorem bools_of : ∀ bs : List Bool, boolsD (bs.map PyData.bool) = some bs
  | [] => rfl
  | b :: bs => by
    show (boolsD (bs.map PyData.bool)).map (b :: ·) = _
    rw [bools_of bs]
    rfl
def allIn (w : List Str) : D → Bool
  | .tuple ds => ds.all fun x => w.contains (strOf x)
  | _ => false
def inside (ps : List (List Str)) (w : List Str) : List (List Str) := ps.filter fun p => p.all fun z => w.contains z
end Z
namespace Z
open PySem PySem.Spec PyProof.Rows L2 Gd Q
/-! ### unions of prefixes and supports -/
end Z
namespace Z
open PySem PySem.Spec PyProof.Rows L2 Gd Q
/-! ### repr of small data -/
structure Sh (B k : Nat) (d : D) : Prop where
  s : d.showable = true
  n : d.hasDict = false
  k : d.depth ≤ k
  l : d.shown.length ≤ B
theorem Sh.repr {B k : Nat} {d : D} (h : Sh B k d) (hB : B ≤ 1000000) (hk : k ≤ 60) : reprD [d] = some (.str d.shown) := if_pos ⟨h.s, h.n, Nat.le_trans h.k hk, Nat.le_trans h.l (Nat.le_trans hB (by decide))⟩
theorem Sh.all {B k : Nat} : ∀ ds : List D, (∀ d ∈ ds, Sh B k d) → PyData.showableAll ds = true ∧ PyData.hasDictAll ds = false ∧ PyData.depthAll ds ≤ k ∧ ((PyData.shownAll ds).map (·.length)).sum ≤ B * ds.length ∧ (PyData.shownAll ds).length = ds.length
  | [], _ => ⟨rfl, rfl, Nat.zero_le _, Nat.zero_le _, rfl⟩
  | d :: ds, h => by
    obtain ⟨h1, h2, h3, h4, h5⟩ := Sh.all ds fun d hd => h d (List.mem_cons_of_mem _ hd)
    have hd := h d List.mem_cons_self
    refine ⟨?_, ?_, ?_, ?_, ?_⟩
    · show (d.showable && PyData.showableAll ds) = true
      rw [hd.s, h1]
      rfl
    · show (d.hasDict || PyData.hasDictAll ds) = false
      rw [hd.n, h2]
      rfl
    · show max d.depth (PyData.depthAll ds) ≤ k
      exact Nat.max_le.mpr ⟨hd.k, h3⟩
    · show d.shown.length + ((PyData.shownAll ds).map (·.length)).sum ≤ B * (ds.length + 1)
      have := hd.l
      rw [Nat.mul_succ]
      omega
    · show (PyData.shownAll ds).length + 1 = ds.length + 1
      rw [h5]
theorem Sh.tup {B k m : Nat} {ds : List D} (h : ∀ d ∈ ds, Sh B k d) (l : ds.length ≤ m) : Sh ((B + 2) * m + 3) (k + 1) (.tuple ds) := by
  obtain ⟨h1, h2, h3, h4, h5⟩ := Sh.all ds h
  refine ⟨h1, h2, Nat.succ_le_succ h3, ?_⟩
  show (tupleText (PyData.shownAll ds)).length ≤ _
  have t := tupleText_len_le (PyData.shownAll ds)
  rw [h5] at t
  have e1 : B * ds.length ≤ B * m := Nat.mul_le_mul_left B l
  rw [Nat.add_mul]
  omega
theorem Sh.str {z : Str} (h : RowS z) : Sh 82 0 (.str z) := by
  refine ⟨rfl, rfl, Nat.le_refl _, ?_⟩
  have h2 := StrLaws.reprText_len z (fun c hc => by
    have := h.2.2 c hc
    omega)
  have h3 := h.2.1
  show (reprText z).length ≤ 82
  omega
theorem Sh.ver {v : List Str} (h : Rows v) (l : v.length ≤ 24) : Sh 2019 1 (verD v) := Sh.tup (B := 82) (m := 24) (fun d hd => by
  obtain ⟨z, hz, rfl⟩ := List.mem_map.mp hd
  exact Sh.str (h z hz)) (by rw [List.length_map]; exact l)
theorem Sh.nat {n : Nat} (h : n ≤ 60) : Sh 2 0 (.int n) := by
  have go : ∀ n : Fin 61, (PyData.int ((n : Nat) : Int)).showable = true ∧ (PyData.int ((n : Nat) : Int)).shown.length ≤ 2 := by decide +kernel
  obtain ⟨h1, h2⟩ := go ⟨n, by omega⟩
  exact ⟨h1, rfl, Nat.le_refl _, h2⟩
theorem Sh.none : Sh 4 0 .none := ⟨rfl, rfl, Nat.le_refl _, by decide +kernel⟩
theorem Sh.bool (b : Bool) : Sh 5 0 (.bool b) := ⟨rfl, rfl, Nat.le_refl _, by cases b <;> decide +kernel⟩
end Z
namespace Z
open PySem PySem.Spec PyProof.Rows L2 Gd Q
/-! ### comprehensions that use the hand -/
inductive Picked (P : D → D → Prop) : List D → List D → Prop
  | nil : Picked P [] []
  | skip {d : D} {ds xs : List D} : Picked P ds xs → Picked P (d :: ds) xs
  | keep {d x : D} {ds xs : List D} : P d x → Picked P ds xs → Picked P (d :: ds) (x :: xs)
theorem Picked.mem {P : D → D → Prop} {ds xs : List D} (h : Picked P ds xs) : ∀ x ∈ xs, ∃ d ∈ ds, P d x := by
  induction h with
  | nil => exact fun x hx => nomatch hx
  | skip _ ih => exact fun x hx => (ih x hx).imp fun d h => ⟨List.mem_cons_of_mem _ h.1, h.2⟩
  | keep p _ ih =>
    intro x hx
    rcases List.mem_cons.mp hx with rfl | hx
    · exact ⟨_, List.mem_cons_self, p⟩
    · exact (ih x hx).imp fun d h => ⟨List.mem_cons_of_mem _ h.1, h.2⟩
theorem Picked.len {P : D → D → Prop} {ds xs : List D} (h : Picked P ds xs) : xs.length ≤ ds.length := by
  induction h with
  | nil => exact Nat.le_refl _
  | skip _ ih => exact Nat.le_succ_of_le ih
  | keep _ _ ih => exact Nat.succ_le_succ ih
theorem Picked.sub {ds xs : List D} (h : Picked (fun d x => x = d) ds xs) : xs.Sublist ds := by
  induction h with
  | nil => exact .slnil
  | skip _ ih => exact ih.cons _
  | keep p _ ih => rw [p]; exact ih.cons₂ _
end Z
namespace Z
open PySem PySem.Spec PyProof.Rows L2 Gd Q
theorem eq_strs (a b : Str) : eqF (.str a) (.str b) = some (.bool (a == b)) := by
  unfold eqF eqD
  split
  · rfl
  · rfl
end Z
namespace Z
open PySem PySem.Spec PyProof.Rows L2 Gd Q
def nowS : Str := "nowhere"
theorem supp_le {hs : List (List Str)} {last w : List Str} {z : Str} {j : Nat} (h : supp hs last w z = some j) : j < hs.length := by
  unfold supp at h
  obtain ⟨q, _⟩ := List.findIdx?_eq_some_iff_getElem.mp h
  exact q
theorem Sh.natD {hs : List (List Str)} {last w : List Str} {z : Str} (l : hs.length ≤ 50) : Sh 4 0 (natD (supp hs last w z)) := by
  cases h : supp hs last w z with
  | none => exact Sh.none
  | some j =>
    have := supp_le h
    have s := Sh.nat (n := j) (by omega)
    exact ⟨s.s, s.n, s.k, Nat.le_trans s.l (by decide)⟩
end Z
namespace Z
open PySem PySem.Spec PyProof.Rows L2 Gd Q
/-! ### unions -/
theorem strs_map : ∀ ns : List Str, strsD (ns.map PyData.str) = some ns
  | [] => rfl
  | n :: ns => by
    show (strsD (ns.map PyData.str)).map (n :: ·) = _
    rw [strs_map ns]
    rfl
theorem mem_add (l : List Str) (x z : Str) : z ∈ SetS.add l x ↔ z ∈ l ∨ z = x := by
  unfold SetS.add
  split
  · next c => exact ⟨.inl, fun h => h.elim id fun e => e ▸ List.contains_iff_mem.mp c⟩
  · rw [List.mem_cons]
    exact Or.comm
theorem mem_addAll : ∀ (xs l : List Str) (z : Str), z ∈ addAll l xs ↔ z ∈ l ∨ z ∈ xs
  | [], l, z => by simp [addAll]
  | x :: xs, l, z => by
    show z ∈ addAll (SetS.add l x) xs ↔ _
    rw [mem_addAll xs, mem_add, List.mem_cons, or_assoc]
theorem nodup_add {l : List Str} (h : l.Nodup) (x : Str) : (SetS.add l x).Nodup := by
  unfold SetS.add
  split
  · exact h
  · next c => exact List.nodup_cons.mpr ⟨fun z => c (List.contains_iff_mem.mpr z), h⟩
theorem nodup_addAll : ∀ (xs l : List Str), l.Nodup → (addAll l xs).Nodup
  | [], _, h => h
  | x :: xs, l, h => nodup_addAll xs _ (nodup_add h x)
/-- a union of texts that are, as a set, the list S -/
theorem addAll_perm {xs S : List Str} (nd : S.Nodup) (h : ∀ z, z ∈ xs ↔ z ∈ S) : (addAll [] xs).Perm S :=
  (List.perm_ext_iff_of_nodup (nodup_addAll xs [] List.nodup_nil) nd).mpr fun z => by
    rw [mem_addAll, h]
    simp
theorem srt_same {a b : List Str} (h : a.Perm b) : srt a = srt b := srt_eq ((srt_perm a).trans h) (srt_pw a)
theorem union_comp {L : D} : ∀ (xs : List (List Str)), comp2D (gN 1) (iSeq (eVar 1)) (gN 2) (eVar 2) [1, 2] [2] (xs.map verD) [.dat L, .no, .no] = .ok (xs.flatten.map PyData.str) [.dat L, .no, .no]
  | [] => rfl
  | v :: xs => by
    have c : compD (gN 2) bYes (eVar 2) [2] (v.map PyData.str) [.dat L, .dat (verD v), .no] = .ok (v.map PyData.str) [.dat L, .dat (verD v), .no] := by
      have := comp_pure (i := 2) (t := bYes) (e := eVar 2) (ρ := [.dat L, .dat (verD v), .no]) (p := fun _ => true) (f := id) (by show 2 < 3; decide) (v.map PyData.str) (fun _ _ => rfl) fun _ _ _ => rfl
      rw [List.filter_eq_self.mpr fun _ _ => rfl, List.map_id] at this
      exact this
    have ih := union_comp (L := L) xs
    rw [List.map_cons]
    unfold comp2D
    show ((Rt.ok (v.map PyData.str) [.dat L, .dat (verD v), .no] : Rt (List D)).bnd fun ds2 ρ2 => (compD (gN 2) bYes (eVar 2) [2] ds2 (wipeE ρ2 [2])).bnd fun ys ρ3 => (comp2D (gN 1) (iSeq (eVar 1)) (gN 2) (eVar 2) [1, 2] [2] (xs.map verD) (wipeE ρ3 [1, 2])).bnd fun zs ρ4 => .ok (ys ++ zs) ρ4) = _
    show ((compD (gN 2) bYes (eVar 2) [2] (v.map PyData.str) [.dat L, .dat (verD v), .no]).bnd fun ys ρ3 => (comp2D (gN 1) (iSeq (eVar 1)) (gN 2) (eVar 2) [1, 2] [2] (xs.map verD) (wipeE ρ3 [1, 2])).bnd fun zs ρ4 => .ok (ys ++ zs) ρ4) = _
    rw [c]
    show ((comp2D (gN 1) (iSeq (eVar 1)) (gN 2) (eVar 2) [1, 2] [2] (xs.map verD) [.dat L, .no, .no]).bnd fun zs ρ4 => .ok (v.map PyData.str ++ zs) ρ4) = _
    rw [ih]
    show Rt.ok (v.map PyData.str ++ xs.flatten.map PyData.str) _ = _
    rw [List.flatten_cons, List.map_append]
theorem union_spec {xs : List (List Str)} {S : List Str} (nd : S.Nodup) (h : ∀ z, z ∈ xs.flatten ↔ z ∈ S) (lx : xs.flatten.length ≤ 4000) (ls : S.length < 64) :
    F_union_of [.dat (.list (xs.map verD))] = .ok (.dat (verD (srt S))) [.dat (.list (xs.map verD))] := by
  have pm := addAll_perm nd h
  have fc : fSc2 (iSeq (eVar 0)) (gN 1) (iSeq (eVar 1)) (gN 2) (eVar 2) [1, 2] [2] [.dat (.list (xs.map verD)), .no, .no] = .ok (.lst ((srt S).map PyData.str)) [.dat (.list (xs.map verD)), .no, .no] := by
    unfold fSc2
    show (comp2D (gN 1) (iSeq (eVar 1)) (gN 2) (eVar 2) [1, 2] [2] (xs.map verD) [.dat (.list (xs.map verD)), .no, .no]).bnd (fun ys ρ2 => setOut [.dat (.list (xs.map verD)), .no, .no] [1, 2] ys ρ2) = _
    rw [union_comp]
    show setOut [.dat (.list (xs.map verD)), .no, .no] [1, 2] (xs.flatten.map PyData.str) [.dat (.list (xs.map verD)), .no, .no] = _
    unfold setOut
    rw [strs_map]
    dsimp only
    rw [if_pos ⟨lx, by rw [pm.length_eq]; exact ls⟩, srt_same pm]
    rfl
  have sh := lock_eq fc
  generalize xs.map verD = L at *
  refine fn_run (n := 1) (N := 3) (b := b_union_of) (ρ := [.dat (.list L), .no, .no]) rfl ?_ (fin_rt rfl)
  show b_union_of [.dat (.list L), .no, .no] = Rt.ok (Out.rt (.d (.tuple ((srt S).map PyData.str)))) _
  unfold b_union_of
  generalize fSc2 (iSeq (eVar 0)) (gN 1) (iSeq (eVar 1)) (gN 2) (eVar 2) [1, 2] [2] = FC at sh ⊢
  generalize (srt S).map PyData.str = T at sh ⊢
  refine seq_one ?_ (fun z => nomatch z)
  simp only [bRet, eN, eCons, eNil]
  rw [sh]
  rfl
end Z
namespace Z
open PySem PySem.Spec PyProof.Rows L2 Gd Q
/-! ### tokens -/
theorem len_verD (v : List Str) : lenD [verD v] = some (.int (v.length : Nat)) := by
  show some (PyData.int ((v.map PyData.str).length : Nat)) = _
  rw [List.length_map]
def tokD (os : List (List Str)) (S : List Str) : D := .tuple (os.map fun o => .int (lim o o S : Nat))
theorem lim_congr {o l S S' : List Str} (h : ∀ z, z ∈ S ↔ z ∈ S') : lim o l S = lim o l S' := by
  unfold lim
  congr 2
  funext z
  congr 2
  rw [Bool.eq_iff_iff, List.contains_iff_mem, List.contains_iff_mem]
  exact h z
theorem tok_congr {os : List (List Str)} {S S' : List Str} (h : ∀ z, z ∈ S ↔ z ∈ S') : tokD os S = tokD os S' := by
  unfold tokD
  congr 1
  exact List.map_congr_left fun o _ => by rw [lim_congr h]
theorem enc_spec {os : List (List Str)} {S : List Str} (ho : ∀ o ∈ os, Rows o) (hS : Rows S) (ll : os.length ≤ 1000) :
    F_encode_state [.dat (histD os), .dat (verD S)] = .ok (.dat (tokD os S)) [.dat (histD os), .dat (verD S)] := by
  have c := fcomp_map (i := 2) (it := iSeq (eVar 0)) (e := eCall F_prefix_length (eCons (eVar 2) (eCons (eVar 2) (eCons (eVar 1) eNil)))) (ρ := [.dat (histD os), .dat (verD S), .no]) (ds := os.map verD)
    (fun d => match d with
      | .tuple ds => .int (lim (ds.map strOf) (ds.map strOf) S : Nat)
      | d => d) (by simp) rfl (by simp [histD]) (by rw [List.length_map]; exact ll) (fun d hd => by
      obtain ⟨v, hv, rfl⟩ := List.mem_map.mp hd
      have e := prefix_length_spec (v := v) (live := v) (w := S) (ho v hv) (ho v hv) hS
      have es : (v.map PyData.str).map strOf = v := by
        rw [List.map_map]
        exact List.map_id v
      simp [histD, e]
      simp [verD, es])
  have em : (os.map verD).map (fun d => match d with
      | .tuple ds => PyData.int (lim (ds.map strOf) (ds.map strOf) S : Nat)
      | d => d) = os.map fun o => PyData.int (lim o o S : Nat) := by
    rw [List.map_map]
    refine List.map_congr_left fun v hv => ?_
    have es : (v.map PyData.str).map strOf = v := by
      rw [List.map_map]
      exact List.map_id v
    show PyData.int (lim ((v.map PyData.str).map strOf) ((v.map PyData.str).map strOf) S : Nat) = _
    rw [es]
  rw [em] at c
  refine fn_run (n := 2) (N := 3) (b := b_encode_state) (ρ := [.dat (histD os), .dat (verD S), .no]) rfl ?_ (fin_rt rfl)
  refine seq_one ?_ (fun z => nomatch z)
  simp only [bRet, eN, eCons, eNil, eLock]
  rw [show ([Sl.dat (histD os), .dat (verD S)] ++ List.replicate (3 - 2) Sl.no) = [.dat (histD os), .dat (verD S), .no] from rfl, c]
  rfl
/-- a comprehension over pairs, in slots 2 and 3 -/
theorem comp_pair {A B : Sl} {e : Mo R} (f : D → D → D) : ∀ ps : List (D × D), (∀ p ∈ ps, e [A, B, .dat p.1, .dat p.2] = .ok (.d (f p.1 p.2)) [A, B, .dat p.1, .dat p.2]) →
    compD (g2 2 3) bYes e [2, 3] (ps.map fun p => Q.pairD p.1 p.2) [A, B, .no, .no] = .ok (ps.map fun p => f p.1 p.2) [A, B, .no, .no]
  | [], _ => rfl
  | p :: ps, h => by
    have ih := comp_pair (A := A) (B := B) (e := e) f ps fun q hq => h q (List.mem_cons_of_mem _ hq)
    have h1 := h p List.mem_cons_self
    rw [List.map_cons]
    unfold compD
    show (e [A, B, .dat p.1, .dat p.2]).bnd (fun r ρ3 => match r with
      | .d x => (compD (g2 2 3) bYes e [2, 3] (ps.map fun p => Q.pairD p.1 p.2) (wipeE ρ3 [2, 3])).bnd fun xs ρ4 => Rt.ok (x :: xs) ρ4
      | .v _ => .no) = _
    rw [h1]
    show (compD (g2 2 3) bYes e [2, 3] (ps.map fun p => Q.pairD p.1 p.2) [A, B, .no, .no]).bnd (fun xs ρ4 => Rt.ok (f p.1 p.2 :: xs) ρ4) = _
    rw [ih]
    rfl
def ordP (os : List (List Str)) (S : List Str) : List (D × D) := os.map fun o => (verD o, .int (lim o o S : Nat))
theorem within_nat {n m : Nat} (h : n ≤ m) : F_is_integer_within [.dat (.int n), .dat (.int 0), .dat (.int m)] = .ok (.dat (.bool true)) [.dat (.int n), .dat (.int 0), .dat (.int m)] := by
  have e1 : isiD "bool" (.int (n : Nat)) = some (.bool false) := rfl
  have e2 : isiD "int" (.int (n : Nat)) = some (.bool true) := rfl
  have e3 : leD (.int 0) (.int (n : Nat)) = some (.bool true) := congrArg (fun b => some (PyData.bool b)) (decide_eq_true (by omega))
  have e4 : leD (.int (n : Nat)) (.int (m : Nat)) = some (.bool true) := congrArg (fun b => some (PyData.bool b)) (decide_eq_true (by omega))
  simp [F_is_integer_within, b_is_integer_within, bSeq, bNil, e1, e2, e3, e4, eChain, chainK]
theorem all_true : ∀ n : Nat, allD [.list (List.replicate n (.bool true))] = some (.bool true) := fun n => by
  have h : boolsD (List.replicate n (.bool true)) = some (List.replicate n true) := by
    have := bools_of (List.replicate n true)
    rw [List.map_replicate] at this
    exact this
  show Option.map (fun bs : List Bool => PyData.bool (bs.all id)) (boolsD (List.replicate n (.bool true))) = _
  rw [h]
  show some (PyData.bool ((List.replicate n true).all id)) = _
  rw [show (List.replicate n true).all id = true from List.all_eq_true.mpr fun x hx => (List.mem_replicate.mp hx).2]
end Z
namespace Z
open PySem PySem.Spec PyProof.Rows L2 Gd Q
theorem fnX_run {n N : Nat} {b : Mo Out} {as : List Sl} {o : Out} {ρ : Ev} {r : Rt Sl} (h : as.length = n) (hb : b (as ++ List.replicate (N - n) .no) = .ok o ρ) (hf : fin n ρ o = r) : fnX n N b as = r := by
  unfold fnX
  rw [if_pos h, hb]
  exact hf
theorem fnX_ex {n N : Nat} {b : Mo Out} {as : List Sl} {c : Str} {d : D} {ρ : Ev} (h : as.length = n) (hb : b (as ++ List.replicate (N - n) .no) = .ex c d ρ) : fnX n N b as = .ex c d ρ := by
  unfold fnX
  rw [if_pos h, hb]
  rfl
theorem seq_ex {f g : Mo Out} {ρ ρ1 : Ev} {c : Str} {d : D} (h : f ρ = .ex c d ρ1) : bSeq f g ρ = .ex c d ρ1 := by
  unfold bSeq
  rw [h]
  rfl
theorem rows_app {a b : List Str} (ha : Rows a) (hb : Rows b) : Rows (a ++ b) := fun z hz => (List.mem_append.mp hz).elim (ha z) (hb z)
theorem flat_len24 : ∀ xs : List (List Str), (∀ p ∈ xs, p.length ≤ 24) → xs.flatten.length ≤ 24 * xs.length
  | [], _ => Nat.le_refl _
  | x :: xs, h => by
    have a := h x List.mem_cons_self
    have b := flat_len24 xs fun p hp => h p (List.mem_cons_of_mem _ hp)
    rw [List.flatten_cons, List.length_append, List.length_cons]
    omega
def cutP : D → D → D
  | .tuple ds, .int i => .tuple (ds.take i.toNat)
  | _, _ => .none
structure Ords (os : List (List Str)) : Prop where
  rows : ∀ o ∈ os, Rows o
  len : ∀ o ∈ os, o.length ≤ 24
  few : os.length ≤ 100
theorem rows_srt {S : List Str} (h : Rows S) : Rows (srt S) := fun z hz => h z (srt_mem.mp hz)
theorem all_bools {bs : List Bool} : allD [.list (bs.map PyData.bool)] = some (.bool (bs.all id)) := by
  show Option.map (fun bs : List Bool => PyData.bool (bs.all id)) (boolsD (bs.map PyData.bool)) = _
  rw [bools_of]
  rfl
def fitB (o S : List Str) : D → Bool
  | .int i => (o.take i.toNat).all S.contains
  | _ => false
def goneD (s : List Str) : List (D × D) := s.map fun z => (.str z, .bool true)
end Z
namespace Z
open PySem PySem.Spec PyProof.Rows L2 Gd Q
/-! ### tokens of any lengths -/
def tokL (ls : List Nat) : D := .tuple (ls.map fun n => .int (n : Nat))
structure Fit (os : List (List Str)) (ls : List Nat) : Prop where
  len : ls.length = os.length
  le : ∀ p ∈ os.zip ls, p.2 ≤ p.1.length
def cutsL (os : List (List Str)) (ls : List Nat) : List (List Str) := (os.zip ls).map fun p => p.1.take p.2
def uni (os : List (List Str)) (ls : List Nat) : List Str := addAll [] (cutsL os ls).flatten
def limL (os : List (List Str)) (S : List Str) : List Nat := os.map fun o => lim o o S
def prs (os : List (List Str)) (ls : List Nat) : List (D × D) := (os.zip ls).map fun p => (verD p.1, .int (p.2 : Nat))
theorem zip_prs : ∀ (os : List (List Str)) (ls : List Nat), zipD (os.map verD) (ls.map fun n => .int (n : Nat)) = (prs os ls).map fun p => Q.pairD p.1 p.2
  | [], _ => rfl
  | _ :: _, [] => rfl
  | o :: os, n :: ls => by
    have ih := zip_prs os ls
    show Q.pairD (verD o) (.int (n : Nat)) :: zipD (os.map verD) (ls.map fun n => .int (n : Nat)) = _
    rw [ih]
    rfl
theorem pair_compL {os : List (List Str)} {ls : List Nat} {e : Mo R} (f : D → D → D) (ll : os.length ≤ 1000) (h : ∀ p ∈ os.zip ls, e [.dat (histD os), .dat (tokL ls), .dat (verD p.1), .dat (.int (p.2 : Nat))] = .ok (.d (f (verD p.1) (.int (p.2 : Nat)))) [.dat (histD os), .dat (tokL ls), .dat (verD p.1), .dat (.int (p.2 : Nat))]) :
    fComp (iMap zipF (eCons (eVar 0) (eCons (eVar 1) eNil))) (g2 2 3) bYes e [2, 3] [.dat (histD os), .dat (tokL ls), .no, .no] = .ok (.lst ((os.zip ls).map fun p => f (verD p.1) (.int (p.2 : Nat)))) [.dat (histD os), .dat (tokL ls), .no, .no] := by
  have c := comp_pair (A := .dat (histD os)) (B := .dat (tokL ls)) (e := e) f (prs os ls) fun p hp => by
    obtain ⟨q, hq, rfl⟩ := List.mem_map.mp hp
    exact h q hq
  have em : (prs os ls).map (fun p => f p.1 p.2) = (os.zip ls).map fun p => f (verD p.1) (.int (p.2 : Nat)) := by
    unfold prs
    rw [List.map_map]
    rfl
  rw [em] at c
  refine comp_eq (ρ1 := [.dat (histD os), .dat (tokL ls), .no, .no]) (ρ2 := [.dat (histD os), .dat (tokL ls), .no, .no]) (ds := (prs os ls).map fun p => Q.pairD p.1 p.2) ?_ (by
    rw [List.length_map]
    unfold prs
    rw [List.length_map, List.length_zip]
    exact sz1000 (Nat.le_trans (Nat.min_le_left _ _) ll)) rfl c ?_
  · rw [← zip_prs]
    rfl
  · rfl
theorem istokL_spec {os : List (List Str)} {ls : List Nat} (hf : Fit os ls) (ll : os.length ≤ 1000) : F_is_token [.dat (histD os), .dat (tokL ls)] = .ok (.dat (.bool true)) [.dat (histD os), .dat (tokL ls)] := by
  have c := pair_compL (os := os) (ls := ls) (e := eCall F_is_integer_within (eCons (eVar 3) (eCons (eC (.int 0)) (eCons (eN lenD (eCons (eVar 2) eNil)) eNil)))) (fun _ _ => .bool true) ll fun p h => by
    have a1 := len_verD p.1
    have a2 := within_nat (hf.le p h)
    generalize histD os = A
    generalize tokL ls = B
    generalize verD p.1 = C at a1 ⊢
    generalize p.2 = m at a2 ⊢
    simp [-Q.lenD, a1, a2]
  have l1 : lenD [tokL ls] = some (.int (os.length : Nat)) := by
    show some (PyData.int ((ls.map fun n => PyData.int (n : Nat)).length : Nat)) = _
    rw [List.length_map, hf.len]
  have l2 : lenD [histD os] = some (.int (os.length : Nat)) := by
    show some (PyData.int ((os.map verD).length : Nat)) = _
    rw [List.length_map]
  have ne : neF (.int (os.length : Nat)) (.int (os.length : Nat)) = some (.bool false) := by
    have z : ∀ a : Int, neF (.int a) (.int a) = some (.bool (!(a == a))) := fun a => rfl
    rw [z, beq_self_eq_true]
    rfl
  have it : isiD "tuple" (tokL ls) = some (.bool true) := rfl
  have ae := all_true (os.zip ls).length
  rw [List.map_const'] at c
  have sh := lock_eq c
  generalize List.replicate (os.zip ls).length (PyData.bool true) = T at sh ae
  have b1 : (bIf (bOr (bNot (asB (e1 (isiD "tuple") (eVar 1)))) (asB (e2 neF (eN lenD (eCons (eVar 1) eNil)) (eN lenD (eCons (eVar 0) eNil))))) (bSeq (bRet (eC (.bool false))) bNil) bNil) [.dat (histD os), .dat (tokL ls), .no, .no] = .ok .nx [.dat (histD os), .dat (tokL ls), .no, .no] := by
    generalize histD os = A at *
    generalize tokL ls = B at *
    exact if_f (by simp [-Q.lenD, it, l1, l2, ne]) rfl
  refine fn_run (n := 2) (N := 4) (b := b_is_token) (ρ := [.dat (histD os), .dat (tokL ls), .no, .no]) rfl ?_ (fin_rt rfl)
  generalize histD os = A at *
  generalize tokL ls = B at *
  refine seq_nx b1 (seq_one ?_ (fun z => nomatch z))
  simp only [bRet, eN, eCons, eNil]
  rw [sh]
  show (lift (allD [.list T]) [.dat A, .dat B, .no, .no]).bind (fun r ρ => Rt.ok (Out.rt r) ρ) = _
  rw [ae]
  rfl
theorem mem_cutsL {os : List (List Str)} {ls : List Nat} {z : Str} : z ∈ (cutsL os ls).flatten ↔ ∃ p ∈ os.zip ls, z ∈ p.1.take p.2 := by
  unfold cutsL
  rw [List.mem_flatten]
  constructor
  · rintro ⟨l, hl, hz⟩
    obtain ⟨o, ho, rfl⟩ := List.mem_map.mp hl
    exact ⟨o, ho, hz⟩
  · rintro ⟨o, ho, hz⟩
    exact ⟨_, List.mem_map.mpr ⟨o, ho, rfl⟩, hz⟩
theorem mem_uni {os : List (List Str)} {ls : List Nat} {z : Str} : z ∈ uni os ls ↔ ∃ p ∈ os.zip ls, z ∈ p.1.take p.2 := by
  unfold uni
  rw [mem_addAll, mem_cutsL]
  simp
theorem uni_nodup (os : List (List Str)) (ls : List Nat) : (uni os ls).Nodup := nodup_addAll _ _ List.nodup_nil
/-- the orders' rows are few -/
structure Few (os : List (List Str)) (names : List Str) : Prop where
  rows : ∀ o ∈ os, Rows o
  nd : ∀ o ∈ os, o.Nodup
  sub : ∀ o ∈ os, ∀ z ∈ o, z ∈ names
  few : names.length ≤ 24
  len : os.length ≤ 100
theorem Few.olen {os : List (List Str)} {names : List Str} (F : Few os names) {o : List Str} (h : o ∈ os) : o.length ≤ 24 := Nat.le_trans (nodup_sub_len (F.nd o h) (F.sub o h)) F.few
theorem zip_fst {os : List (List Str)} {ls : List Nat} {p : List Str × Nat} (h : p ∈ os.zip ls) : p.1 ∈ os := (List.of_mem_zip (show (p.1, p.2) ∈ os.zip ls from h)).1
theorem uni_in {os : List (List Str)} {names : List Str} (F : Few os names) {ls : List Nat} : ∀ z ∈ uni os ls, z ∈ names := fun z hz => by
  obtain ⟨p, hp, h⟩ := mem_uni.mp hz
  exact F.sub _ (zip_fst hp) z (List.mem_of_mem_take h)
theorem uni_rows {os : List (List Str)} {names : List Str} (F : Few os names) {ls : List Nat} : Rows (uni os ls) := fun z hz => by
  obtain ⟨p, hp, h⟩ := mem_uni.mp hz
  exact F.rows _ (zip_fst hp) z (List.mem_of_mem_take h)
theorem few64 {S names : List Str} (nd : S.Nodup) (h : ∀ z ∈ S, z ∈ names) (ln : names.length ≤ 24) : S.length ≤ 24 := Nat.le_trans (nodup_sub_len nd h) ln
theorem decodeL_spec {os : List (List Str)} {names : List Str} {ls : List Nat} (F : Few os names) (hf : Fit os ls) : F_decode_token [.dat (histD os), .dat (tokL ls)] = .ok (.dat (verD (srt (uni os ls)))) [.dat (histD os), .dat (tokL ls)] := by
  have g1 := istokL_spec hf (Nat.le_trans F.len (by decide))
  have c := pair_compL (os := os) (ls := ls) (e := eSl (eVar 2) pNo (pSo (eVar 3))) cutP (Nat.le_trans F.len (by decide)) fun p h => by
    have a1 : cutD (verD p.1) none (some (p.2 : Nat)) = some (.tuple ((p.1.map PyData.str).take p.2)) := by
      show some (PyData.tuple (cutL (p.1.map PyData.str) none (some ((p.2 : Nat) : Int)))) = _
      rw [cutL_to]
    show _ = Rt.ok (R.d (.tuple ((p.1.map PyData.str).take p.2))) _
    generalize histD os = A
    generalize tokL ls = B
    generalize verD p.1 = C at a1 ⊢
    generalize (p.1.map PyData.str).take p.2 = T at a1 ⊢
    generalize p.2 = m at a1 ⊢
    simp [-Q.cutD, a1]
  have ec : ((os.zip ls).map fun p => cutP (verD p.1) (.int (p.2 : Nat))) = (cutsL os ls).map verD := by
    unfold cutsL
    rw [List.map_map]
    refine List.map_congr_left fun p _ => ?_
    show PyData.tuple ((p.1.map PyData.str).take p.2) = PyData.tuple ((p.1.take p.2).map PyData.str)
    rw [List.map_take]
  rw [ec] at c
  have lx : (cutsL os ls).flatten.length ≤ 4000 := by
    have := flat_len24 (cutsL os ls) fun p hp => by
      obtain ⟨q, hq, rfl⟩ := List.mem_map.mp hp
      rw [List.length_take]
      have := F.olen (zip_fst hq)
      omega
    have l2 : (cutsL os ls).length ≤ os.length := by
      unfold cutsL
      rw [List.length_map, List.length_zip]
      exact Nat.min_le_left _ _
    have := F.len
    omega
  have u := union_spec (uni_nodup os ls) (fun z => by rw [mem_cutsL, mem_uni]) lx (by have := few64 (uni_nodup os ls) (uni_in F) F.few; omega)
  have sh := lock_eq c
  refine fnX_run (n := 2) (N := 4) (b := b_decode_token) (o := .rt (.d (verD (srt (uni os ls))))) (ρ := [.dat (histD os), .dat (tokL ls), .no, .no]) rfl ?_ (fin_rt rfl)
  generalize verD (srt (uni os ls)) = T at *
  have b1 : (bIf (bNot (asB (eCall F_is_token (eCons (eVar 0) (eCons (eVar 1) eNil))))) (bSeq (bRaise "BadToken" "token" (eCons (eVar 1) eNil)) bNil) bNil) [.dat (histD os), .dat (tokL ls), .no, .no] = .ok .nx [.dat (histD os), .dat (tokL ls), .no, .no] := by
    generalize histD os = A at *
    generalize tokL ls = B at *
    exact if_f (by simp [g1]) rfl
  refine seq_nx b1 (seq_one ?_ (fun z => nomatch z))
  generalize histD os = A at *
  generalize tokL ls = B at *
  simp only [Ob.d] at sh
  generalize (cutsL os ls).map verD = L at *
  generalize eLock (fComp (iMap zipF (eCons (eVar 0) (eCons (eVar 1) eNil))) (g2 2 3) bYes (eSl (eVar 2) pNo (pSo (eVar 3))) [2, 3]) = M at sh ⊢
  simp [sh, u]
theorem merge_spec {os : List (List Str)} {names : List Str} {a b : List Nat} (F : Few os names) (ha : Fit os a) (hb : Fit os b) : F_merge_tokens [.dat (histD os), .dat (tokL a), .dat (tokL b)] = .ok (.dat (tokD os (uni os a ++ uni os b))) [.dat (histD os), .dat (tokL a), .dat (tokL b)] := by
  have g1 := decodeL_spec F ha
  have g2 := decodeL_spec F hb
  have la := few64 (uni_nodup os a) (uni_in F) F.few
  have lb := few64 (uni_nodup os b) (uni_in F) F.few
  have ndS : (addAll [] (uni os a ++ uni os b)).Nodup := nodup_addAll _ _ List.nodup_nil
  have mS : ∀ z, z ∈ addAll [] (uni os a ++ uni os b) ↔ z ∈ uni os a ++ uni os b := fun z => by rw [mem_addAll]; simp
  have g3 := union_spec (xs := [srt (uni os a), srt (uni os b)]) ndS (fun z => by rw [mS]; simp [srt_mem]) (by
    show ((srt (uni os a)) ++ ((srt (uni os b)) ++ [])).length ≤ 4000
    rw [List.append_nil, List.length_append, srt_len, srt_len]
    omega) (by
    have := few64 ndS (fun z hz => (List.mem_append.mp ((mS z).mp hz)).elim (uni_in F z) (uni_in F z)) F.few
    omega)
  have g3 : F_union_of [.dat (.list [verD (srt (uni os a)), verD (srt (uni os b))])] = .ok (.dat (verD (srt (addAll [] (uni os a ++ uni os b))))) [.dat (.list [verD (srt (uni os a)), verD (srt (uni os b))])] := g3
  have g4 := enc_spec (os := os) (S := srt (addAll [] (uni os a ++ uni os b))) F.rows (fun z hz => rows_app (uni_rows F) (uni_rows F) z ((mS z).mp (srt_mem.mp hz))) (Nat.le_trans F.len (by decide))
  rw [tok_congr (S' := uni os a ++ uni os b) fun z => by rw [srt_mem, mS]] at g4
  refine fnX_run (n := 3) (N := 4) (b := b_merge_tokens) (o := .rt (.d (tokD os (uni os a ++ uni os b)))) (ρ := [.dat (histD os), .dat (tokL a), .dat (tokL b), .dat (verD (srt (uni os a)))]) rfl ?_ (fin_rt rfl)
  generalize tokD os (uni os a ++ uni os b) = T2 at *
  generalize verD (srt (addAll [] (uni os a ++ uni os b))) = U at *
  generalize verD (srt (uni os a)) = UA at *
  generalize verD (srt (uni os b)) = UB at *
  generalize tokL a = A at *
  generalize tokL b = B at *
  generalize histD os = O at *
  have s2 := short_ok (ds := [UA, UB]) (by show 2 ≤ 1000; decide)
  refine seq_nx (ρ1 := [.dat O, .dat A, .dat B, .dat UA]) (by simp [g1]) ?_
  exact seq_one (by simp [g2, g3, g4, s2]) (fun z => nomatch z)
theorem norm_spec {os : List (List Str)} {names : List Str} {a : List Nat} (F : Few os names) (ha : Fit os a) : F_normalize_token [.dat (histD os), .dat (tokL a)] = .ok (.dat (tokD os (uni os a))) [.dat (histD os), .dat (tokL a)] := by
  have g1 := decodeL_spec F ha
  have g4 := enc_spec (os := os) (S := srt (uni os a)) F.rows (rows_srt (uni_rows F)) (Nat.le_trans F.len (by decide))
  rw [tok_congr (S' := uni os a) fun z => by rw [srt_mem]] at g4
  refine fnX_run (n := 2) (N := 2) (b := b_normalize_token) (o := .rt (.d (tokD os (uni os a)))) (ρ := [.dat (histD os), .dat (tokL a)]) rfl ?_ (fin_rt rfl)
  generalize tokD os (uni os a) = T2 at *
  generalize verD (srt (uni os a)) = UA at *
  generalize tokL a = A at *
  generalize histD os = O at *
  exact seq_one (by simp [g1, g4]) (fun z => nomatch z)
end Z
namespace Z
open PySem PySem.Spec PyProof.Rows L2 Gd Q
def pg (sent p : List Str) : List Str := p.filter fun z => !sent.contains z
theorem pg_le (s p : List Str) : (pg s p).length ≤ p.length := List.length_filter_le _ _
theorem pg_rows {s p : List Str} (h : Rows p) : Rows (pg s p) := fun z hz => h z (List.mem_filter.mp hz).1
theorem filter_ninD {w : List Str} (v : List Str) : ((v.map PyData.str).filter fun d => !isIn (verD w) (strOf d)).map (fun d => d) = (v.filter fun z => !w.contains z).map PyData.str := by
  rw [List.map_id', List.filter_map]
  congr 1
  refine List.filter_congr fun z _ => ?_
  show (!isIn (verD w) z) = _
  rw [isIn_ver]
theorem page_spec {p sent : List Str} {c : Nat} (hp : Rows p) (hs : Rows sent) (lp : p.length ≤ 1000) : F_page_of [.dat (verD p), .dat (verD sent), .dat (.int c)] = .ok (.dat (verD ((pg sent p).take c))) [.dat (verD p), .dat (verD sent), .dat (.int c)] := by
  have fc := fcomp_pure (i := 4) (it := iSeq (eVar 0)) (t := asB (e2 ninF (eVar 4) (eVar 1))) (e := eVar 4) (ρ := [.dat (verD p), .dat (verD sent), .dat (.int c), .no, .no]) (ds := p.map PyData.str)
    (fun x => !isIn (verD sent) (strOf x)) (fun x => x) (by show 4 < 5; decide) rfl (by simp [verD]) (by rw [List.length_map]; omega) (fun x hx => by
      obtain ⟨z, hz, rfl⟩ := List.mem_map.mp hx
      have h := ninT (hp z hz) hs
      have e : ninF (.str z) (verD sent) = some (.bool (!isIn (verD sent) z)) := by
        rw [isIn_ver]
        exact h
      generalize verD sent = S at e ⊢
      simp [e, strOf]) (fun x hx _ => by simp)
  rw [filter_ninD] at fc
  have ct : cutL ((pg sent p).map PyData.str) none (some (c : Int)) = ((pg sent p).take c).map PyData.str := by
    rw [cutL_to, List.map_take]
  have lx : ((pg sent p).map PyData.str).length ≤ 1000 := by
    rw [List.length_map]
    exact Nat.le_trans (pg_le sent p) lp
  refine fn_run (n := 3) (N := 5) (b := b_page_of) (ρ := [.dat (verD p), .dat (verD sent), .dat (.int c), .dat (.list ((pg sent p).map PyData.str)), .no]) rfl ?_ (fin_rt rfl)
  have fc : fComp (iSeq (eVar 0)) (gN 4) (asB (e2 ninF (eVar 4) (eVar 1))) (eVar 4) [4] [.dat (verD p), .dat (verD sent), .dat (.int c), .no, .no] = .ok (.lst ((pg sent p).map PyData.str)) [.dat (verD p), .dat (verD sent), .dat (.int c), .no, .no] := fc
  show _ = Rt.ok (Out.rt (.d (.tuple (((pg sent p).take c).map PyData.str)))) _
  generalize (pg sent p).map PyData.str = L at *
  generalize ((pg sent p).take c).map PyData.str = L2 at *
  generalize verD p = A at *
  generalize verD sent = B at *
  refine seq_nx (ρ1 := [.dat A, .dat B, .dat (.int c), .dat (.list L), .no]) ?_ (seq_one ?_ (fun z => nomatch z))
  · generalize fComp (iSeq (eVar 0)) (gN 4) (asB (e2 ninF (eVar 4) (eVar 1))) (eVar 4) [4] = FC at fc ⊢
    show bSet 3 (eLock FC) [.dat A, .dat B, .dat (.int c), .no, .no] = _
    simp [fc]
  · simp [ct]
theorem pg_congr {S S' v : List Str} (h : ∀ z, z ∈ S ↔ z ∈ S') : pg S v = pg S' v := by
  unfold pg
  refine List.filter_congr fun z _ => ?_
  congr 1
  rw [Bool.eq_iff_iff, List.contains_iff_mem, List.contains_iff_mem]
  exact h z
noncomputable def ordB : Mo Out := (bSeq (bSet 5 (eLock (fCall F__law_shuffled (eCons (eVar 0) (eCons (eVar 2) eNil))))) (bSeq (bEx (eMut appF 3 (eCons (eN tupleD (eCons (eLock (fSl (eVar 5) pNo (pSo (eCall F__law_take (eCons (eVar 0) (eCons (e2 addD (eN lenD (eCons (eVar 5) eNil)) (eC (.int 1))) eNil)))))) eNil)) eNil))) bNil))
theorem few_more {os : List (List Str)} {names v : List Str} (F : Few os names) (rv : Rows v) (nv : v.Nodup) (sv : ∀ z ∈ v, z ∈ names) (l : os.length + 1 ≤ 100) : Few (os ++ [v]) names :=
  ⟨fun o ho => (List.mem_append.mp ho).elim (F.rows o) fun q => by rw [List.mem_singleton.mp q]; exact rv, fun o ho => (List.mem_append.mp ho).elim (F.nd o) fun q => by rw [List.mem_singleton.mp q]; exact nv,
   fun o ho => (List.mem_append.mp ho).elim (F.sub o) fun q => by rw [List.mem_singleton.mp q]; exact sv, F.few, by rw [List.length_append]; exact l⟩
theorem ord_step {os : List (List Str)} {names : List Str} {h : List D} {n : Nat} {s1 s4 s5 : Sl} (F : Few os names) (rn : Rows names) (nn : names.Nodup) (l : os.length + 1 ≤ 100) (hk : HandOk h n) (hn : n + 100 < 800000) :
    ∃ v h' t5, ordB [.own (.lst h), s1, .dat (.list (names.map PyData.str)), .own (.lst (os.map verD)), s4, s5] = .ok .nx [.own (.lst h'), s1, .dat (.list (names.map PyData.str)), .own (.lst ((os ++ [v]).map verD)), s4, t5] ∧ Few (os ++ [v]) names ∧ HandOk h' (n + 40) := by
  have ln := F.few
  obtain ⟨o, h1, g1, pm, hk1⟩ := shuffled_spec (Its.list (xs := names.map PyData.str)) rn hk (by omega) (by omega)
  have lo : o.length = names.length := pm.length_eq
  obtain ⟨v, h2, g2, v0, v1, hk2⟩ := take_spec hk1 (by omega) (m := ((o.length + 1 : Nat) : Int)) (by omega) (by omega)
  obtain ⟨k, rfl⟩ := Int.eq_ofNat_of_zero_le v0
  refine ⟨o.take k, h2, .dat (.list (o.map PyData.str)), ?_, few_more F (fun z hz => rn z (pm.mem_iff.mp (List.mem_of_mem_take hz))) ((pm.nodup_iff.mpr nn).sublist (List.take_sublist _ _)) (fun z hz => pm.mem_iff.mp (List.mem_of_mem_take hz)) l, hk2.up (by omega)⟩
  have a1 : lenD [.list (o.map PyData.str)] = some (.int (o.length : Nat)) := by
    show some (PyData.int ((o.map PyData.str).length : Nat)) = _
    rw [List.length_map]
  have a2 : addD (.int (o.length : Nat)) (.int 1) = some (.int ((o.length + 1 : Nat) : Int)) := by
    show some (PyData.int ((o.length : Int) + 1)) = _
    rw [Int.natCast_add]
    rfl
  have ct : cutL (o.map PyData.str) none (some ((k : Nat) : Int)) = (o.take k).map PyData.str := by rw [cutL_to, List.map_take]
  have tv : tupleD [.list ((o.take k).map PyData.str)] = some (verD (o.take k)) := rfl
  have ap := app_eq (ds := os.map verD) (x := verD (o.take k)) (by rw [List.length_map]; omega)
  have em : (os ++ [o.take k]).map verD = os.map verD ++ [verD (o.take k)] := by rw [List.map_append]; rfl
  rw [em]
  have g2 : F__law_take [.own (.lst h1), .dat (.int ((o.length + 1 : Nat) : Int))] = .ok (.dat (.int ((k : Nat) : Int))) [.own (.lst h2), .dat (.int ((o.length + 1 : Nat) : Int))] := g2
  generalize ((o.length + 1 : Nat) : Int) = J at *
  generalize ((o.length : Nat) : Int) = J0 at *
  generalize ((k : Nat) : Int) = kk at *
  generalize (o.take k).map PyData.str = T at *
  generalize verD (o.take k) = V at *
  generalize o.map PyData.str = OL at *
  generalize names.map PyData.str = NL at *
  generalize os.map verD = AC at *
  unfold ordB
  refine seq_nx (ρ1 := [.own (.lst h1), s1, .dat (.list NL), .own (.lst AC), s4, .dat (.list OL)]) (by simp [g1]) ?_
  exact seq_nx (by simp [-Q.lenD, -Q.addD, -Q.tupleD, a1, a2, g2, ct, tv, ap]) rfl
theorem if_ff {c : Mo Bool} {f g : Mo Out} {ρ ρ1 : Ev} {r : Rt Out} (h : c ρ = .ok false ρ1) (h' : g ρ1 = r) : bIf c f g ρ = r := by
  unfold bIf
  rw [h]
  exact h'
theorem ord_loop3 {names : List Str} {s1 : Sl} (rn : Rows names) (nn : names.Nodup) : ∀ (ds : List D) (os : List (List Str)) (h : List D) (n : Nat) (s4 s5 : Sl), Few os names → os.length + ds.length ≤ 100 → HandOk h n → n + 100 * (ds.length + 1) < 800000 →
    ∃ os' h' t4 t5, loopD (gN 4) ordB ds [.own (.lst h), s1, .dat (.list (names.map PyData.str)), .own (.lst (os.map verD)), s4, s5] = .ok .nx [.own (.lst h'), s1, .dat (.list (names.map PyData.str)), .own (.lst (os'.map verD)), t4, t5] ∧ Few os' names ∧ HandOk h' (n + 40 * ds.length) ∧ os'.length = os.length + ds.length
  | [], os, h, n, s4, s5, F, _, hk, _ => ⟨os, h, s4, s5, rfl, F, hk, rfl⟩
  | d :: ds, os, h, n, s4, s5, F, l, hk, hn => by
    rw [List.length_cons] at l hn ⊢
    obtain ⟨v, h1, u5, g1, F1, hk1⟩ := ord_step (s1 := s1) (s4 := .dat d) (s5 := s5) F rn nn (by omega) hk (by omega)
    obtain ⟨os', h', t4, t5, g2, F2, hk2, l2⟩ := ord_loop3 (s1 := s1) rn nn ds (os ++ [v]) h1 (n + 40) (.dat d) u5 F1 (by rw [List.length_append, List.length_singleton]; omega) hk1 (by omega)
    exact ⟨os', h', t4, t5, loop_cons rfl g1 g2, F2, hk2.up (by omega), by rw [l2, List.length_append, List.length_singleton]; omega⟩
theorem orders_spec3 {names : List Str} {h : List D} {n : Nat} (rn : Rows names) (nn : names.Nodup) (ln : names.length ≤ 24) (hk : HandOk h n) (hn : n + 2000 < 800000) :
    ∃ os h', F__law_orders [.own (.lst h), .dat (.int 3), .dat (.list (names.map PyData.str))] = .ok (.dat (histD os)) [.own (.lst h'), .dat (.int 3), .dat (.list (names.map PyData.str))] ∧ Few os names ∧ HandOk h' (n + 300) ∧ os.length ≤ 3 := by
  obtain ⟨v, h1, g1, v0, v1, hk1⟩ := take_spec hk (by omega) (m := 4) (by decide) (by decide)
  obtain ⟨k, rfl⟩ := Int.eq_ofNat_of_zero_le v0
  have lk : k < 4 := by omega
  obtain ⟨os, h', t4, t5, g2, F, hk2, los⟩ := ord_loop3 (s1 := .dat (.int 3)) rn nn ((List.range k).map fun i => .int (i : Nat)) [] h1 (n + 1) .no .no ⟨(fun o ho => nomatch ho), (fun o ho => nomatch ho), (fun o ho => nomatch ho), ln, by decide⟩ (by rw [List.length_map, List.length_range, List.length_nil]; omega) hk1 (by rw [List.length_map, List.length_range]; omega)
  rw [List.length_map, List.length_range] at hk2 los
  refine ⟨os, h', fn_run (n := 3) (N := 6) (b := b__law_orders) (ρ := [.own (.lst h'), .dat (.int 3), .dat (.list (names.map PyData.str)), .own (.lst (os.map verD)), t4, t5]) rfl ?_ (fin_rt rfl), F, hk2.up (by omega), by rw [los, List.length_nil]; omega⟩
  have r1 := range1_eq (c := k) (by omega)
  have tv : tupleD [.list (os.map verD)] = some (histD os) := rfl
  have g2 : loopD (gN 4) ordB ((List.range k).map fun i => .int (i : Nat)) [.own (.lst h1), .dat (.int 3), .dat (.list (names.map PyData.str)), .own (.lst []), .no, .no] = .ok .nx [.own (.lst h'), .dat (.int 3), .dat (.list (names.map PyData.str)), .own (.lst (os.map verD)), t4, t5] := g2
  have g1 : F__law_take [.own (.lst h), .dat (.int 4)] = .ok (.dat (.int ((k : Nat) : Int))) [.own (.lst h1), .dat (.int 4)] := g1
  generalize ((k : Nat) : Int) = kk at r1 g1
  generalize histD os = H at *
  generalize os.map verD = OV at *
  generalize names.map PyData.str = NL at *
  have sh0 := short_ok (ds := ([] : List D)) (by decide)
  refine seq_nx (ρ1 := [.own (.lst h), .dat (.int 3), .dat (.list NL), .own (.lst []), .no, .no]) (by simp [sh0]) ?_
  refine seq_nx (for_eq (ds := (List.range k).map fun i => .int (i : Nat)) (ρ1 := [.own (.lst h1), .dat (.int 3), .dat (.list NL), .own (.lst []), .no, .no]) (by simp [g1, r1]) g2) ?_
  exact seq_one (by simp [-Q.tupleD, tv]) (fun z => nomatch z)
theorem Sh.up {B B' k k' : Nat} {d : D} (h : Sh B k d) (hB : B ≤ B') (hk : k ≤ k') : Sh B' k' d := ⟨h.s, h.n, Nat.le_trans h.k hk, Nat.le_trans h.l hB⟩
end Z
namespace Z
open PySem PySem.Spec PyProof.Rows L2 Gd Q
theorem comp_draws {g : Tg} {c N : Nat} {t : Mo Bool} {e : Mo R} {vs : List Nat} {S : List D → Ev} {P : D → D → Prop} : ∀ (ds : List D),
    (∀ d ∈ ds, ∀ h n, HandOk h n → n < N → ∃ h', HandOk h' (n + c) ∧ ∃ x ρ1 ρ3, g d (S h) = some ρ1 ∧ P d x ∧ t ρ1 = .ok true ρ1 ∧ e ρ1 = .ok (.d x) ρ3 ∧ wipeE ρ3 vs = S h') →
    ∀ (h : List D) (n : Nat), HandOk h n → n + c * ds.length < N →
    ∃ xs h', compD g t e vs ds (S h) = .ok xs (S h') ∧ HandOk h' (n + c * ds.length) ∧ Picked P ds xs ∧ xs.length = ds.length
  | [], _, h, n, hk, _ => ⟨[], h, rfl, hk, .nil, rfl⟩
  | d :: ds, st, h, n, hk, hn => by
    have ml : c * (d :: ds).length = c * ds.length + c := by rw [List.length_cons, Nat.mul_succ]
    rw [ml] at hn ⊢
    obtain ⟨h', hk', x, ρ1, ρ3, hg, px, ht, he, hw⟩ := st d List.mem_cons_self h n hk (by omega)
    obtain ⟨xs, h2, e2, hk2, p2, l2⟩ := comp_draws (g := g) (t := t) (e := e) (vs := vs) (S := S) (P := P) ds (fun d hd => st d (List.mem_cons_of_mem _ hd)) h' (n + c) hk' (by omega)
    refine ⟨x :: xs, h2, ?_, hk2.up (by omega), .keep px p2, by rw [List.length_cons, List.length_cons, l2]⟩
    unfold compD
    rw [hg]
    dsimp only
    rw [ht]
    show (e ρ1).bnd _ = _
    rw [he]
    show (compD g t e vs ds (wipeE ρ3 vs)).bnd _ = _
    rw [hw, e2]
    rfl
theorem args_dat (ρ : Ev) : ∀ ds : List D, argS ρ (ds.map R.d) = some (ds.map Sl.dat)
  | [] => rfl
  | d :: ds => by
    have ih := args_dat ρ ds
    simp [argS, ih]
theorem vidx_dat : ∀ ds : List D, vIdx (ds.map R.d) = []
  | [] => rfl
  | d :: ds => by
    have ih := vidx_dat ds
    simp [vIdx, ih]
theorem back_dat (ρ : Ev) : ∀ (ds : List D) (ss : List Sl), backE ρ (ds.map R.d) ss = ρ
  | [], _ => rfl
  | _ :: _, [] => rfl
  | d :: ds, s :: ss => back_dat ρ ds ss
theorem callX_ok {F : Fn} {m : Mo (List R)} {ρ : Ev} {ds : List D} {x : D} {as : List Sl} (hm : m ρ = .ok (ds.map R.d) ρ) (hF : F (ds.map Sl.dat) = .ok (.dat x) as) : eCallX F m ρ = .ok (.d x) ρ := by
  unfold eCallX applyX
  rw [hm]
  show ((match argS ρ (ds.map R.d) with
    | none => .no
    | some as => if nodupB (vIdx (ds.map R.d)) = true then (match F as with
        | .ok s as' => .ok s (backE ρ (ds.map R.d) as')
        | .ex c d as' => .ex c d (backE ρ (ds.map R.d) (as'.take (ds.map R.d).length))
        | .no => .no) else .no : Rt Sl).bind _) = _
  rw [args_dat, vidx_dat]
  show ((match F (ds.map Sl.dat) with
        | .ok s as' => .ok s (backE ρ (ds.map R.d) as')
        | .ex c d as' => .ex c d (backE ρ (ds.map R.d) (as'.take (ds.map R.d).length))
        | .no => .no : Rt Sl).bind _) = _
  rw [hF]
  show Rt.ok (R.d x) (backE ρ (ds.map R.d) as) = _
  rw [back_dat]
theorem callX_ex {F : Fn} {m : Mo (List R)} {ρ : Ev} {ds : List D} {c : Str} {d : D} {as : List Sl} (hm : m ρ = .ok (ds.map R.d) ρ) (hF : F (ds.map Sl.dat) = .ex c d as) : eCallX F m ρ = .ex c d ρ := by
  unfold eCallX applyX
  rw [hm]
  show ((match argS ρ (ds.map R.d) with
    | none => .no
    | some as => if nodupB (vIdx (ds.map R.d)) = true then (match F as with
        | .ok s as' => .ok s (backE ρ (ds.map R.d) as')
        | .ex c d as' => .ex c d (backE ρ (ds.map R.d) (as'.take (ds.map R.d).length))
        | .no => .no) else .no : Rt Sl).bind _) = _
  rw [args_dat, vidx_dat]
  show ((match F (ds.map Sl.dat) with
        | .ok s as' => .ok s (backE ρ (ds.map R.d) as')
        | .ex c d as' => .ex c d (backE ρ (ds.map R.d) (as'.take (ds.map R.d).length))
        | .no => .no : Rt Sl).bind _) = _
  rw [hF]
  show Rt.ex c d (backE ρ (ds.map R.d) (as.take (ds.map R.d).length)) = _
  rw [back_dat]
end Z
namespace Z
open PySem PySem.Spec PyProof.Rows L2 Gd Q
def isBoolD : D → Bool
  | .bool _ => true
  | _ => false
def isIntD : D → Bool
  | .int _ => true
  | _ => false
theorem isi_bool (d : D) : isiD "bool" d = some (.bool (isBoolD d)) := by
  unfold isiD
  cases d with
  | dict kvs =>
    have : ∀ k : String, k ∈ ["list", "tuple", "dict"] → isiB "bool" k = false := by decide +kernel
    have hk : kind (.dict kvs) ∈ ["list", "tuple", "dict"] := by
      unfold kind
      split <;> first | contradiction | simp
    rw [this _ hk]
    rfl
  | _ => rfl
theorem isi_int (d : D) : isiD "int" d = some (.bool (isIntD d || isBoolD d)) := by
  unfold isiD
  cases d with
  | dict kvs =>
    have : ∀ k : String, k ∈ ["list", "tuple", "dict"] → isiB "int" k = false := by decide +kernel
    have hk : kind (.dict kvs) ∈ ["list", "tuple", "dict"] := by
      unfold kind
      split <;> first | contradiction | simp
    rw [this _ hk]
    rfl
  | _ => rfl
def wholeB (d : D) (lo hi : Int) : Bool := match d with
  | .int i => decide (lo ≤ i) && decide (i ≤ hi)
  | _ => false
theorem le_int (a b : Int) : leD (.int a) (.int b) = some (.bool (decide (a ≤ b))) := rfl
theorem within_spec (d : D) (lo hi : Int) : F_is_integer_within [.dat d, .dat (.int lo), .dat (.int hi)] = .ok (.dat (.bool (wholeB d lo hi))) [.dat d, .dat (.int lo), .dat (.int hi)] := by
  have e1 := isi_bool d
  have e2 := isi_int d
  cases d with
  | int i =>
    by_cases h : lo ≤ i
    · simp [F_is_integer_within, b_is_integer_within, bSeq, bNil, e1, e2, isBoolD, isIntD, eChain, chainK, le_int, h, wholeB]
    · simp [F_is_integer_within, b_is_integer_within, bSeq, bNil, e1, e2, isBoolD, isIntD, eChain, chainK, le_int, h, wholeB]
  | bool b => simp [F_is_integer_within, b_is_integer_within, bSeq, bNil, e1, e2, isBoolD, isIntD, wholeB]
  | none => simp [F_is_integer_within, b_is_integer_within, bSeq, bNil, e1, e2, isBoolD, isIntD, wholeB]
  | str z => simp [F_is_integer_within, b_is_integer_within, bSeq, bNil, e1, e2, isBoolD, isIntD, wholeB]
  | tuple ds => simp [F_is_integer_within, b_is_integer_within, bSeq, bNil, e1, e2, isBoolD, isIntD, wholeB]
  | list ds => simp [F_is_integer_within, b_is_integer_within, bSeq, bNil, e1, e2, isBoolD, isIntD, wholeB]
  | dict kvs => simp [F_is_integer_within, b_is_integer_within, bSeq, bNil, e1, e2, isBoolD, isIntD, wholeB]
/-- a tuple, or no tuple -/
def isTupD : D → Bool
  | .tuple _ => true
  | _ => false
def Plain (d : D) : Prop := isiD "tuple" d = some (.bool (isTupD d))
theorem ne_int (a b : Int) : neF (.int a) (.int b) = some (.bool (!(a == b))) := by
  have := eq_int a b
  unfold eqF at this
  unfold neF
  cases h : (eqD (PyData.int a) (PyData.int b)).or (twoS (PyData.int a) (PyData.int b)) with
  | none =>
    rw [h] at this
    cases this
  | some r =>
    rw [h] at this
    have e : r = (a == b) := by
      have := Option.some.inj this
      injection this
    rw [e]
    rfl
end Z
namespace Z
open PySem PySem.Spec PyProof.Rows L2 Gd Q
/-! ### tokens, of any value -/
def tokB (os : List (List Str)) : D → Bool
  | .tuple ds => ds.length == os.length && (os.zip ds).all fun p => wholeB p.2 0 (p.1.length : Nat)
  | _ => false
theorem zip_any : ∀ (os : List (List Str)) (ds : List D), zipD (os.map verD) ds = (os.zip ds).map fun p => Q.pairD (verD p.1) p.2
  | [], _ => rfl
  | _ :: _, [] => rfl
  | o :: os, d :: ds => by
    have ih := zip_any os ds
    show Q.pairD (verD o) d :: zipD (os.map verD) ds = _
    rw [ih]
    rfl
theorem zip_any2 : ∀ (os : List (List Str)) (ds : List D), zipD ds (os.map verD) = (os.zip ds).map fun p => Q.pairD p.2 (verD p.1)
  | [], [] => rfl
  | [], _ :: _ => rfl
  | _ :: _, [] => rfl
  | o :: os, d :: ds => by
    have ih := zip_any2 os ds
    show Q.pairD d (verD o) :: zipD ds (os.map verD) = _
    rw [ih]
    rfl
theorem istok_any {os : List (List Str)} {d : D} (ll : os.length ≤ 100) (pl : Plain d) (ld : ∀ ds, d = .tuple ds → ds.length ≤ 100) : F_is_token [.dat (histD os), .dat d] = .ok (.dat (.bool (tokB os d))) [.dat (histD os), .dat d] := by
  have l2 : lenD [histD os] = some (.int (os.length : Nat)) := by
    show some (PyData.int ((os.map verD).length : Nat)) = _
    rw [List.length_map]
  refine fn_run (n := 2) (N := 4) (b := b_is_token) (ρ := [.dat (histD os), .dat d, .no, .no]) rfl ?_ (fin_rt rfl)
  show b_is_token [.dat (histD os), .dat d, .no, .no] = _
  by_cases ht : isTupD d = true
  case neg =>
    have ht : isTupD d = false := by simpa using ht
    have ef : tokB os d = false := by
      cases d with
      | tuple ds => cases ht
      | _ => rfl
    have pl : isiD "tuple" d = some (.bool false) := by rw [← ht]; exact pl
    rw [ef]
    generalize histD os = A at *
    exact seq_one (if_t (by simp [pl]) (seq_one rfl (fun z => nomatch z))) (fun z => nomatch z)
  obtain ⟨ds, rfl⟩ : ∃ ds, d = .tuple ds := by
    cases d with
    | tuple ds => exact ⟨ds, rfl⟩
    | _ => cases ht
  have ld := ld ds rfl
  have it : isiD "tuple" (.tuple ds) = some (.bool true) := rfl
  have l1 : lenD [.tuple ds] = some (.int (ds.length : Nat)) := rfl
  have ne := ne_int (ds.length : Nat) (os.length : Nat)
  by_cases hl : ds.length = os.length
  case neg =>
    have c : (((ds.length : Nat) : Int) == ((os.length : Nat) : Int)) = false := beq_eq_false_iff_ne.mpr (by omega)
    have c2 : (ds.length == os.length) = false := beq_eq_false_iff_ne.mpr hl
    have ef : tokB os (.tuple ds) = false := by
      show (ds.length == os.length && _) = false
      rw [c2]
      rfl
    rw [c] at ne
    rw [ef]
    generalize histD os = A at *
    generalize PyData.tuple ds = B at *
    exact seq_one (if_t (by simp [-Q.lenD, it, l1, l2, ne]) (seq_one rfl (fun z => nomatch z))) (fun z => nomatch z)
  have c : (((ds.length : Nat) : Int) == ((os.length : Nat) : Int)) = true := beq_iff_eq.mpr (by omega)
  rw [c] at ne
  have co := comp_pair (A := .dat (histD os)) (B := .dat (.tuple ds)) (e := eCall F_is_integer_within (eCons (eVar 3) (eCons (eC (.int 0)) (eCons (eN lenD (eCons (eVar 2) eNil)) eNil)))) (fun o d => .bool (wholeB d 0 (match o with | .tuple xs => xs.length | _ => 0 : Nat))) ((os.zip ds).map fun p => (verD p.1, p.2)) fun p hp => by
    obtain ⟨q, hq, rfl⟩ := List.mem_map.mp hp
    have a1 := len_verD q.1
    have a2 := within_spec q.2 0 (q.1.length : Nat)
    have a3 : (match verD q.1 with | .tuple xs => xs.length | _ => 0 : Nat) = q.1.length := List.length_map _
    show _ = Rt.ok (R.d (.bool (wholeB q.2 0 ((match verD q.1 with | .tuple xs => xs.length | _ => 0 : Nat) : Nat)))) _
    rw [a3]
    generalize histD os = A
    generalize PyData.tuple ds = B
    generalize verD q.1 = C at a1 ⊢
    generalize q.2 = m at a2 ⊢
    generalize ((q.1.length : Nat) : Int) = k at *
    simp [-Q.lenD, a1, a2]
  rw [List.map_map, List.map_map] at co
  have e1 : ((os.zip ds).map ((fun p => Q.pairD p.1 p.2) ∘ fun p : List Str × D => (verD p.1, p.2))) = zipD (os.map verD) ds := (zip_any os ds).symm
  have e2 : ((os.zip ds).map ((fun p : D × D => PyData.bool (wholeB p.2 0 ((match p.1 with | .tuple xs => xs.length | _ => 0 : Nat) : Nat))) ∘ fun p : List Str × D => (verD p.1, p.2))) = ((os.zip ds).map fun p => wholeB p.2 0 (p.1.length : Nat)).map PyData.bool := by
    rw [List.map_map]
    refine List.map_congr_left fun p _ => ?_
    show PyData.bool (wholeB p.2 0 (((p.1.map PyData.str).length : Nat) : Int)) = _
    rw [List.length_map]
    rfl
  rw [e1, e2] at co
  have lz : (zipD (os.map verD) ds).length ≤ sizeLine := by
    rw [zip_any, List.length_map, List.length_zip]
    exact sz1000 (by omega)
  have fc := lock_eq (comp_eq (it := iMap zipF (eCons (eVar 0) (eCons (eVar 1) eNil))) (ρ := [.dat (histD os), .dat (.tuple ds), .no, .no]) (ρ1 := [.dat (histD os), .dat (.tuple ds), .no, .no]) (ρ2 := [.dat (histD os), .dat (.tuple ds), .no, .no]) (ρ3 := [.dat (histD os), .dat (.tuple ds), .no, .no]) (ds := zipD (os.map verD) ds) rfl lz rfl co rfl)
  simp only [Ob.d] at fc
  have ab := all_bools (bs := (os.zip ds).map fun p => wholeB p.2 0 (p.1.length : Nat))
  have eb : (((os.zip ds).map fun p => wholeB p.2 0 (p.1.length : Nat)).all id) = tokB os (.tuple ds) := by
    show _ = (ds.length == os.length && (os.zip ds).all fun p => wholeB p.2 0 (p.1.length : Nat))
    rw [hl, beq_self_eq_true, Bool.true_and, List.all_map]
    rfl
  rw [eb] at ab
  generalize ((os.zip ds).map fun p => wholeB p.2 0 (p.1.length : Nat)).map PyData.bool = T at *
  generalize tokB os (.tuple ds) = tb at *
  generalize histD os = A at *
  generalize PyData.tuple ds = B at *
  refine seq_nx (if_f (by simp [-Q.lenD, it, l1, l2, ne]) rfl) (seq_one ?_ (fun z => nomatch z))
  simp only [bRet, eN, eCons, eNil]
  rw [fc]
  show (lift (allD [.list T]) [.dat A, .dat B, .no, .no]).bind (fun r ρ => Rt.ok (Out.rt r) ρ) = _
  rw [ab]
  rfl
noncomputable def ltB : Mo Out := (bSeq (bIf (bOr (bNot (asB (e1 (isiD "int") (eVar 2)))) (bOr (asB (e1 (isiD "bool") (eVar 2))) (bNot (asB (eChain leD leD (eC (.int 0)) (eVar 2) (eN lenD (eCons (eVar 3) eNil))))))) (bSeq (bRet (eC (.bool false))) bNil) bNil) bNil)
theorem lt_step {A B : Sl} {d : D} {o : List Str} : ltB [A, B, .dat d, .dat (verD o)] = .ok (if wholeB d 0 (o.length : Nat) = true then .nx else .rt (.d (.bool false))) [A, B, .dat d, .dat (verD o)] := by
  have e1 := isi_bool d
  have e2 := isi_int d
  have l1 := len_verD o
  unfold ltB
  cases d with
  | int i =>
    by_cases h : 0 ≤ i
    · by_cases h2 : i ≤ (o.length : Nat)
      · have hw : wholeB (.int i) 0 (o.length : Nat) = true := by simp [wholeB, h, h2]
        rw [if_pos hw]
        have q1 : leD (.int 0) (.int i) = some (.bool true) := by rw [le_int, decide_eq_true h]
        have q2 : leD (.int i) (.int (o.length : Nat)) = some (.bool true) := by rw [le_int, decide_eq_true h2]
        generalize verD o = V at *
        generalize ((o.length : Nat) : Int) = L at *
        exact seq_nx (if_f (by simp [-Q.lenD, e1, e2, isBoolD, isIntD, eChain, chainK, q1, q2, l1]) rfl) rfl
      · have hw : ¬ wholeB (.int i) 0 (o.length : Nat) = true := by simp [wholeB]; omega
        rw [if_neg hw]
        have q1 : leD (.int 0) (.int i) = some (.bool true) := by rw [le_int, decide_eq_true h]
        have q2 : leD (.int i) (.int (o.length : Nat)) = some (.bool false) := by rw [le_int, decide_eq_false h2]
        generalize verD o = V at *
        generalize ((o.length : Nat) : Int) = L at *
        exact seq_one (if_t (by simp [-Q.lenD, e1, e2, isBoolD, isIntD, eChain, chainK, q1, q2, l1]) (seq_one rfl (fun z => nomatch z))) (fun z => nomatch z)
    · have hw : ¬ wholeB (.int i) 0 (o.length : Nat) = true := by simp [wholeB]; omega
      rw [if_neg hw]
      have q1 : leD (.int 0) (.int i) = some (.bool false) := by rw [le_int, decide_eq_false h]
      generalize verD o = V at *
      exact seq_one (if_t (by simp [-Q.lenD, e1, e2, isBoolD, isIntD, eChain, chainK, q1, l1]) (seq_one rfl (fun z => nomatch z))) (fun z => nomatch z)
  | bool b =>
    generalize verD o = V at *
    exact seq_one (if_t (by simp [-Q.lenD, e1, e2, isBoolD, isIntD]) (seq_one rfl (fun z => nomatch z))) (fun z => nomatch z)
  | _ =>
    generalize verD o = V at *
    exact seq_one (if_t (by simp [-Q.lenD, e1, e2, isBoolD, isIntD]) (seq_one rfl (fun z => nomatch z))) (fun z => nomatch z)
theorem loop_out {g : Tg} {b : Mo Out} {d : D} {ds : List D} {ρ ρ1 ρ2 : Ev} {r : R} (hg : g d ρ = some ρ1) (hb : b ρ1 = .ok (.rt r) ρ2) : loopD g b (d :: ds) ρ = .ok (.rt r) ρ2 := by
  unfold loopD
  rw [hg]
  dsimp only
  rw [hb]
  rfl
theorem lt_loop {A B : Sl} : ∀ (ps : List (List Str × D)) (s2 s3 : Sl), ∃ t2 t3, loopD (gT 2 (gsCons (gN 2) (gsCons (gN 3) gsNil))) ltB (ps.map fun p => Q.pairD p.2 (verD p.1)) [A, B, s2, s3] = .ok (if (ps.all fun p => wholeB p.2 0 (p.1.length : Nat)) = true then .nx else .rt (.d (.bool false))) [A, B, t2, t3]
  | [], s2, s3 => ⟨s2, s3, rfl⟩
  | p :: ps, s2, s3 => by
    have st := lt_step (A := A) (B := B) (d := p.2) (o := p.1)
    by_cases h : wholeB p.2 0 (p.1.length : Nat) = true
    · obtain ⟨t2, t3, ih⟩ := lt_loop (A := A) (B := B) ps (.dat p.2) (.dat (verD p.1))
      rw [if_pos h] at st
      refine ⟨t2, t3, ?_⟩
      rw [List.all_cons, h, Bool.true_and]
      exact loop_cons (ρ1 := [A, B, .dat p.2, .dat (verD p.1)]) rfl st ih
    · rw [if_neg h] at st
      refine ⟨.dat p.2, .dat (verD p.1), ?_⟩
      have h : wholeB p.2 0 (p.1.length : Nat) = false := by simpa using h
      rw [List.all_cons, h, Bool.false_and, if_neg Bool.false_ne_true]
      exact loop_out (ρ1 := [A, B, .dat p.2, .dat (verD p.1)]) rfl st
theorem lawtok_any {os : List (List Str)} {d : D} (pl : Plain d) (ld : ∀ ds, d = .tuple ds → ds.length ≤ 100) : F__law_is_token [.dat (histD os), .dat d] = .ok (.dat (.bool (tokB os d))) [.dat (histD os), .dat d] := by
  have l2 : lenD [histD os] = some (.int (os.length : Nat)) := by
    show some (PyData.int ((os.map verD).length : Nat)) = _
    rw [List.length_map]
  by_cases ht : isTupD d = true
  case neg =>
    have ht : isTupD d = false := by simpa using ht
    have ef : tokB os d = false := by
      cases d with
      | tuple ds => cases ht
      | _ => rfl
    have pl : isiD "tuple" d = some (.bool false) := by rw [← ht]; exact pl
    refine fn_run (n := 2) (N := 4) (b := b__law_is_token) (ρ := [.dat (histD os), .dat d, .no, .no]) rfl ?_ (fin_rt rfl)
    show b__law_is_token [.dat (histD os), .dat d, .no, .no] = _
    rw [ef]
    generalize histD os = A at *
    exact seq_one (if_t (by simp [pl]) (seq_one rfl (fun z => nomatch z))) (fun z => nomatch z)
  obtain ⟨ds, rfl⟩ : ∃ ds, d = .tuple ds := by
    cases d with
    | tuple ds => exact ⟨ds, rfl⟩
    | _ => cases ht
  have ld := ld ds rfl
  have it : isiD "tuple" (.tuple ds) = some (.bool true) := rfl
  have l1 : lenD [.tuple ds] = some (.int (ds.length : Nat)) := rfl
  have ne := ne_int (ds.length : Nat) (os.length : Nat)
  by_cases hl : ds.length = os.length
  case neg =>
    have c : (((ds.length : Nat) : Int) == ((os.length : Nat) : Int)) = false := beq_eq_false_iff_ne.mpr (by omega)
    have c2 : (ds.length == os.length) = false := beq_eq_false_iff_ne.mpr hl
    have ef : tokB os (.tuple ds) = false := by
      show (ds.length == os.length && _) = false
      rw [c2]
      rfl
    rw [c] at ne
    refine fn_run (n := 2) (N := 4) (b := b__law_is_token) (ρ := [.dat (histD os), .dat (.tuple ds), .no, .no]) rfl ?_ (fin_rt rfl)
    show b__law_is_token [.dat (histD os), .dat (.tuple ds), .no, .no] = _
    rw [ef]
    generalize histD os = A at *
    generalize PyData.tuple ds = B at *
    exact seq_one (if_t (by simp [-Q.lenD, it, l1, l2, ne]) (seq_one rfl (fun z => nomatch z))) (fun z => nomatch z)
  have c : (((ds.length : Nat) : Int) == ((os.length : Nat) : Int)) = true := beq_iff_eq.mpr (by omega)
  rw [c] at ne
  obtain ⟨t2, t3, lo⟩ := lt_loop (A := .dat (histD os)) (B := .dat (.tuple ds)) (os.zip ds) .no .no
  rw [← zip_any2] at lo
  have eb : ((os.zip ds).all fun p => wholeB p.2 0 (p.1.length : Nat)) = tokB os (.tuple ds) := by
    show _ = (ds.length == os.length && (os.zip ds).all fun p => wholeB p.2 0 (p.1.length : Nat))
    rw [hl, beq_self_eq_true, Bool.true_and]
  rw [eb] at lo
  have hz : iMap zipF (eCons (eVar 1) (eCons (eVar 0) eNil)) [.dat (histD os), .dat (.tuple ds), .no, .no] = .ok (zipD ds (os.map verD)) [.dat (histD os), .dat (.tuple ds), .no, .no] := rfl
  have fo := for_eq (g := gT 2 (gsCons (gN 2) (gsCons (gN 3) gsNil))) (b := ltB) hz lo
  refine fn_run (n := 2) (N := 4) (b := b__law_is_token) (o := .rt (.d (.bool (tokB os (.tuple ds))))) (ρ := [.dat (histD os), .dat (.tuple ds), t2, t3]) rfl ?_ (fin_rt rfl)
  show b__law_is_token [.dat (histD os), .dat (.tuple ds), .no, .no] = _
  unfold b__law_is_token
  have e0 : (bSeq (bIf (bOr (bNot (asB (e1 (isiD "int") (eVar 2)))) (bOr (asB (e1 (isiD "bool") (eVar 2))) (bNot (asB (eChain leD leD (eC (.int 0)) (eVar 2) (eN lenD (eCons (eVar 3) eNil))))))) (bSeq (bRet (eC (.bool false))) bNil) bNil) bNil) = ltB := rfl
  rw [e0]
  generalize ltB = LB at *
  generalize iMap zipF (eCons (eVar 1) (eCons (eVar 0) eNil)) = IM at *
  cases ht2 : tokB os (.tuple ds) with
  | true =>
    rw [ht2, if_pos rfl] at fo
    generalize histD os = A at *
    generalize PyData.tuple ds = B at *
    exact seq_nx (if_f (by simp [-Q.lenD, it, l1, l2, ne]) rfl) (seq_nx fo (seq_one rfl (fun z => nomatch z)))
  | false =>
    rw [ht2, if_neg Bool.false_ne_true] at fo
    generalize histD os = A at *
    generalize PyData.tuple ds = B at *
    exact seq_nx (if_f (by simp [-Q.lenD, it, l1, l2, ne]) rfl) (seq_one fo (fun z => nomatch z))
theorem wholes : ∀ (os : List (List Str)) (ds : List D), ds.length = os.length → ((os.zip ds).all fun p => wholeB p.2 0 (p.1.length : Nat)) = true → ∃ ls : List Nat, ds = ls.map (fun n => .int (n : Nat)) ∧ Fit os ls
  | [], [], _, _ => ⟨[], rfl, rfl, fun p hp => nomatch hp⟩
  | [], _ :: _, h, _ => nomatch h
  | _ :: _, [], h, _ => nomatch h
  | o :: os, d :: ds, h, w => by
    rw [List.zip_cons_cons, List.all_cons, Bool.and_eq_true] at w
    obtain ⟨ls, e, f⟩ := wholes os ds (by simpa using h) w.2
    have w1 : wholeB d 0 (o.length : Nat) = true := w.1
    cases d with
    | int i =>
      have w2 : (decide (0 ≤ i) && decide (i ≤ (o.length : Nat))) = true := w1
      rw [Bool.and_eq_true, decide_eq_true_eq, decide_eq_true_eq] at w2
      obtain ⟨k, rfl⟩ := Int.eq_ofNat_of_zero_le w2.1
      refine ⟨k :: ls, by rw [e]; rfl, by rw [List.length_cons, List.length_cons, f.len], fun p hp => ?_⟩
      rw [List.zip_cons_cons] at hp
      rcases List.mem_cons.mp hp with rfl | hp
      · show k ≤ o.length
        omega
      · exact f.le p hp
    | _ => cases w1
theorem tokB_fit {os : List (List Str)} {d : D} (h : tokB os d = true) : ∃ ls : List Nat, d = tokL ls ∧ Fit os ls := by
  cases d with
  | tuple ds =>
    have h : (ds.length == os.length && (os.zip ds).all fun p => wholeB p.2 0 (p.1.length : Nat)) = true := h
    rw [Bool.and_eq_true, beq_iff_eq] at h
    obtain ⟨ls, e, f⟩ := wholes os ds h.1 h.2
    exact ⟨ls, by rw [e]; rfl, f⟩
  | _ => cases h
end Z
namespace Z
open PySem PySem.Spec PyProof.Rows L2 Gd Q
/-! ### repr of small values, also with dicts in them -/
structure ShF (B k : Nat) (d : D) : Prop where
  s : d.showable = true
  n : okDs d = true
  k : d.depth ≤ k
  l : d.shown.length ≤ B
theorem ShF.repr {B k : Nat} {d : D} (h : ShF B k d) (hB : B ≤ 10000000) (hk : k ≤ 60) : reprF [d] = some (.str d.shown) := by
  unfold reprF
  exact if_pos (cb_true ⟨h.s, h.n, Nat.le_trans h.k hk, Nat.le_trans h.l (Nat.le_trans hB (by decide))⟩)
theorem ShF.up {B B' k k' : Nat} {d : D} (h : ShF B k d) (hB : B ≤ B') (hk : k ≤ k') : ShF B' k' d := ⟨h.s, h.n, Nat.le_trans h.k hk, Nat.le_trans h.l hB⟩
theorem ShF.all {B k : Nat} : ∀ ds : List D, (∀ d ∈ ds, ShF B k d) → PyData.showableAll ds = true ∧ okDsL ds = true ∧ PyData.depthAll ds ≤ k ∧ ((PyData.shownAll ds).map (·.length)).sum ≤ B * ds.length ∧ (PyData.shownAll ds).length = ds.length
  | [], _ => ⟨rfl, rfl, Nat.zero_le _, Nat.zero_le _, rfl⟩
  | d :: ds, h => by
    obtain ⟨h1, h2, h3, h4, h5⟩ := ShF.all ds fun d hd => h d (List.mem_cons_of_mem _ hd)
    have hd := h d List.mem_cons_self
    refine ⟨?_, ?_, ?_, ?_, ?_⟩
    · show (d.showable && PyData.showableAll ds) = true
      rw [hd.s, h1]
      rfl
    · show (okDs d && okDsL ds) = true
      rw [hd.n, h2]
      rfl
    · show max d.depth (PyData.depthAll ds) ≤ k
      exact Nat.max_le.mpr ⟨hd.k, h3⟩
    · show d.shown.length + ((PyData.shownAll ds).map (·.length)).sum ≤ B * (ds.length + 1)
      have := hd.l
      rw [Nat.mul_succ]
      omega
    · show (PyData.shownAll ds).length + 1 = ds.length + 1
      rw [h5]
theorem ShF.tup {B k m : Nat} {ds : List D} (h : ∀ d ∈ ds, ShF B k d) (l : ds.length ≤ m) : ShF ((B + 2) * m + 3) (k + 1) (.tuple ds) := by
  obtain ⟨h1, h2, h3, h4, h5⟩ := ShF.all ds h
  refine ⟨h1, h2, Nat.succ_le_succ h3, ?_⟩
  show (tupleText (PyData.shownAll ds)).length ≤ _
  have t := tupleText_len_le (PyData.shownAll ds)
  rw [h5] at t
  have e1 : B * ds.length ≤ B * m := Nat.mul_le_mul_left B l
  rw [Nat.add_mul]
  omega
theorem ShF.lst {B k m : Nat} {ds : List D} (h : ∀ d ∈ ds, ShF B k d) (l : ds.length ≤ m) : ShF ((B + 2) * m + 3) (k + 1) (.list ds) := by
  obtain ⟨h1, h2, h3, h4, h5⟩ := ShF.all ds h
  refine ⟨h1, h2, Nat.succ_le_succ h3, ?_⟩
  show (listText (PyData.shownAll ds)).length ≤ _
  have t := listText_len_le (PyData.shownAll ds)
  rw [h5] at t
  have e1 : B * ds.length ≤ B * m := Nat.mul_le_mul_left B l
  rw [Nat.add_mul]
  omega
theorem ShF.int {n : Nat} (h : n ≤ 60) : ShF 2 0 (.int n) := by
  have x := Sh.nat h
  exact ⟨x.s, rfl, x.k, x.l⟩
theorem ShF.dic {B k : Nat} {d : D} (h : ShF B k d) : ShF (B + 40) (k + 1) (.dict [(.int 0, d)]) := by
  refine ⟨?_, ?_, ?_, ?_⟩
  · show ((PyData.int 0).showable && d.showable && true) = true
    rw [h.s]
    rfl
  · show (isKeyD (.int 0) && okDs d && true) = true
    rw [h.n]
    rfl
  · show max (max 0 d.depth) 0 + 1 ≤ k + 1
    have := h.k
    omega
  · have e2 : ((PyData.int 0).shown).length = 1 := by decide +kernel
    have l := h.l
    have jl := dictText_len_le [(PyData.int 0).shown ++ ": " ++ d.shown]
    have le : ((PyData.int 0).shown ++ ": " ++ d.shown).length = (PyData.int 0).shown.length + 2 + d.shown.length := by
      rw [strLen_append, strLen_append]
      rfl
    simp only [List.map_cons, List.map_nil, List.sum_cons, List.sum_nil, List.length_singleton] at jl
    show (dictText [(PyData.int 0).shown ++ ": " ++ d.shown]).length ≤ _
    omega
theorem okDs_ver (o : List Str) : okDs (verD o) = true := by
  show okDsL (o.map PyData.str) = true
  induction o with
  | nil => rfl
  | cons z o ih =>
    show (true && okDsL (o.map PyData.str)) = true
    rw [ih]
    rfl
/-! ### BadToken -/
structure VK (d : D) : Prop where
  pl : Plain d
  ld : ∀ ds, d = .tuple ds → ds.length ≤ 100
  sh : ShF 100000 8 d
theorem decode_bad {os : List (List Str)} {d : D} (ll : os.length ≤ 100) (v : VK d) (hb : tokB os d = false) : F_decode_token [.dat (histD os), .dat d] = .ex "BadToken" (errD "token" d) [.dat (histD os), .dat d, .no, .no] := by
  have g := istok_any ll v.pl v.ld
  rw [hb] at g
  refine fnX_ex (n := 2) (N := 4) (b := b_decode_token) rfl ?_
  show b_decode_token [.dat (histD os), .dat d, .no, .no] = _
  unfold b_decode_token
  generalize histD os = A at *
  exact seq_ex (if_t (by simp [g]) (seq_ex (by simp)))
theorem norm_bad {os : List (List Str)} {d : D} (ll : os.length ≤ 100) (v : VK d) (hb : tokB os d = false) : F_normalize_token [.dat (histD os), .dat d] = .ex "BadToken" (errD "token" d) [.dat (histD os), .dat d] := by
  have g := decode_bad ll v hb
  have c := callX_ex (F := F_decode_token) (m := eCons (eVar 0) (eCons (eVar 1) eNil)) (ρ := [.dat (histD os), .dat d]) (ds := [histD os, d]) (by simp) g
  refine fnX_ex (n := 2) (N := 2) (b := b_normalize_token) rfl ?_
  show b_normalize_token [.dat (histD os), .dat d] = _
  unfold b_normalize_token
  generalize eCallX F_decode_token (eCons (eVar 0) (eCons (eVar 1) eNil)) = M at *
  generalize histD os = A at *
  exact seq_ex (by simp [c])
theorem send_bad {os : List (List Str)} {d w : D} {c : Int} (ll : os.length ≤ 100) (v : VK d) (hb : tokB os d = false) : F_send_page [.dat (histD os), .dat w, .dat d, .dat (.int c)] = .ex "BadToken" (errD "token" d) [.dat (histD os), .dat w, .dat d, .dat (.int c), .no, .no] := by
  have g := decode_bad ll v hb
  have c := callX_ex (F := F_decode_token) (m := eCons (eVar 0) (eCons (eVar 2) eNil)) (ρ := [.dat (histD os), .dat w, .dat d, .dat (.int c), .no, .no]) (ds := [histD os, d]) (by simp) g
  refine fnX_ex (n := 4) (N := 6) (b := b_send_page) rfl ?_
  show b_send_page [.dat (histD os), .dat w, .dat d, .dat (.int _), .no, .no] = _
  unfold b_send_page
  generalize eCallX F_decode_token (eCons (eVar 0) (eCons (eVar 2) eNil)) = M at *
  generalize histD os = A at *
  exact seq_ex (by simp [c])
theorem merge_bad1 {os : List (List Str)} {d w : D} (ll : os.length ≤ 100) (v : VK d) (hb : tokB os d = false) : F_merge_tokens [.dat (histD os), .dat d, .dat w] = .ex "BadToken" (errD "token" d) [.dat (histD os), .dat d, .dat w, .no] := by
  have g := decode_bad ll v hb
  have c := callX_ex (F := F_decode_token) (m := eCons (eVar 0) (eCons (eVar 1) eNil)) (ρ := [.dat (histD os), .dat d, .dat w, .no]) (ds := [histD os, d]) (by simp) g
  refine fnX_ex (n := 3) (N := 4) (b := b_merge_tokens) rfl ?_
  show b_merge_tokens [.dat (histD os), .dat d, .dat w, .no] = _
  unfold b_merge_tokens
  generalize eCallX F_decode_token (eCons (eVar 0) (eCons (eVar 1) eNil)) = M at *
  generalize histD os = A at *
  exact seq_ex (by simp [c])
theorem merge_bad2 {os : List (List Str)} {names : List Str} {a : List Nat} {w : D} (F : Few os names) (ha : Fit os a) (v : VK w) (hb : tokB os w = false) : F_merge_tokens [.dat (histD os), .dat (tokL a), .dat w] = .ex "BadToken" (errD "token" w) [.dat (histD os), .dat (tokL a), .dat w, .dat (verD (srt (uni os a)))] := by
  have g1 := decodeL_spec F ha
  have g := decode_bad F.len v hb
  have c1 := callX_ok (F := F_decode_token) (m := eCons (eVar 0) (eCons (eVar 1) eNil)) (ρ := [.dat (histD os), .dat (tokL a), .dat w, .no]) (ds := [histD os, tokL a]) (by simp) g1
  have c := callX_ex (F := F_decode_token) (m := eCons (eVar 0) (eCons (eVar 2) eNil)) (ρ := [.dat (histD os), .dat (tokL a), .dat w, .dat (verD (srt (uni os a)))]) (ds := [histD os, w]) (by simp) g
  refine fnX_ex (n := 3) (N := 4) (b := b_merge_tokens) rfl ?_
  show b_merge_tokens [.dat (histD os), .dat (tokL a), .dat w, .no] = _
  unfold b_merge_tokens
  generalize eCallX F_decode_token (eCons (eVar 0) (eCons (eVar 1) eNil)) = M at *
  generalize eCallX F_decode_token (eCons (eVar 0) (eCons (eVar 2) eNil)) = M2 at *
  generalize verD (srt (uni os a)) = U at *
  generalize tokL a = T at *
  generalize histD os = A at *
  refine seq_nx (ρ1 := [.dat A, .dat T, .dat w, .dat U]) (by simp [c1]) ?_
  exact seq_ex (by simp [c])
end Z
namespace Z
open PySem PySem.Spec PyProof.Rows L2 Gd Q
/-! ### drawn values -/
noncomputable def tokM37 : Mo R := (eN tupleD (eCons (eLock (fComp (iSeq (eVar 1)) (gN 6) bYes (eCall F__law_take (eCons (eVar 0) (eCons (e2 addD (eN lenD (eCons (eVar 6) eNil)) (eC (.int 1))) eNil))) [6])) eNil))
def DrawP (d x : D) : Prop := ∃ k : Nat, x = .int k ∧ ∀ ds, d = .tuple ds → k ≤ ds.length
theorem draws_le : ∀ {os : List (List Str)} {xs : List D}, Picked DrawP (os.map verD) xs → (∀ o ∈ os, o.length ≤ 24) → ∀ x ∈ xs, ∃ k : Nat, x = .int k ∧ k ≤ 24 := fun {os xs} p ho x hx => by
  obtain ⟨d, hd, k, e, hk⟩ := p.mem x hx
  obtain ⟨o, hoo, rfl⟩ := List.mem_map.mp hd
  refine ⟨k, e, ?_⟩
  have := hk _ rfl
  rw [List.length_map] at this
  have := ho o hoo
  omega
theorem tok_draw {os : List (List Str)} {names : List Str} {h : List D} {n : Nat} (F : Few os names) (hk : HandOk h n) (hn : n + 200 < 900000) :
    ∃ T h', tokM37 [.own (.lst h), .dat (histD os), .no, .no, .no, .no, .no] = .ok (.d (.tuple T)) [.own (.lst h'), .dat (histD os), .no, .no, .no, .no, .no] ∧ T.length = os.length ∧ (∀ x ∈ T, ∃ k : Nat, x = .int k ∧ k ≤ 24) ∧ HandOk h' (n + 100) := by
  obtain ⟨xs, h', c, hk', pk, lx⟩ := comp_draws (g := gN 6) (c := 1) (N := 900000) (t := bYes) (e := eCall F__law_take (eCons (eVar 0) (eCons (e2 addD (eN lenD (eCons (eVar 6) eNil)) (eC (.int 1))) eNil))) (vs := [6]) (S := fun h => [.own (.lst h), .dat (histD os), .no, .no, .no, .no, .no]) (P := DrawP) (os.map verD) (fun d hd h n hk hn => by
    obtain ⟨o, ho, rfl⟩ := List.mem_map.mp hd
    have lo := F.olen ho
    obtain ⟨v, h', e, v0, v1, hk'⟩ := take_spec hk (by omega) (m := ((o.length + 1 : Nat) : Int)) (by omega) (by omega)
    obtain ⟨k, rfl⟩ := Int.eq_ofNat_of_zero_le v0
    have a1 := len_verD o
    have a2 : addD (.int (o.length : Nat)) (.int 1) = some (.int ((o.length + 1 : Nat) : Int)) := by
      show some (PyData.int ((o.length : Int) + 1)) = _
      rw [Int.natCast_add]
      rfl
    refine ⟨h', hk', .int (k : Nat), [.own (.lst h), .dat (histD os), .no, .no, .no, .no, .dat (verD o)], [.own (.lst h'), .dat (histD os), .no, .no, .no, .no, .dat (verD o)], rfl, ⟨k, rfl, fun ds e => by
      have e : PyData.tuple (o.map PyData.str) = .tuple ds := e
      injection e with e
      rw [← e, List.length_map]
      omega⟩, rfl, ?_, rfl⟩
    have e : F__law_take [.own (.lst h), .dat (.int ((o.length + 1 : Nat) : Int))] = .ok (.dat (.int (k : Nat))) [.own (.lst h'), .dat (.int ((o.length + 1 : Nat) : Int))] := e
    generalize ((o.length + 1 : Nat) : Int) = J at a2 e
    generalize ((o.length : Nat) : Int) = J0 at a1 a2
    generalize verD o = C at a1 ⊢
    generalize ((k : Nat) : Int) = kk at e ⊢
    generalize histD os = O
    simp [-Q.lenD, -Q.addD, a1, a2, e]) h n hk (by rw [List.length_map]; have := F.len; omega)
  rw [List.length_map] at lx hk'
  refine ⟨xs, h', ?_, lx, draws_le pk fun o ho => F.olen ho, hk'.up (by have := F.len; omega)⟩
  have sh := lock_eq (comp_eq (it := iSeq (eVar 1)) (ρ := [.own (.lst h), .dat (histD os), .no, .no, .no, .no, .no]) (ρ1 := [.own (.lst h), .dat (histD os), .no, .no, .no, .no, .no]) (ρ3 := [.own (.lst h'), .dat (histD os), .no, .no, .no, .no, .no]) (ds := os.map verD) rfl (by rw [List.length_map]; exact sz1000 (Nat.le_trans F.len (by decide))) rfl c rfl)
  have tm : tupleD [.list xs] = some (.tuple xs) := rfl
  simp only [Ob.d] at sh
  unfold tokM37
  simp only [eN, eCons, eNil]
  rw [sh]
  show (lift (tupleD [.list xs]) _) = _
  rw [tm]
  rfl
/-- what may stand in a tuple -/
def El (d : D) : Prop := ShF 60 2 d
theorem el_odd {y : D} (h : y ∈ [PyData.int (-1), .bool true, .bool false, .none, .str "1", .tuple [.int 1], .list [], .int 100000000000000000000000000000, .int 6, .int 5, .int 0, .int 1]) : El y := by
  simp only [List.mem_cons, List.not_mem_nil, or_false] at h
  rcases h with rfl | rfl | rfl | rfl | rfl | rfl | rfl | rfl | rfl | rfl | rfl | rfl <;> exact ⟨by decide +kernel, by decide +kernel, by decide +kernel, by decide +kernel⟩
theorem el_int {k : Nat} (h : k ≤ 24) : El (.int (k : Nat)) := (ShF.int (by omega : k ≤ 60)).up (by decide) (by decide)
theorem vk_tup {ds : List D} (h : ∀ d ∈ ds, El d) (l : ds.length ≤ 60) : VK (.tuple ds) := ⟨rfl, fun es e => by injection e with e; rw [← e]; omega, (ShF.tup (m := 60) h l).up (by decide) (by decide)⟩
theorem vk_lst {ds : List D} (h : ∀ d ∈ ds, El d) (l : ds.length ≤ 60) : VK (.list ds) := ⟨rfl, (fun es e => nomatch e), (ShF.lst (m := 60) h l).up (by decide) (by decide)⟩
theorem vk_in {ds : List D} (h : ∀ d ∈ ds, El d) (l : ds.length ≤ 60) : VK (.tuple [.tuple ds]) := ⟨rfl, fun es e => by injection e with e; rw [← e]; simp, (ShF.tup (m := 1) (fun d hd => by rw [List.mem_singleton.mp hd]; exact ShF.tup (m := 60) h l) (Nat.le_refl _)).up (by decide) (by decide)⟩
theorem vk_dic {ds : List D} (h : ∀ d ∈ ds, El d) (l : ds.length ≤ 60) : VK (.dict [(.int 0, .tuple ds)]) := ⟨rfl, (fun es e => nomatch e), (ShF.dic (ShF.tup (m := 60) h l)).up (by decide) (by decide)⟩
theorem vk_small {y : D} (h : y ∈ [PyData.none, .int 0, .str "", .list [], .dict [], .bool true]) : VK y := by
  simp only [List.mem_cons, List.not_mem_nil, or_false] at h
  rcases h with rfl | rfl | rfl | rfl | rfl | rfl <;> exact ⟨rfl, (fun es e => nomatch e), by decide +kernel, by decide +kernel, by decide +kernel, by decide +kernel⟩
theorem odd_spec {os : List (List Str)} {names : List Str} {h : List D} {n : Nat} (F : Few os names) (l10 : os.length ≤ 10) (hk : HandOk h n) (hn : n + 400 < 800000) :
    ∃ y h', F__law_odd [.own (.lst h), .dat (histD os)] = .ok (.dat y) [.own (.lst h'), .dat (histD os)] ∧ VK y ∧ HandOk h' (n + 200) := by
  obtain ⟨T, h1, g1, lT, iT, hk1⟩ := tok_draw F hk (by omega)
  obtain ⟨v, h2, g2, v0, v1, hk2⟩ := take_spec hk1 (by omega) (m := ((T.length + 1 : Nat) : Int)) (by omega) (by omega)
  obtain ⟨p, rfl⟩ := Int.eq_ofNat_of_zero_le v0
  obtain ⟨od, h3, g3, mo, hk3⟩ := pick_spec (it := .dat (.list [PyData.int (-1), .bool true, .bool false, .none, .str "1", .tuple [.int 1], .list [], .int 100000000000000000000000000000, .int 6, .int 5, .int 0, .int 1])) .list hk2 (by omega) (by simp) (by show 12 < _; decide)
  have eo := el_odd mo
  have eT : ∀ d ∈ T, El d := fun d hd => by
    obtain ⟨k, rfl, hk⟩ := iT d hd
    exact el_int hk
  have lt : T.length ≤ 10 := by omega
  have e1 : El od := eo
  have tk : ∀ d ∈ T.take p, El d := fun d hd => eT d (List.mem_of_mem_take hd)
  have dr : ∀ (k : Nat), ∀ d ∈ T.drop k, El d := fun k d hd => eT d (List.mem_of_mem_drop hd)
  have ap : ∀ {a b : List D}, (∀ d ∈ a, El d) → (∀ d ∈ b, El d) → ∀ d ∈ a ++ b, El d := fun ha hb d hd => (List.mem_append.mp hd).elim (ha d) (hb d)
  have so : ∀ d ∈ [od], El d := fun d hd => by rw [List.mem_singleton.mp hd]; exact eo
  have L1 : List D := []
  let A : List D := [.tuple T, .tuple T, .list T, .tuple (T ++ [od]), .tuple (T.drop 1), .tuple (T.take p ++ [od] ++ T.drop (p + 1)), .tuple [.tuple T]]
  let B : List D := [.tuple (T.take p ++ [od] ++ T.drop p), .none, .int 0, .str "", .tuple [], .list [], .dict [], .bool true, .dict [(.int 0, .tuple T)], .tuple T.reverse]
  have lA : A.length = 7 := rfl
  have vA : ∀ y ∈ A ++ B, VK y := fun y hy => by
    have ltk : (T.take p).length ≤ T.length := by rw [List.length_take]; omega
    have ldr : ∀ k, (T.drop k).length ≤ T.length := fun k => by rw [List.length_drop]; omega
    rcases List.mem_append.mp hy with hy | hy
    · simp only [A, List.mem_cons, List.not_mem_nil, or_false] at hy
      rcases hy with rfl | rfl | rfl | rfl | rfl | rfl | rfl
      · exact vk_tup eT (by omega)
      · exact vk_tup eT (by omega)
      · exact vk_lst eT (by omega)
      · exact vk_tup (ap eT so) (by rw [List.length_append, List.length_singleton]; omega)
      · exact vk_tup (dr 1) (by have := ldr 1; omega)
      · exact vk_tup (ap (ap tk so) (dr (p + 1))) (by have := ldr (p + 1); rw [List.length_append, List.length_append, List.length_singleton]; omega)
      · exact vk_in eT (by omega)
    · simp only [B, List.mem_cons, List.not_mem_nil, or_false] at hy
      rcases hy with rfl | rfl | rfl | rfl | rfl | rfl | rfl | rfl | rfl | rfl
      · exact vk_tup (ap (ap tk so) (dr p)) (by have := ldr p; rw [List.length_append, List.length_append, List.length_singleton]; omega)
      · exact vk_small (by simp)
      · exact vk_small (by simp)
      · exact vk_small (by simp)
      · exact vk_tup (ds := []) (fun d hd => nomatch hd) (by decide)
      · exact vk_small (by simp)
      · exact vk_small (by simp)
      · exact vk_small (by simp)
      · exact vk_dic eT (by omega)
      · exact vk_tup (fun d hd => eT d (List.mem_reverse.mp hd)) (by rw [List.length_reverse]; omega)
  obtain ⟨y, h4, g4, my, hk4⟩ := pick_spec (it := .dat (.list (A ++ B))) .list hk3 (by omega) (by simp [A]) (by show 17 < _; decide)
  refine ⟨y, h4, ?_, vA y my, hk4.up (by omega)⟩
  have sl : ∀ {k : Nat}, k ≤ 1000 → k ≤ sizeLine := sz1000
  have ltk : (T.take p).length ≤ T.length := by rw [List.length_take]; omega
  have ldr : ∀ k, (T.drop k).length ≤ T.length := fun k => by rw [List.length_drop]; omega
  have q1 : lenD [.tuple T] = some (.int (T.length : Nat)) := rfl
  have q2 : addD (.int (T.length : Nat)) (.int 1) = some (.int ((T.length + 1 : Nat) : Int)) := by
    show some (PyData.int ((T.length : Int) + 1)) = _
    rw [Int.natCast_add]
    rfl
  have q3 : addD (.int (p : Nat)) (.int 1) = some (.int ((p + 1 : Nat) : Int)) := by
    show some (PyData.int ((p : Int) + 1)) = _
    rw [Int.natCast_add]
    rfl
  have pw : powD (.int 10) (.int 29) = some (.int 100000000000000000000000000000) := by
    show (if cb ((0 : Int) ≤ 29 ∧ (29 : Int) ≤ 1000000 ∧ (10 : Int).natAbs < 2 ^ 64) = true then some (PyData.int ((10 : Int) ^ (29 : Int).toNat)) else none) = _
    rw [if_pos (cb_true (by decide))]
    congr 2
  have a2 : addD (.tuple T) (.tuple [od]) = some (.tuple (T ++ [od])) := by
    show (if T.length + 1 ≤ sizeLine then some _ else none) = _
    rw [if_pos (sl (by omega))]
  have a3 : Q.cutD (.tuple T) (some 1) none = some (.tuple (T.drop 1)) := by
    show some (PyData.tuple (cutL T (some ((1 : Nat) : Int)) none)) = _
    rw [cutL_from]
  have a4 : Q.cutD (.tuple T) none (some ((p : Nat) : Int)) = some (.tuple (T.take p)) := by
    show some (PyData.tuple (cutL T none (some ((p : Nat) : Int)))) = _
    rw [cutL_to]
  have a5 : addD (.tuple (T.take p)) (.tuple [od]) = some (.tuple (T.take p ++ [od])) := by
    show (if (T.take p).length + 1 ≤ sizeLine then some _ else none) = _
    rw [if_pos (sl (by omega))]
  have a6 : Q.cutD (.tuple T) (some ((p + 1 : Nat) : Int)) none = some (.tuple (T.drop (p + 1))) := by
    show some (PyData.tuple (cutL T (some ((p + 1 : Nat) : Int)) none)) = _
    rw [cutL_from]
  have a8 : Q.cutD (.tuple T) (some ((p : Nat) : Int)) none = some (.tuple (T.drop p)) := by
    show some (PyData.tuple (cutL T (some ((p : Nat) : Int)) none)) = _
    rw [cutL_from]
  have a7 : addD (.tuple (T.take p ++ [od])) (.tuple (T.drop (p + 1))) = some (.tuple (T.take p ++ [od] ++ T.drop (p + 1))) := by
    show (if (T.take p ++ [od]).length + (T.drop (p + 1)).length ≤ sizeLine then some _ else none) = _
    rw [if_pos (sl (by rw [List.length_append, List.length_singleton]; have := ldr (p + 1); omega))]
  have a9 : addD (.tuple (T.take p ++ [od])) (.tuple (T.drop p)) = some (.tuple (T.take p ++ [od] ++ T.drop p)) := by
    show (if (T.take p ++ [od]).length + (T.drop p).length ≤ sizeLine then some _ else none) = _
    rw [if_pos (sl (by rw [List.length_append, List.length_singleton]; have := ldr p; omega))]
  have rv : revF (.tuple T) = some (.tuple T.reverse) := rfl
  have li : listD [.tuple T] = some T := rfl
  have c2 : cat2 (.list A) (.list B) = some (A ++ B) := by
    show (if A.length + B.length ≤ sizeLine then some (A ++ B) else none) = _
    exact if_pos (sl (by show 17 ≤ 1000; decide))
  have s0 := short_ok (ds := ([] : List D)) (by decide)
  have s1 := short_ok (ds := [od]) (by show 1 ≤ 1000; decide)
  have s2 := short_ok (ds := [.tuple T]) (by show 1 ≤ 1000; decide)
  have s3 := short_ok (ds := [PyData.int 1]) (by decide)
  have s4 := short_ok (ds := [PyData.int (-1), .bool true, .bool false, .none, .str "1", .tuple [.int 1], .list [], .int 100000000000000000000000000000, .int 6, .int 5, .int 0, .int 1]) (by show 12 ≤ 1000; decide)
  have s5 := short_ok (ds := A) (by show 7 ≤ 1000; decide)
  have s6 := short_ok (ds := B) (by show 10 ≤ 1000; decide)
  have g2 : F__law_take [.own (.lst h1), .dat (.int ((T.length + 1 : Nat) : Int))] = .ok (.dat (.int (p : Nat))) [.own (.lst h2), .dat (.int ((T.length + 1 : Nat) : Int))] := g2
  have k0 : keyOf (.int 0) = some (.inl 0) := rfl
  have k1 : keyD (.inl 0) = .int 0 := rfl
  refine fn_run (n := 2) (N := 7) (b := b__law_odd) (o := .rt (.d y)) (ρ := [.own (.lst h4), .dat (histD os), .dat (.tuple T), .dat (.int (p : Nat)), .dat od, .dat (.list (A ++ B)), .no]) rfl ?_ (fin_rt rfl)
  show b__law_odd [.own (.lst h), .dat (histD os), .no, .no, .no, .no, .no] = _
  unfold b__law_odd
  have t0 : (eN tupleD (eCons (eLock (fComp (iSeq (eVar 1)) (gN 6) bYes (eCall F__law_take (eCons (eVar 0) (eCons (e2 addD (eN lenD (eCons (eVar 6) eNil)) (eC (.int 1))) eNil))) [6])) eNil)) = tokM37 := rfl
  rw [t0]
  generalize tokM37 = TM at *
  generalize histD os = O at *
  refine seq_nx (ρ1 := [.own (.lst h1), .dat O, .dat (.tuple T), .no, .no, .no, .no]) (by simp [g1]) ?_
  refine seq_nx (ρ1 := [.own (.lst h2), .dat O, .dat (.tuple T), .dat (.int (p : Nat)), .no, .no, .no]) (by
    generalize ((T.length + 1 : Nat) : Int) = J at *
    generalize ((T.length : Nat) : Int) = J0 at *
    simp [-Q.lenD, -Q.addD, q1, q2, g2]) ?_
  refine seq_nx (ρ1 := [.own (.lst h3), .dat O, .dat (.tuple T), .dat (.int (p : Nat)), .dat od, .no, .no]) (by simp [-Q.powD, negD, pw, s0, s3, s4, g3]) ?_
  refine seq_nx (ρ1 := [.own (.lst h3), .dat O, .dat (.tuple T), .dat (.int (p : Nat)), .dat od, .dat (.list A), .no]) (by
    clear g4 my vA c2 s6
    generalize hA : A = A' at *
    simp only [A] at hA
    generalize T.take p ++ [od] ++ T.drop (p + 1) = X1 at *
    generalize T.take p ++ [od] = X2 at *
    generalize T ++ [od] = X3 at *
    generalize T.drop 1 = X4 at *
    generalize T.drop (p + 1) = X5 at *
    generalize T.take p = X6 at *
    generalize ((p + 1 : Nat) : Int) = P1 at *
    generalize ((p : Nat) : Int) = P0 at *
    subst hA
    simp [-Q.addD, -Q.cutD, -Q.listD, a2, a3, a4, a5, a6, a7, q3, li, s1, s2, s5]) ?_
  refine seq_nx (ρ1 := [.own (.lst h3), .dat O, .dat (.tuple T), .dat (.int (p : Nat)), .dat od, .dat (.list (A ++ B)), .no]) (by
    clear g4 my vA s5
    generalize A = A' at *
    generalize hB : B = B' at *
    simp only [B] at hB
    generalize T.take p ++ [od] ++ T.drop p = X1 at *
    generalize T.take p ++ [od] = X2 at *
    generalize T.drop p = X5 at *
    generalize T.take p = X6 at *
    generalize T.reverse = X7 at *
    generalize ((p : Nat) : Int) = P0 at *
    subst hB
    simp [-Q.addD, -Q.cutD, -Q.listD, -Q.cat2, -Q.revF, a4, a5, a8, a9, rv, s0, s1, s6, c2, k0, k1]) ?_
  generalize A ++ B = AB at *
  exact seq_one (by simp [g4]) (fun z => nomatch z)
end Z
namespace Z
open PySem PySem.Spec PyProof.Rows L2 Gd Q
/-! ### what the four calls give -/
theorem send_any {os : List (List Str)} {names w : List Str} {a : List Nat} (F : Few os names) (ha : Fit os a) (hw : Rows w) (nw : w.Nodup) (lw : w.length ≤ 24) :
    ∃ x, F_send_page [.dat (histD os), .dat (verD w), .dat (tokL a), .dat (.int 2)] = .ok (.dat x) [.dat (histD os), .dat (verD w), .dat (tokL a), .dat (.int 2)] := by
  have g1 := decodeL_spec F ha
  have rS := uni_rows F (ls := a)
  have nS := uni_nodup os a
  have lS := few64 nS (uni_in F) F.few
  have g2 := page_spec (c := 2) hw (rows_srt rS) (Nat.le_trans lw (by decide))
  rw [pg_congr fun z => srt_mem] at g2
  have rP : Rows ((pg (uni os a) w).take 2) := fun z hz => pg_rows hw z (List.mem_of_mem_take hz)
  have nd : (uni os a ++ (pg (uni os a) w).take 2).Nodup := by
    refine List.nodup_append.mpr ⟨nS, (nw.sublist List.filter_sublist).sublist (List.take_sublist _ _), fun x hx y hy e => ?_⟩
    subst e
    have := (List.mem_filter.mp (List.mem_of_mem_take hy)).2
    rw [List.contains_iff_mem.mpr hx] at this
    cases this
  have lP : ((pg (uni os a) w).take 2).length ≤ 2 := by rw [List.length_take]; omega
  have g3 := union_spec (xs := [srt (uni os a), (pg (uni os a) w).take 2]) nd (fun z => by simp [srt_mem]) (by
    show ((srt (uni os a)) ++ (((pg (uni os a) w).take 2) ++ [])).length ≤ 4000
    rw [List.append_nil, List.length_append, srt_len]
    omega) (by rw [List.length_append]; omega)
  have g3 : F_union_of [.dat (.list [verD (srt (uni os a)), verD ((pg (uni os a) w).take 2)])] = .ok (.dat (verD (srt (uni os a ++ (pg (uni os a) w).take 2)))) [.dat (.list [verD (srt (uni os a)), verD ((pg (uni os a) w).take 2)])] := g3
  have g4 := enc_spec (os := os) (S := srt (uni os a ++ (pg (uni os a) w).take 2)) F.rows (rows_srt (rows_app rS rP)) (Nat.le_trans F.len (by decide))
  refine ⟨.tuple [verD ((pg (uni os a) w).take 2), tokD os (srt (uni os a ++ (pg (uni os a) w).take 2))], fnX_run (n := 4) (N := 6) (b := b_send_page) (o := .rt (.d (.tuple [verD ((pg (uni os a) w).take 2), tokD os (srt (uni os a ++ (pg (uni os a) w).take 2))]))) (ρ := [.dat (histD os), .dat (verD w), .dat (tokL a), .dat (.int 2), .dat (verD (srt (uni os a))), .dat (verD ((pg (uni os a) w).take 2))]) rfl ?_ (fin_rt rfl)⟩
  have g2 : F_page_of [.dat (verD w), .dat (verD (srt (uni os a))), .dat (.int 2)] = .ok (.dat (verD ((pg (uni os a) w).take 2))) [.dat (verD w), .dat (verD (srt (uni os a))), .dat (.int 2)] := g2
  show b_send_page [.dat (histD os), .dat (verD w), .dat (tokL a), .dat (.int 2), .no, .no] = _
  unfold b_send_page
  generalize tokD os (srt (uni os a ++ (pg (uni os a) w).take 2)) = T2 at *
  generalize tokL a = T at *
  generalize histD os = A at *
  generalize verD w = B at *
  generalize verD (srt (uni os a ++ (pg (uni os a) w).take 2)) = U at *
  generalize verD ((pg (uni os a) w).take 2) = P at *
  generalize verD (srt (uni os a)) = SS at *
  have s2 := short_ok (ds := [SS, P]) (by show 2 ≤ 1000; decide)
  have s3 := short_ok (ds := [P, T2]) (by show 2 ≤ 1000; decide)
  refine seq_nx (ρ1 := [.dat A, .dat B, .dat T, .dat (.int 2), .dat SS, .no]) (by simp [g1]) ?_
  refine seq_nx (ρ1 := [.dat A, .dat B, .dat T, .dat (.int 2), .dat SS, .dat P]) (by simp [g2]) ?_
  exact seq_one (by simp [g3, g4, s2, s3]) (fun z => nomatch z)
noncomputable def m37a : Mo R := eCallX F_decode_token (eCons (eVar 1) (eCons (eVar 9) eNil))
noncomputable def m37b : Mo R := eCallX F_normalize_token (eCons (eVar 1) (eCons (eVar 9) eNil))
noncomputable def m37c : Mo R := eCallX F_send_page (eCons (eVar 1) (eCons (eVar 2) (eCons (eVar 9) (eCons (eC (.int 2)) eNil))))
noncomputable def m37d : Mo R := eCallX F_merge_tokens (eCons (eVar 1) (eCons (eVar 9) (eCons (eVar 10) eNil)))
/-- what is told of a call: a value, or BadToken with d -/
def told (b : Bool) (d x : D) : Rt D := if b = true then .ok x [] else .ex "BadToken" (errD "token" d) []
def Gives (m : Mo R) (O W one other : D) (b : Bool) (d x : D) : Prop := ∀ s0 s3 s4 s5 s6 s7 s8, toTh (m [s0, .dat O, .dat W, s3, s4, s5, s6, s7, s8, .dat one, .dat other]) = told b d x
theorem gives_a {os : List (List Str)} {names : List Str} {W d e : D} (F : Few os names) (v : VK d) : ∃ x, Gives m37a (histD os) W d e (tokB os d) d x := by
  cases hb : tokB os d with
  | true =>
    obtain ⟨ls, rfl, f⟩ := tokB_fit hb
    refine ⟨verD (srt (uni os ls)), fun s0 s3 s4 s5 s6 s7 s8 => ?_⟩
    unfold m37a
    rw [callX_ok (ds := [histD os, tokL ls]) (by simp) (decodeL_spec F f)]
    rfl
  | false =>
    refine ⟨.none, fun s0 s3 s4 s5 s6 s7 s8 => ?_⟩
    unfold m37a
    rw [callX_ex (ds := [histD os, d]) (by simp) (decode_bad F.len v hb)]
    rfl
theorem gives_b {os : List (List Str)} {names : List Str} {W d e : D} (F : Few os names) (v : VK d) : ∃ x, Gives m37b (histD os) W d e (tokB os d) d x := by
  cases hb : tokB os d with
  | true =>
    obtain ⟨ls, rfl, f⟩ := tokB_fit hb
    refine ⟨tokD os (uni os ls), fun s0 s3 s4 s5 s6 s7 s8 => ?_⟩
    unfold m37b
    rw [callX_ok (ds := [histD os, tokL ls]) (by simp) (norm_spec F f)]
    rfl
  | false =>
    refine ⟨.none, fun s0 s3 s4 s5 s6 s7 s8 => ?_⟩
    unfold m37b
    rw [callX_ex (ds := [histD os, d]) (by simp) (norm_bad F.len v hb)]
    rfl
theorem gives_c {os : List (List Str)} {names w : List Str} {d e : D} (F : Few os names) (v : VK d) (hw : Rows w) (nw : w.Nodup) (lw : w.length ≤ 24) : ∃ x, Gives m37c (histD os) (verD w) d e (tokB os d) d x := by
  cases hb : tokB os d with
  | true =>
    obtain ⟨ls, rfl, f⟩ := tokB_fit hb
    obtain ⟨x, g⟩ := send_any F f hw nw lw
    refine ⟨x, fun s0 s3 s4 s5 s6 s7 s8 => ?_⟩
    unfold m37c
    rw [callX_ok (ds := [histD os, verD w, tokL ls, .int 2]) (by simp) g]
    rfl
  | false =>
    refine ⟨.none, fun s0 s3 s4 s5 s6 s7 s8 => ?_⟩
    unfold m37c
    rw [callX_ex (ds := [histD os, verD w, d, .int 2]) (by simp) (send_bad F.len v hb)]
    rfl
theorem gives_d {os : List (List Str)} {names : List Str} {W d e : D} (F : Few os names) (v : VK d) (v2 : VK e) : ∃ x, Gives m37d (histD os) W d e (tokB os d && tokB os e) (if tokB os d = true then e else d) x := by
  cases hb : tokB os d with
  | true =>
    obtain ⟨ls, rfl, f⟩ := tokB_fit hb
    cases he : tokB os e with
    | true =>
      obtain ⟨ks, rfl, f2⟩ := tokB_fit he
      refine ⟨tokD os (uni os ls ++ uni os ks), fun s0 s3 s4 s5 s6 s7 s8 => ?_⟩
      unfold m37d
      rw [callX_ok (ds := [histD os, tokL ls, tokL ks]) (by simp) (merge_spec F f f2)]
      rfl
    | false =>
      refine ⟨.none, fun s0 s3 s4 s5 s6 s7 s8 => ?_⟩
      unfold m37d
      rw [callX_ex (ds := [histD os, tokL ls, e]) (by simp) (merge_bad2 F f v2 he)]
      rfl
  | false =>
    refine ⟨.none, fun s0 s3 s4 s5 s6 s7 s8 => ?_⟩
    unfold m37d
    rw [callX_ex (ds := [histD os, d, e]) (by simp) (merge_bad1 F.len v hb)]
    rfl
/-- what _law_caught tells -/
def toldD (b : Bool) (d x : D) : D := if b = true then .tuple [.str "value", x] else .tuple [.str "error", d]
theorem caught_eq (f : Addr) (b : Bool) (d x : D) : F__law_caught f (told b d x) = some (toldD b d x) := by
  have l1 : List.lookup (Str.ofString "BadToken") [(Str.ofString "BadToken", true)] = some true := by decide +kernel
  have m1 : (Str.ofString "BadToken") ∈ [Str.ofString "BadToken"] := List.mem_singleton.mpr rfl
  have s1 := short_ok (ds := [.str "value", x]) (by show 2 ≤ 1000; decide)
  have s2 := short_ok (ds := [.str "error", d]) (by show 2 ≤ 1000; decide)
  unfold F__law_caught thOf
  cases b with
  | true =>
    have e : b__law_caught f (.ok x []) (thS f :: List.replicate (2 - 1) .no) = .ok (.rt (.d (.tuple [.str "value", x]))) [thS f, .no] := by
      unfold b__law_caught
      show bSeq _ _ [thS f, .no] = _
      exact seq_one (by simp [thS, s1]) fun z => nomatch z
    show (match b__law_caught f (.ok x []) (thS f :: List.replicate (2 - 1) .no) with
      | .ok (.rt (.d x)) _ => some x
      | .ok .nx _ => some .none
      | _ => none) = _
    rw [e]
    rfl
  | false =>
    have e : b__law_caught f (.ex "BadToken" (errD "token" d) []) (thS f :: List.replicate (2 - 1) .no) = .ok (.rt (.d (.tuple [.str "error", d]))) [thS f, .exc "BadToken" "token" d] := by
      unfold b__law_caught
      show bSeq _ _ [thS f, .no] = _
      exact seq_one (by simp [thS, errD, l1, m1, s2]) fun z => nomatch z
    show (match b__law_caught f (.ex "BadToken" (errD "token" d) []) (thS f :: List.replicate (2 - 1) .no) with
      | .ok (.rt (.d x)) _ => some x
      | .ok .nx _ => some .none
      | _ => none) = _
    rw [e]
    rfl
theorem lamV_eq {G : Addr → Rt D → Option D} {j : Nat} {f : Addr} {m : Mo R} {ρ : Ev} {x : D} (hj : ρ[j]? = some (thS f)) (h : ∀ f, G f (toTh (m (datS ρ))) = some x) : eLamV G j f m ρ = .ok (.d x) ρ := by
  unfold eLamV
  rw [hj]
  show (if ("" : Str) = "" ∧ ((f : Nat) : Int) = ((f : Nat) : Int) then _ else _) = _
  rw [if_pos ⟨rfl, rfl⟩]
  have hx : ∃ x, ∀ f, G f (toTh (m (datS ρ))) = some x := ⟨x, h⟩
  rw [dif_pos hx]
  have e := hx.choose_spec 0
  rw [h 0] at e
  rw [← Option.some.inj e]
end Z
namespace Z
open PySem PySem.Spec PyProof.Rows L2 Gd Q
/-! ### the law's look at two values -/
theorem eq_sS (a b : Str) : eqF (.str a) (.str b) = some (.bool (a == b)) := eq_strs a b
theorem ne_bb (a b : Bool) : neF (.bool a) (.bool b) = some (.bool (!(a == b))) := by cases a <;> cases b <;> rfl
theorem ne_sS (a b : Str) : neF (.str a) (.str b) = some (.bool (!(a == b))) := by
  have := eq_strs a b
  unfold eqF at this
  unfold neF
  cases h : (eqD (PyData.str a) (PyData.str b)).or (twoS (PyData.str a) (PyData.str b)) with
  | none =>
    rw [h] at this
    cases this
  | some r =>
    rw [h] at this
    have e : r = (a == b) := by
      have := Option.some.inj this
      injection this
    rw [e]
    rfl
noncomputable def turnB (r : LamR) : Mo Out := (bSeq (bSet 6 (eLamV F__law_caught 5 r.f r.m)) (bSeq (bIf (bOr (asB (e2 neF (eCall F__law_is_token (eCons (eVar 1) (eCons (eVar 9) eNil))) (e2 eqF (e2 ixD (eVar 6) (eC (.int 0))) (eC (.str "value"))))) (asB (e2 eqF (e2 ixD (eVar 6) (eC (.int 0))) (eC (.str "other"))))) (bSeq (bRet (eC (.bool false))) bNil) bNil) (bSeq (bIf (bAnd (asB (e2 eqF (e2 ixD (eVar 6) (eC (.int 0))) (eC (.str "error")))) (asB (e2 neF (eN reprF (eCons (e2 ixD (eVar 6) (eC (.int 1))) eNil)) (eN reprF (eCons (eVar 9) eNil))))) (bSeq (bRet (eC (.bool false))) bNil) bNil) bNil)))
theorem sVV : (Str.ofString "value" == Str.ofString "value") = true := by decide +kernel
theorem sVO : (Str.ofString "value" == Str.ofString "other") = false := by decide +kernel
theorem sVE : (Str.ofString "value" == Str.ofString "error") = false := by decide +kernel
theorem sEV : (Str.ofString "error" == Str.ofString "value") = false := by decide +kernel
theorem sEO : (Str.ofString "error" == Str.ofString "other") = false := by decide +kernel
theorem sEE : (Str.ofString "error" == Str.ofString "error") = true := by decide +kernel
theorem turn_ok {os : List (List Str)} {W one other x : D} {b3 : D} {s0 s6 s7 s8 : Sl} {r : LamR} (v : VK one) (h : Gives r.m (histD os) W one other (tokB os one) one x) :
    turnB r [s0, .dat (histD os), .dat W, .dat b3, .no, thS r.f, s6, s7, s8, .dat one, .dat other] = .ok .nx [s0, .dat (histD os), .dat W, .dat b3, .no, thS r.f, .dat (toldD (tokB os one) one x), s7, s8, .dat one, .dat other] := by
  have lt := lawtok_any (os := os) v.pl v.ld
  have lam := lamV_eq (G := F__law_caught) (j := 5) (f := r.f) (m := r.m) (ρ := [s0, .dat (histD os), .dat W, .dat b3, .no, thS r.f, s6, s7, s8, .dat one, .dat other]) (x := toldD (tokB os one) one x) rfl fun f => by
    have e : toTh (r.m (datS [s0, .dat (histD os), .dat W, .dat b3, .no, thS r.f, s6, s7, s8, .dat one, .dat other])) = told (tokB os one) one x := h _ _ _ _ _ _ _
    rw [e]
    exact caught_eq f _ _ _
  have rp := v.sh.repr (by decide) (by decide)
  unfold turnB
  refine seq_nx (ρ1 := [s0, .dat (histD os), .dat W, .dat b3, .no, thS r.f, .dat (toldD (tokB os one) one x), s7, s8, .dat one, .dat other]) (by
    generalize eLamV F__law_caught 5 r.f r.m = LM at *
    generalize histD os = O at *
    simp [lam]) ?_
  clear lam h
  generalize thS r.f = TS at *
  generalize histD os = O at *
  cases hb : tokB os one with
  | true =>
    rw [hb] at lt
    have q0 : ixD (.tuple [.str "value", x]) (.int 0) = some (.str "value") := rfl
    have q1 := eq_sS "value" "value"
    have q2 := eq_sS "value" "other"
    have q3 := eq_sS "value" "error"
    have q4 := ne_bb true true
    have sVV := sVV
    have sVO := sVO
    have sVE := sVE
    have td : toldD true one x = .tuple [.str "value", x] := rfl
    rw [td]
    rw [sVV] at q1
    rw [sVO] at q2
    rw [sVE] at q3
    generalize PyData.tuple [.str "value", x] = T at *
    refine seq_nx (if_f (by simp [-Q.ixD, lt, q0, q1, q2, q4]) rfl) (seq_nx (if_f (by simp [-Q.ixD, q0, q3]) rfl) rfl)
  | false =>
    rw [hb] at lt
    have q0 : ixD (.tuple [.str "error", one]) (.int 0) = some (.str "error") := rfl
    have q5 : ixD (.tuple [.str "error", one]) (.int 1) = some one := rfl
    have q1 := eq_sS "error" "value"
    have q2 := eq_sS "error" "other"
    have q3 := eq_sS "error" "error"
    have q4 := ne_bb false false
    have q6 := ne_sS one.shown one.shown
    rw [beq_self_eq_true] at q6
    rw [sEV] at q1
    rw [sEO] at q2
    rw [sEE] at q3
    have td : toldD false one x = .tuple [.str "error", one] := rfl
    rw [td]
    generalize PyData.tuple [.str "error", one] = T at *
    generalize one.shown = SH at *
    refine seq_nx (if_f (by simp [-Q.ixD, lt, q0, q1, q2, q4]) rfl) (seq_nx (if_f (by simp [-Q.ixD, q0, q3, q5, rp, q6]) rfl) rfl)
def badL (os : List (List Str)) (one other : D) : List D := (if tokB os one = true then [] else [one]) ++ if tokB os other = true then [] else [other]
noncomputable def extB37 : Mo Out := (bSeq (bEx (eExt 7 (eLock (fIf (bNot (asB (eCall F__law_is_token (eCons (eVar 1) (eCons (eVar 8) eNil))))) (fLst (eCons (eVar 8) eNil)) (fLst eNil))))) bNil)
theorem ext_step37 {os : List (List Str)} {d : D} {acc : List D} {s0 s2 s3 s4 s5 s6 s9 s10 : Sl} (v : VK d) (la : acc.length ≤ 10) :
    extB37 [s0, .dat (histD os), s2, s3, s4, s5, s6, .own (.lst acc), .dat d, s9, s10] = .ok .nx [s0, .dat (histD os), s2, s3, s4, s5, s6, .own (.lst (acc ++ if tokB os d = true then [] else [d])), .dat d, s9, s10] := by
  have lt := lawtok_any (os := os) v.pl v.ld
  have l1 : acc.length + 1 ≤ sizeLine := sz1000 (by omega)
  have l0 : acc.length ≤ sizeLine := sz1000 (by omega)
  have s1 := short_ok (ds := [d]) (by show 1 ≤ 1000; decide)
  have s0' := short_ok (ds := ([] : List D)) (by decide)
  unfold extB37
  generalize histD os = O at *
  cases hb : tokB os d with
  | true =>
    rw [hb] at lt
    exact seq_nx (by simp [lt, l0, s0', s1]) rfl
  | false =>
    rw [hb] at lt
    exact seq_nx (by simp [lt, l1, s0', s1]) rfl
end Z
namespace Z
open PySem PySem.Spec PyProof.Rows L2 Gd Q
noncomputable def restB37 : Mo Out := (bSeq (bPar 6 7 (.dd (eLam F__law_caught m37d)) (.ff (fLst eNil))) (bSeq (bFor (iSeq (eTup (eCons (eVar 9) (eCons (eVar 10) eNil)))) (gN 8) extB37) (bSeq (bIf (bOr (asB (e2 neF (e2 eqF (e2 ixD (eVar 6) (eC (.int 0))) (eC (.str "value"))) (e2 eqEmL (eVar 7) (eLock (fLst eNil))))) (bAnd (asB (e2 eqF (e2 ixD (eVar 6) (eC (.int 0))) (eC (.str "error")))) (asB (e2 neF (eN reprF (eCons (e2 ixD (eVar 6) (eC (.int 1))) eNil)) (eN reprF (eCons (e2 ixD (eVar 7) (eC (.int 0))) eNil)))))) (bSeq (bRet (eC (.bool false))) bNil) bNil) (bSeq (bRet (eAnd (e2 neF (e2 ixD (eVar 6) (eC (.int 0))) (eC (.str "other"))) (e2 eqF (eN reprF (eCons (eTup (eCons (eVar 1) (eCons (eVar 9) (eCons (eVar 10) eNil)))) eNil)) (eVar 3)))) bNil))))
theorem right_eq37 : b__law_right = (bSeq (bAsg (eTup (eCons (eCall F__law_odd (eCons (eVar 0) (eCons (eVar 1) eNil))) (eCons (eCall F__law_odd (eCons (eVar 0) (eCons (eVar 1) eNil))) eNil))) (gT 2 (gsCons (gN 9) (gsCons (gN 10) gsNil)))) (bSeq (bSet 3 (eN reprF (eCons (eTup (eCons (eVar 1) (eCons (eVar 9) (eCons (eVar 10) eNil)))) eNil))) (bLams3 4 5 turnB m37a m37b m37c restB37))) := rfl
theorem bad_first {os : List (List Str)} {one other : D} (h : (tokB os one && tokB os other) = false) : ∃ r, badL os one other = (if tokB os one = true then other else one) :: r := by
  unfold badL
  cases h1 : tokB os one with
  | true =>
    rw [h1, Bool.true_and] at h
    rw [h]
    exact ⟨[], rfl⟩
  | false => exact ⟨_, rfl⟩
theorem bad_none {os : List (List Str)} {one other : D} (h : (tokB os one && tokB os other) = true) : badL os one other = [] := by
  rw [Bool.and_eq_true] at h
  unfold badL
  rw [if_pos h.1, if_pos h.2]
  rfl
theorem rest_spec {os : List (List Str)} {W one other x : D} {bf : Str} {s0 s6 s7 s8 : Sl} (v : VK one) (v2 : VK other) (h : Gives m37d (histD os) W one other (tokB os one && tokB os other) (if tokB os one = true then other else one) x)
    (hr : reprF [.tuple [histD os, one, other]] = some (.str bf)) :
    ∃ t8, restB37 [s0, .dat (histD os), .dat W, .dat (.str bf), .no, .no, s6, s7, s8, .dat one, .dat other] = .ok (.rt (.d (.bool true))) [s0, .dat (histD os), .dat W, .dat (.str bf), .no, .no, .dat (toldD (tokB os one && tokB os other) (if tokB os one = true then other else one) x), .own (.lst (badL os one other)), t8, .dat one, .dat other] := by
  have lam := eLam_eq (G := F__law_caught) (m := m37d) (ρ := [s0, .dat (histD os), .dat W, .dat (.str bf), .no, .no, s6, s7, s8, .dat one, .dat other]) (x := toldD (tokB os one && tokB os other) (if tokB os one = true then other else one) x) fun f => by
    have e : toTh (m37d (datS [s0, .dat (histD os), .dat W, .dat (.str bf), .no, .no, s6, s7, s8, .dat one, .dat other])) = told (tokB os one && tokB os other) (if tokB os one = true then other else one) x := h _ _ _ _ _ _ _
    rw [e]
    exact caught_eq f _ _ _
  have vb : VK (if tokB os one = true then other else one) := by
    split
    · exact v2
    · exact v
  have rp := vb.sh.repr (by decide) (by decide)
  have fi := fun (b : D) (c : D) => bad_first (os := os) (one := b) (other := c)
  have lo : ∀ s8' : Sl, ∃ t8, loopD (gN 8) extB37 [one, other] [s0, .dat (histD os), .dat W, .dat (.str bf), .no, .no, .dat (toldD (tokB os one && tokB os other) (if tokB os one = true then other else one) x), .own (.lst []), s8', .dat one, .dat other] = .ok .nx [s0, .dat (histD os), .dat W, .dat (.str bf), .no, .no, .dat (toldD (tokB os one && tokB os other) (if tokB os one = true then other else one) x), .own (.lst (badL os one other)), t8, .dat one, .dat other] := fun s8' => by
    have a1 := ext_step37 (os := os) (d := one) (acc := []) (s0 := s0) (s2 := .dat W) (s3 := .dat (.str bf)) (s4 := .no) (s5 := .no) (s6 := .dat (toldD (tokB os one && tokB os other) (if tokB os one = true then other else one) x)) (s9 := .dat one) (s10 := .dat other) v (by decide)
    have a2 := ext_step37 (os := os) (d := other) (acc := [] ++ if tokB os one = true then [] else [one]) (s0 := s0) (s2 := .dat W) (s3 := .dat (.str bf)) (s4 := .no) (s5 := .no) (s6 := .dat (toldD (tokB os one && tokB os other) (if tokB os one = true then other else one) x)) (s9 := .dat one) (s10 := .dat other) v2 (by split <;> simp)
    refine ⟨.dat other, ?_⟩
    refine loop_cons (ρ1 := [s0, .dat (histD os), .dat W, .dat (.str bf), .no, .no, _, .own (.lst []), .dat one, .dat one, .dat other]) rfl a1 ?_
    refine loop_cons (ρ1 := [s0, .dat (histD os), .dat W, .dat (.str bf), .no, .no, _, .own (.lst ([] ++ if tokB os one = true then [] else [one])), .dat other, .dat one, .dat other]) rfl a2 ?_
    rfl
  obtain ⟨t8, lo⟩ := lo s8
  refine ⟨t8, ?_⟩
  have sh2 := short_ok (ds := [one, other]) (by show 2 ≤ 1000; decide)
  have sh3 := short_ok (ds := [histD os, one, other]) (by show 3 ≤ 1000; decide)
  have sh0 := short_ok (ds := ([] : List D)) (by decide)
  have bf1 := eq_sS bf bf
  rw [beq_self_eq_true] at bf1
  unfold restB37
  refine seq_nx (ρ1 := [s0, .dat (histD os), .dat W, .dat (.str bf), .no, .no, .dat (toldD (tokB os one && tokB os other) (if tokB os one = true then other else one) x), .own (.lst []), s8, .dat one, .dat other]) (by
    clear lo rp vb h fi
    generalize toldD (tokB os one && tokB os other) (if tokB os one = true then other else one) x = TD at *
    generalize eLam F__law_caught m37d = LM at *
    generalize histD os = O at *
    simp [lam, sh0]) ?_
  refine seq_nx (for_eq (ds := [one, other]) (ρ1 := [s0, .dat (histD os), .dat W, .dat (.str bf), .no, .no, .dat (toldD (tokB os one && tokB os other) (if tokB os one = true then other else one) x), .own (.lst []), s8, .dat one, .dat other]) (by
    clear lo rp vb h fi lam
    generalize toldD (tokB os one && tokB os other) (if tokB os one = true then other else one) x = TD at *
    generalize histD os = O at *
    simp [sh2]) lo) ?_
  clear lo lam h v v2 vb
  cases hb : tokB os one && tokB os other with
  | true =>
    rw [bad_none hb]
    have td : toldD true (if tokB os one = true then other else one) x = .tuple [.str "value", x] := rfl
    rw [td]
    have q0 : ixD (.tuple [.str "value", x]) (.int 0) = some (.str "value") := rfl
    have q1 := eq_sS "value" "value"
    have q2 := ne_sS "value" "other"
    have q3 := eq_sS "value" "error"
    have q4 := ne_bb true true
    rw [sVV] at q1
    rw [sVO] at q2
    rw [sVE] at q3
    have q5 : eqEmL (.list []) (.list []) = some (.bool true) := rfl
    generalize PyData.tuple [.str "value", x] = T at *
    generalize hO : histD os = O at *
    refine seq_nx (if_f (by simp [-Q.ixD, q0, q1, q4, q5, q3, sh0]) rfl) (seq_one (by simp [-Q.ixD, q0, q2, sh3, hr, bf1]) fun z => nomatch z)
  | false =>
    obtain ⟨r, er⟩ := fi one other hb
    rw [er]
    generalize (if tokB os one = true then other else one) = BD at *
    have td : toldD false BD x = .tuple [.str "error", BD] := rfl
    rw [td]
    have q0 : ixD (.tuple [.str "error", BD]) (.int 0) = some (.str "error") := rfl
    have q6 : ixD (.tuple [.str "error", BD]) (.int 1) = some BD := rfl
    have q7 : ixD (.list (BD :: r)) (.int 0) = some BD := by
      exact atI_nat (xs := BD :: r) rfl
    have q1 := eq_sS "error" "value"
    have q2 := ne_sS "error" "other"
    have q3 := eq_sS "error" "error"
    have q4 := ne_bb false false
    have q8 := ne_sS BD.shown BD.shown
    rw [beq_self_eq_true] at q8
    rw [sEV] at q1
    rw [sEO] at q2
    rw [sEE] at q3
    have q5 : eqEmL (.list (BD :: r)) (.list []) = some (.bool false) := rfl
    generalize PyData.tuple [.str "error", BD] = T at *
    generalize BD.shown = SH at *
    generalize hO : histD os = O at *
    refine seq_nx (if_f (by simp [-Q.ixD, q0, q1, q4, q5, q3, q6, q7, q8, rp, sh0]) rfl) (seq_one (by simp [-Q.ixD, q0, q2, sh3, hr, bf1]) fun z => nomatch z)
theorem right_spec {os : List (List Str)} {names w : List Str} {h : List D} {n : Nat} (F : Few os names) (l10 : os.length ≤ 10) (hw : Rows w) (nw : w.Nodup) (lw : w.length ≤ 24) (hk : HandOk h n) (hn : n + 1000 < 800000) :
    ∃ h', F__law_right [.own (.lst h), .dat (histD os), .dat (verD w)] = .ok (.dat (.bool true)) [.own (.lst h'), .dat (histD os), .dat (verD w)] ∧ HandOk h' (n + 400) := by
  obtain ⟨one, h1, g1, v1, hk1⟩ := odd_spec F l10 hk (by omega)
  obtain ⟨other, h2, g2, v2, hk2⟩ := odd_spec F l10 hk1 (by omega)
  obtain ⟨xa, ga⟩ := gives_a (W := verD w) (e := other) F v1
  obtain ⟨xb, gb⟩ := gives_b (W := verD w) (e := other) F v1
  obtain ⟨xc, gc⟩ := gives_c (e := other) F v1 hw nw lw
  obtain ⟨xd, gd⟩ := gives_d (W := verD w) F v1 v2
  have so : ShF 101053 8 (histD os) := by
    have a : ShF ((2019 + 2) * 50 + 3) (1 + 1) (histD os) := ShF.tup (m := 50) (fun d hd => by
      obtain ⟨o, ho, rfl⟩ := List.mem_map.mp hd
      have := Sh.ver (F.rows o ho) (F.olen ho)
      exact ⟨this.s, okDs_ver o, this.k, this.l⟩) (by rw [List.length_map]; omega)
    exact a.up (by decide) (by decide)
  have rp : reprF [.tuple [histD os, one, other]] = some (.str (PyData.tuple [histD os, one, other]).shown) := by
    refine (ShF.tup (B := 101053) (k := 8) (m := 3) (ds := [histD os, one, other]) (fun d hd => ?_) (Nat.le_refl _)).repr (by decide) (by decide)
    rcases List.mem_cons.mp hd with rfl | hd
    · exact so
    rcases List.mem_cons.mp hd with rfl | hd
    · exact v1.sh.up (by decide) (by decide)
    · rw [List.mem_singleton.mp hd]
      exact v2.sh.up (by decide) (by decide)
  refine ⟨h2, ?_, hk2.up (by omega)⟩
  generalize (PyData.tuple [histD os, one, other]).shown = bf at *
  have sh2 := short_ok (ds := [one, other]) (by show 2 ≤ 1000; decide)
  have sh3 := short_ok (ds := [histD os, one, other]) (by show 3 ≤ 1000; decide)
  have L := lams3_nx (c := 4) (j := 5) (b := turnB) (m1 := m37a) (m2 := m37b) (m3 := m37c) (ρ := [.own (.lst h2), .dat (histD os), .dat (verD w), .dat (.str bf), .no, .no, .no, .no, .no, .dat one, .dat other])
    (ρ1 := [.own (.lst h2), .dat (histD os), .dat (verD w), .dat (.str bf), .no, .no, .dat (toldD (tokB os one) one xa), .no, .no, .dat one, .dat other])
    (ρ2 := [.own (.lst h2), .dat (histD os), .dat (verD w), .dat (.str bf), .no, .no, .dat (toldD (tokB os one) one xb), .no, .no, .dat one, .dat other])
    (ρ3 := [.own (.lst h2), .dat (histD os), .dat (verD w), .dat (.str bf), .no, .no, .dat (toldD (tokB os one) one xc), .no, .no, .dat one, .dat other])
    (by simp) (by simp) (by simp) (by simp) (by simp)
    (fun r e => turn_ok v1 (by rw [e]; exact ga)) (fun r e => turn_ok v1 (by rw [e]; exact gb)) (fun r e => turn_ok v1 (by rw [e]; exact gc))
  obtain ⟨t8, re⟩ := rest_spec (s0 := .own (.lst h2)) (W := verD w) (s6 := .dat (toldD (tokB os one) one xc)) (s7 := .no) (s8 := .no) v1 v2 gd rp
  have bl := bLams3_eq (rm := restB37) ⟨.none, none, .plain, #[]⟩ L
  refine fn_run (n := 3) (N := 11) (b := b__law_right) (o := .rt (.d (.bool true))) (ρ := [.own (.lst h2), .dat (histD os), .dat (verD w), .dat (.str bf), .no, .no, .dat (toldD (tokB os one && tokB os other) (if tokB os one = true then other else one) xd), .own (.lst (badL os one other)), t8, .dat one, .dat other]) rfl ?_ (fin_rt rfl)
  show b__law_right [.own (.lst h), .dat (histD os), .dat (verD w), .no, .no, .no, .no, .no, .no, .no, .no] = _
  rw [right_eq37]
  have bl2 : bLams3 4 5 turnB m37a m37b m37c restB37 [.own (.lst h2), .dat (histD os), .dat (verD w), .dat (.str bf), .no, .no, .no, .no, .no, .dat one, .dat other] = restB37 [.own (.lst h2), .dat (histD os), .dat (verD w), .dat (.str bf), .no, .no, .dat (toldD (tokB os one) one xc), .no, .no, .dat one, .dat other] := bl
  rw [re] at bl2
  clear bl re L ga gb gc gd so
  generalize bLams3 4 5 turnB m37a m37b m37c restB37 = BL at *
  generalize toldD (tokB os one && tokB os other) (if tokB os one = true then other else one) xd = TD at *
  generalize badL os one other = BD at *
  generalize histD os = O at *
  generalize verD w = W at *
  refine seq_nx (ρ1 := [.own (.lst h2), .dat O, .dat W, .no, .no, .no, .no, .no, .no, .dat one, .dat other]) (by simp [g1, g2, sh2]) ?_
  refine seq_nx (ρ1 := [.own (.lst h2), .dat O, .dat W, .dat (.str bf), .no, .no, .no, .no, .no, .dat one, .dat other]) (by simp [sh3, rp]) ?_
  exact bl2
end Z
namespace Z
open PySem PySem.Spec PyProof.Rows L2 Gd Q
noncomputable def inB37 : Mo Out := (bSeq (bSet 4 (eLock (fCall F__law_names (eCons (eVar 2) (eCons (e2 addD (eC (.int 1)) (eCall F__law_take (eCons (eVar 2) (eCons (eC (.int 5)) eNil)))) eNil))))) (bSeq (bSet 5 (eN tupleD (eCons (eLock (fCall F__law_shuffled (eCons (eVar 2) (eCons (eVar 4) eNil)))) eNil))) (bSeq (bIf (bNot (asB (eCall F__law_right (eCons (eVar 2) (eCons (e2 addD (eCall F__law_orders (eCons (eVar 2) (eCons (eC (.int 3)) (eCons (eVar 4) eNil)))) (eTup (eCons (eVar 5) eNil))) (eCons (eVar 5) eNil)))))) (bSeq (bRet (eC (.bool false))) bNil) bNil) bNil)))
noncomputable def cellB37 : Mo Out := (bSeq (bSetF 2 (fCall F__law_hand (eCons (eVar 0) (eCons (eVar 1) eNil)))) (bSeq (bFor (iN range1D (eCons (eC (.int 24)) eNil)) (gN 3) inB37) bNil))
theorem law_eq37 : b_law = (bSeq (bFor (iN range1D (eCons (eN max2D (eCons (eC (.int 1)) (eCons (eN min2D (eCons (eC (.int 3)) (eCons (eN lenD (eCons (eVar 0) eNil)) eNil))) eNil))) eNil)) (gN 1) cellB37) (bSeq (bRet (eC (.bool true))) bNil)) := rfl
theorem in_loop37 {A B : Sl} : ∀ (ds : List D) (h : List D) (m : Nat) (s3 s4 s5 : Sl), HandOk h m → m + 3000 * ds.length + 4000 < 700000 →
    ∃ (h' : List D) (t3 t4 t5 : Sl), loopD (gN 3) inB37 ds [A, B, .own (.lst h), s3, s4, s5] = .ok .nx [A, B, .own (.lst h'), t3, t4, t5] ∧ HandOk h' (m + 3000 * ds.length)
  | [], h, m, s3, s4, s5, hk, _ => ⟨h, s3, s4, s5, rfl, hk⟩
  | d :: ds, h, m, s3, s4, s5, hk, hm => by
    rw [List.length_cons] at hm
    obtain ⟨c, h1, g1, c0, c1, hk1⟩ := take_spec hk (by omega) (m := 5) (by decide) (by decide)
    obtain ⟨c, rfl⟩ := Int.eq_ofNat_of_zero_le c0
    obtain ⟨N, h2, g2, lN, nN, rN, hk2, _⟩ := names_spec (c := 1 + c) hk1 (by omega) (by omega)
    have ad0 : addD (.int 1) (.int (c : Nat)) = some (.int ((1 + c : Nat) : Int)) := by
      show some (PyData.int (1 + ((c : Nat) : Int))) = _
      congr 2
    obtain ⟨o, h3, g3, po, hk3⟩ := shuffled_spec (it := .dat (.list (N.map PyData.str))) (Its.list (xs := N.map PyData.str)) rN hk2 (by omega) (by omega)
    obtain ⟨os, h4, g4, F, hk4, l3⟩ := orders_spec3 rN nN (by omega) hk3 (by omega)
    have ro : Rows o := fun z hz => rN z (po.mem_iff.mp hz)
    have no : o.Nodup := po.nodup_iff.mpr nN
    have lo : o.length = N.length := po.length_eq
    have F2 := few_more F ro no (fun z hz => po.mem_iff.mp hz) (by omega)
    obtain ⟨h5, g5, hk5⟩ := right_spec F2 (by rw [List.length_append, List.length_singleton]; omega) ro no (by omega) hk4 (by omega)
    have tv : tupleD [.list (o.map PyData.str)] = some (verD o) := rfl
    have sh1 := short_ok (ds := [verD o]) (by show 1 ≤ 1000; decide)
    have a1 : addD (histD os) (.tuple [verD o]) = some (histD (os ++ [o])) := by
      show (if (os.map verD).length + 1 ≤ sizeLine then some (PyData.tuple (os.map verD ++ [verD o])) else none) = _
      rw [if_pos (sz1000 (by rw [List.length_map]; omega))]
      show _ = some (PyData.tuple ((os ++ [o]).map verD))
      rw [List.map_append]
      rfl
    obtain ⟨h', t3, t4, t5, ih, hk'⟩ := in_loop37 (A := A) (B := B) ds h5 (m + 3000) (.dat d) (.dat (.list (N.map PyData.str))) (.dat (verD o)) (hk5.up (by omega)) (by omega)
    refine ⟨h', t3, t4, t5, loop_cons (ρ1 := [A, B, .own (.lst h), .dat d, s4, s5]) rfl ?_ ih, hk'.up (by rw [List.length_cons]; omega)⟩
    clear ih
    have g1 : F__law_take [.own (.lst h), .dat (.int 5)] = .ok (.dat (.int ((c : Nat) : Int))) [.own (.lst h1), .dat (.int 5)] := g1
    have g2 : F__law_names [.own (.lst h1), .dat (.int ((1 + c : Nat) : Int))] = .ok (.own (.lst (N.map .str))) [.own (.lst h2), .dat (.int ((1 + c : Nat) : Int))] := g2
    unfold inB37
    generalize histD (os ++ [o]) = O2 at *
    generalize histD os = O at *
    generalize ((1 + c : Nat) : Int) = C1 at *
    generalize ((c : Nat) : Int) = C0 at *
    generalize verD o = V at *
    generalize o.map PyData.str = OL at *
    generalize N.map PyData.str = NL at *
    refine seq_nx (ρ1 := [A, B, .own (.lst h2), .dat d, .dat (.list NL), s5]) (by simp [-Q.addD, g1, ad0, g2]) ?_
    refine seq_nx (ρ1 := [A, B, .own (.lst h3), .dat d, .dat (.list NL), .dat V]) (by simp [-Q.tupleD, g3, tv]) ?_
    exact seq_nx (if_ff (ρ1 := [A, B, .own (.lst h5), .dat d, .dat (.list NL), .dat V]) (by simp [-Q.addD, g4, sh1, a1, g5]) rfl) rfl
theorem outer37 {ns : List Int} : ∀ (ks : List Nat) (s1 s2 s3 s4 s5 : Sl), (∀ k ∈ ks, k ≤ 1000) →
    ∃ (t1 t2 t3 t4 t5 : Sl), loopD (gN 1) cellB37 (ks.map fun k => .int (k : Nat)) [.dat (scrD ns), s1, s2, s3, s4, s5] = .ok .nx [.dat (scrD ns), t1, t2, t3, t4, t5]
  | [], s1, s2, s3, s4, s5, _ => ⟨s1, s2, s3, s4, s5, rfl⟩
  | k :: ks, s1, s2, s3, s4, s5, hks => by
    obtain ⟨h, eh, hk0⟩ := hand_spec (ns := ns) (k := k) (hks k List.mem_cons_self)
    obtain ⟨h', u3, u4, u5, g, _⟩ := in_loop37 (A := .dat (scrD ns)) (B := .dat (.int (k : Nat))) ((List.range 24).map fun i => .int (i : Nat)) h 1 s3 s4 s5 (hk0.up (by decide)) (by decide)
    obtain ⟨t1, t2, t3, t4, t5, g2⟩ := outer37 (ns := ns) ks (.dat (.int (k : Nat))) (.own (.lst h')) u3 u4 u5 fun k hk => hks k (List.mem_cons_of_mem _ hk)
    refine ⟨t1, t2, t3, t4, t5, loop_cons (ρ1 := [.dat (scrD ns), .dat (.int (k : Nat)), s2, s3, s4, s5]) rfl ?_ g2⟩
    have r2 : range1D [.int 24] = some ((List.range 24).map fun i => .int (i : Nat)) := range1_eq (c := 24) (by decide)
    unfold cellB37
    generalize (List.range 24).map (fun i => PyData.int (i : Nat)) = RG at *
    generalize scrD ns = SC at *
    refine seq_nx (ρ1 := [.dat SC, .dat (.int (k : Nat)), .own (.lst h), s3, s4, s5]) (by simp [eh]) ?_
    exact seq_nx (for_eq (ds := RG) (ρ1 := [.dat SC, .dat (.int (k : Nat)), .own (.lst h), s3, s4, s5]) (by simp [r2]) g) rfl
theorem law_true {ns : List Int} (_ : ns.length ≤ 63) : F_law [.dat (scrD ns)] = .ok (.dat (.bool true)) [.dat (scrD ns)] := by
  have hc : ∃ c : Nat, c ≤ 3 ∧ (if (if (ns.length : Int) < 3 then (ns.length : Int) else 3) > 1 then (if (ns.length : Int) < 3 then (ns.length : Int) else 3) else 1) = (c : Int) := by
    by_cases a : (ns.length : Int) < 3
    · rw [if_pos a]
      by_cases b : (ns.length : Int) > 1
      · rw [if_pos b]
        exact ⟨ns.length, by omega, rfl⟩
      · rw [if_neg b]
        exact ⟨1, by decide, rfl⟩
    · rw [if_neg a]
      exact ⟨3, by decide, rfl⟩
  obtain ⟨c, lc, ec⟩ := hc
  obtain ⟨t1, t2, t3, t4, t5, e⟩ := outer37 (ns := ns) (List.range c) .no .no .no .no .no (fun k hk => by have := List.mem_range.mp hk; omega)
  refine fn_run (n := 1) (N := 6) (b := b_law) (ρ := [.dat (scrD ns), t1, t2, t3, t4, t5]) rfl ?_ (fin_rt rfl)
  rw [law_eq37]
  refine seq_nx (for_eq (ds := (List.range c).map fun i => .int (i : Nat)) ?_ e) (seq_one rfl (fun z => nomatch z))
  have r1 := range1_eq (c := c) (by omega)
  simp [scrD, ec, r1]
end Z
namespace Z
open PySem PySem.Spec PyProof.Rows L2 Gd Q
section
variable [Tbl] {P : Program} {w : World} {K : PySem.W.Frag} {mg : Str → Option Value} {base : Heap} {f__law_hand f__law_take f__law_pick f__law_names f__law_shuffled f__law_odd f__law_caught f_union_of f_is_integer_within f_is_token f_decode_token f_prefix_length f_encode_state f_normalize_token f_page_of f_send_page f__law_is_token f_merge_tokens f__law_right f__law_orders f_law c_PagesError c_BadToken i_BadToken : Addr} {e__law_hand e__law_take e__law_pick e__law_names e__law_shuffled e__law_odd e__law_caught e_union_of e_is_integer_within e_is_token e_decode_token e_prefix_length e_encode_state e_normalize_token e_page_of e_send_page e__law_is_token e_merge_tokens e__law_right e__law_orders e_law j_BadToken : FuncData}
theorem ok__law_hand (T : Txt0 K mg f__law_hand f__law_take f__law_pick f__law_names f__law_shuffled f__law_odd f__law_caught f_union_of f_is_integer_within f_is_token f_decode_token f_prefix_length f_encode_state f_normalize_token f_page_of f_send_page f__law_is_token f_merge_tokens f__law_right f__law_orders f_law c_PagesError c_BadToken i_BadToken e__law_hand e__law_take e__law_pick e__law_names e__law_shuffled e__law_odd e__law_caught e_union_of e_is_integer_within e_is_token e_decode_token e_prefix_length e_encode_state e_normalize_token e_page_of e_send_page e__law_is_token e_merge_tokens e__law_right e__law_orders e_law j_BadToken) : FnG P w K mg base 1 f__law_hand e__law_hand ["_law_script", "_law_k"] (spD K F__law_hand) := by
  exact okD T.d__law_hand sc__law_hand (by decide) fun cdv A outer s H E hc hg hr =>
      (xss_cons (xs_set (i := 2) (by decide) sc__law_hand.nd rfl (.inl rfl) (xd_if (xb_cmp o_lt q2 (xd_var (pv 1)) (xd_callB c_len (by rfl) T.m_len (by decide +kernel) (xa_cons (xd_var (pv 0)) xa_nil)) (nomark _)) (xd_ix (xd_var (pv 0)) (xd_var (pv 1)) (fun _ _ => rfl)) (xd_op o_add q2 (xd_op o_mulA q2 xd_int (xd_var (pv 1))) xd_int)))
      (xss_cons (xs_set (i := 3) (by decide) sc__law_hand.nd rfl (.inl rfl) (xd_op o_mulA q2 (xd_op o_mod q2 (xd_callB c_abs (by rfl) T.m_abs (by decide +kernel) (xa_cons (xd_var (pv 2)) xa_nil)) (xd_op o_mulA q2 (xd_op o_mulA q2 (xd_op o_mulA q2 (xd_op o_pow q2 xd_int xd_int) (xd_op o_pow q2 xd_int xd_int)) (xd_op o_pow q2 xd_int xd_int)) (xd_op o_pow q2 xd_int xd_int))) (xd_callT c_int (by rfl) T.m_int (by decide +kernel) (xa_cons (xd_cmp o_ge q2 (xd_callB c_abs (by rfl) T.m_abs (by decide +kernel) (xa_cons (xd_var (pv 2)) xa_nil)) (xd_op o_pow q2 xd_int xd_int) (nomark _)) xa_nil))))
      (xss_cons (xs_retF (xf_lst (xa_cons (xd_var (pv 3)) (xa_cons (xd_op o_mod q2 (xd_op o_mulA q2 (xd_op o_add q2 (xd_op o_add q2 (xd_op o_mod q2 (xd_var (pv 2)) xd_int) (xd_op o_mulA q2 (xd_op o_mulA q2 xd_int (xd_var (pv 1))) (xd_var (pv 1)))) xd_int) xd_int) xd_int) (xa_cons xd_int xa_nil)))))
      xss_nil)))
theorem ok__law_take (T : Txt0 K mg f__law_hand f__law_take f__law_pick f__law_names f__law_shuffled f__law_odd f__law_caught f_union_of f_is_integer_within f_is_token f_decode_token f_prefix_length f_encode_state f_normalize_token f_page_of f_send_page f__law_is_token f_merge_tokens f__law_right f__law_orders f_law c_PagesError c_BadToken i_BadToken e__law_hand e__law_take e__law_pick e__law_names e__law_shuffled e__law_odd e__law_caught e_union_of e_is_integer_within e_is_token e_decode_token e_prefix_length e_encode_state e_normalize_token e_page_of e_send_page e__law_is_token e_merge_tokens e__law_right e__law_orders e_law j_BadToken) : FnG P w K mg base 1 f__law_take e__law_take ["_law_hand_here", "_law_many"] (spD K F__law_take) := by
  exact okD T.d__law_take sc__law_take (by decide) fun cdv A outer s H E hc hg hr =>
      (xss_cons (xs_if (xb_cmp o_gt q2 (xd_ix (xd_var (pv 0)) xd_int (fun _ _ => rfl)) xd_int (nomark _)) (xss_cons (xs_set (i := 2) (by decide) sc__law_take.nd rfl (.inl rfl) (xd_op o_mod q2 (xd_ix (xd_var (pv 0)) xd_int (fun _ _ => rfl)) (xd_var (pv 1))))
      (xss_cons (xs_setix (pv 0) (xd_op o_fdiv q2 (xd_ix (xd_var (pv 0)) xd_int (fun _ _ => rfl)) (xd_var (pv 1))) xd_int)
      (xss_cons (xs_ret (xd_var (pv 2)))
      xss_nil))) xss_nil)
      (xss_cons (xs_setix (pv 0) (xd_op o_add q2 (xd_ix (xd_var (pv 0)) xd_int (fun _ _ => rfl)) xd_int) xd_int)
      (xss_cons (xs_set (i := 3) (by decide) sc__law_take.nd rfl (.inl rfl) (xd_ix (xd_var (pv 0)) xd_int (fun _ _ => rfl)))
      (xss_cons (xs_set (i := 4) (by decide) sc__law_take.nd rfl (.inl rfl) (xd_ix (xd_lock (xf_lst (xa_cons xd_int (xa_cons xd_int (xa_cons xd_int (xa_cons xd_int (xa_cons xd_int (xa_cons xd_int xa_nil)))))))) (xd_op o_mod q2 (xd_var (pv 3)) xd_int) (fun _ _ => rfl)))
      (xss_cons (xs_set (i := 5) (by decide) sc__law_take.nd rfl (.inl rfl) (xd_op o_mod q2 (xd_op o_pow q2 (xd_op o_add q2 (xd_op o_add q2 (xd_ix (xd_var (pv 0)) xd_int (fun _ _ => rfl)) (xd_op o_mulA q2 (xd_op o_mulA q2 xd_int (xd_var (pv 3))) (xd_var (pv 3)))) (xd_op o_mulA q2 xd_int (xd_var (pv 3)))) xd_int) (xd_var (pv 4))))
      (xss_cons (xs_ret (xd_op o_mod q2 (xd_op o_fdiv q2 (xd_op o_mod q2 (xd_op o_mulA q2 (xd_var (pv 5)) (xd_op o_add q2 (xd_op o_mod q2 (xd_var (pv 5)) xd_int) (xd_op o_mulA q2 xd_int (xd_var (pv 3))))) xd_int) xd_int) (xd_var (pv 1))))
      xss_nil))))))
theorem ok__law_caught (T : Txt0 K mg f__law_hand f__law_take f__law_pick f__law_names f__law_shuffled f__law_odd f__law_caught f_union_of f_is_integer_within f_is_token f_decode_token f_prefix_length f_encode_state f_normalize_token f_page_of f_send_page f__law_is_token f_merge_tokens f__law_right f__law_orders f_law c_PagesError c_BadToken i_BadToken e__law_hand e__law_take e__law_pick e__law_names e__law_shuffled e__law_odd e__law_caught e_union_of e_is_integer_within e_is_token e_decode_token e_prefix_length e_encode_state e_normalize_token e_page_of e_send_page e__law_is_token e_merge_tokens e__law_right e__law_orders e_law j_BadToken) : Gets P w K mg base 1 "_law_caught" s__law_caught f__law_caught n__law_caught "_law_call" b__law_caught := by
  refine ⟨@fun _ cdv A outer s H f_ r_ hg hr act => ?_⟩
  exact (xss_cons (xs_tryT (by decide) rfl rfl rfl sc__law_caught.nd rfl rfl ⟨by rfl, by decide, .inl T.g_BadToken⟩ (tab_cons (tab_ex T.x_BadToken T.e_BadToken_BadToken) tab_nil) (fun _ _ _ tk2 po2 =>
      (xss_cons (xs_ret (xd_tup (xa_cons xd_str (xa_cons (act _ _ _ _ _ tk2) xa_nil))))
      xss_nil)) (fun _ _ => (xss_cons (xs_ret (xd_tup (xa_cons xd_str (xa_cons (xd_fldX (fld_cons T.x_BadToken fld_nil) (pv 1)) xa_nil))))
      xss_nil)))
      xss_nil)
theorem ok_union_of (T : Txt0 K mg f__law_hand f__law_take f__law_pick f__law_names f__law_shuffled f__law_odd f__law_caught f_union_of f_is_integer_within f_is_token f_decode_token f_prefix_length f_encode_state f_normalize_token f_page_of f_send_page f__law_is_token f_merge_tokens f__law_right f__law_orders f_law c_PagesError c_BadToken i_BadToken e__law_hand e__law_take e__law_pick e__law_names e__law_shuffled e__law_odd e__law_caught e_union_of e_is_integer_within e_is_token e_decode_token e_prefix_length e_encode_state e_normalize_token e_page_of e_send_page e__law_is_token e_merge_tokens e__law_right e__law_orders e_law j_BadToken) : FnG P w K mg base 1 f_union_of e_union_of ["groups"] (spD K F_union_of) := by
  exact okD T.d_union_of sc_union_of (by decide) fun cdv A outer s H E hc hg hr =>
      (xss_cons (xs_ret (xd_callT c_tuple (by rfl) T.m_tuple (by decide +kernel) (xa_cons (xd_lock (xf_sortSc2 (own := [("rows", 1), ("row", 2)]) (vs := [1, 2]) (vs2 := [2]) rfl (by rfl) T.m_sorted sc_union_of.nd rfl (by decide) (by decide) (by decide) (by decide) (xi_seq (xd_var (pv 0))) (blkOk_by (own := [("rows", 1), ("row", 2)]) (N := n_union_of) (sc := defScope s_union_of) (by decide +kernel)) (fun _ _ _ _ _ => (xg_name (i := 1) (by decide) sc_union_of.nd rfl (by first | exact .inl rfl | exact .inr rfl))) (fun _ _ _ _ _ => (xi_seq (xd_var (pv 1)))) (fun _ _ _ _ _ => (xg_name (i := 2) (by decide) sc_union_of.nd rfl (by first | exact .inl rfl | exact .inr rfl))) (fun _ _ _ _ _ => (xd_var (pv 2))))) xa_nil)))
      xss_nil)
theorem ok_is_integer_within (T : Txt0 K mg f__law_hand f__law_take f__law_pick f__law_names f__law_shuffled f__law_odd f__law_caught f_union_of f_is_integer_within f_is_token f_decode_token f_prefix_length f_encode_state f_normalize_token f_page_of f_send_page f__law_is_token f_merge_tokens f__law_right f__law_orders f_law c_PagesError c_BadToken i_BadToken e__law_hand e__law_take e__law_pick e__law_names e__law_shuffled e__law_odd e__law_caught e_union_of e_is_integer_within e_is_token e_decode_token e_prefix_length e_encode_state e_normalize_token e_page_of e_send_page e__law_is_token e_merge_tokens e__law_right e__law_orders e_law j_BadToken) : FnG P w K mg base 1 f_is_integer_within e_is_integer_within ["value", "low", "high"] (spD K F_is_integer_within) := by
  exact okD T.d_is_integer_within sc_is_integer_within (by decide) fun cdv A outer s H E hc hg hr =>
      (xss_cons (xs_if (PW.pt (xw_or (xb_val (xd_isi (T := "bool") (by decide) (by rfl) T.m_isinstance (pe_bltn (v := .ty "bool") (by rfl) T.m_bool (by decide +kernel) rfl) (xd_var (pv 0)))) (xw_or1 (xb_not (xb_val (xd_isi (T := "int") (by decide) (by rfl) T.m_isinstance (pe_bltn (v := .ty "int") (by rfl) T.m_int (by decide +kernel) rfl) (xd_var (pv 0)))))))) (xss_cons (xs_ret xd_bl)
      xss_nil) xss_nil)
      (xss_cons (xs_ret (xd_chain o_le q2 o_le q2 (xd_var (pv 1)) (xd_var (pv 0)) (xd_var (pv 2))))
      xss_nil))
theorem ok_prefix_length (T : Txt0 K mg f__law_hand f__law_take f__law_pick f__law_names f__law_shuffled f__law_odd f__law_caught f_union_of f_is_integer_within f_is_token f_decode_token f_prefix_length f_encode_state f_normalize_token f_page_of f_send_page f__law_is_token f_merge_tokens f__law_right f__law_orders f_law c_PagesError c_BadToken i_BadToken e__law_hand e__law_take e__law_pick e__law_names e__law_shuffled e__law_odd e__law_caught e_union_of e_is_integer_within e_is_token e_decode_token e_prefix_length e_encode_state e_normalize_token e_page_of e_send_page e__law_is_token e_merge_tokens e__law_right e__law_orders e_law j_BadToken) : FnG P w K mg base 1 f_prefix_length e_prefix_length ["version", "live", "rows"] (spD K F_prefix_length) := by
  exact okD T.d_prefix_length sc_prefix_length (by decide) fun cdv A outer s H E hc hg hr =>
      (xss_cons (xs_for PassesOwn.never rfl (xi_enum (by rfl) T.m_enumerate (xa_cons (xd_var (pv 0)) xa_nil)) (xg_tup (by rfl) (xgs_cons (xg_name (i := 3) (by decide) sc_prefix_length.nd rfl (.inl rfl)) (xgs_cons (xg_name (i := 4) (by decide) sc_prefix_length.nd rfl (.inl rfl)) xgs_nil))) (xss_cons (xs_if (PW.pt (xw_and (xb_cmp (o_nin (units65 hr)) q2 (xd_var (pv 4)) (xd_var (pv 2)) (by rfl)) (xw_and1 (xb_cmp (o_in (units65 hr)) q2 (xd_var (pv 4)) (xd_var (pv 1)) (by rfl))))) (xss_cons (xs_ret (xd_var (pv 3)))
      xss_nil) xss_nil)
      xss_nil))
      (xss_cons (xs_ret (xd_callB c_len (by rfl) T.m_len (by decide +kernel) (xa_cons (xd_var (pv 0)) xa_nil)))
      xss_nil))
theorem ok_page_of (T : Txt0 K mg f__law_hand f__law_take f__law_pick f__law_names f__law_shuffled f__law_odd f__law_caught f_union_of f_is_integer_within f_is_token f_decode_token f_prefix_length f_encode_state f_normalize_token f_page_of f_send_page f__law_is_token f_merge_tokens f__law_right f__law_orders f_law c_PagesError c_BadToken i_BadToken e__law_hand e__law_take e__law_pick e__law_names e__law_shuffled e__law_odd e__law_caught e_union_of e_is_integer_within e_is_token e_decode_token e_prefix_length e_encode_state e_normalize_token e_page_of e_send_page e__law_is_token e_merge_tokens e__law_right e__law_orders e_law j_BadToken) : FnG P w K mg base 1 f_page_of e_page_of ["version", "sent", "count"] (spD K F_page_of) := by
  exact okD T.d_page_of sc_page_of (by decide) fun cdv A outer s H E hc hg hr =>
      (xss_cons (xs_setLcD (i := 3) (own := [("row", 4)]) (vs := [4]) (by decide) rfl rfl (sw_true rfl rfl rfl (by decide +kernel)) rfl sc_page_of.nd rfl (by decide) (by decide) (xi_seq (xd_var (pv 0))) (blkOk_by (own := [("row", 4)]) (N := n_page_of) (sc := defScope s_page_of) (by decide +kernel)) (fun _ _ _ _ _ => (xg_name (i := 4) (by decide) sc_page_of.nd rfl (by first | exact .inl rfl | exact .inr rfl))) (fun _ _ _ _ _ => (xts_one (xb_cmp (o_nin (units65 hr)) q2 (xd_var (pv 4)) (xd_var (pv 1)) (by rfl)))) (fun _ _ _ _ _ => (xd_var (pv 4))))
      (xss_cons (xs_ret (xd_callT c_tuple (by rfl) T.m_tuple (by decide +kernel) (xa_cons (xd_lock (xf_sl (xd_var (pv 3)) xp_no (xp_so (xd_var (pv 2))))) xa_nil)))
      xss_nil))
theorem ok__law_is_token (T : Txt0 K mg f__law_hand f__law_take f__law_pick f__law_names f__law_shuffled f__law_odd f__law_caught f_union_of f_is_integer_within f_is_token f_decode_token f_prefix_length f_encode_state f_normalize_token f_page_of f_send_page f__law_is_token f_merge_tokens f__law_right f__law_orders f_law c_PagesError c_BadToken i_BadToken e__law_hand e__law_take e__law_pick e__law_names e__law_shuffled e__law_odd e__law_caught e_union_of e_is_integer_within e_is_token e_decode_token e_prefix_length e_encode_state e_normalize_token e_page_of e_send_page e__law_is_token e_merge_tokens e__law_right e__law_orders e_law j_BadToken) : FnG P w K mg base 1 f__law_is_token e__law_is_token ["_law_orders_here", "_law_value"] (spD K F__law_is_token) := by
  exact okD T.d__law_is_token sc__law_is_token (by decide) fun cdv A outer s H E hc hg hr =>
      (xss_cons (xs_if (PW.pt (xw_or (xb_not (xb_val (xd_isi (T := "tuple") (by decide) (by rfl) T.m_isinstance (pe_bltn (v := .ty "tuple") (by rfl) T.m_tuple (by decide +kernel) rfl) (xd_var (pv 1))))) (xw_or1 (xb_cmp (o_ne hr.units) q2 (xd_callB c_len (by rfl) T.m_len (by decide +kernel) (xa_cons (xd_var (pv 1)) xa_nil)) (xd_callB c_len (by rfl) T.m_len (by decide +kernel) (xa_cons (xd_var (pv 0)) xa_nil)) (nomark _))))) (xss_cons (xs_ret xd_bl)
      xss_nil) xss_nil)
      (xss_cons (xs_for PassesOwn.never rfl (xi_zip (by rfl) T.m_zip (xa_cons (xd_var (pv 1)) (xa_cons (xd_var (pv 0)) xa_nil))) (xg_tup (by rfl) (xgs_cons (xg_name (i := 2) (by decide) sc__law_is_token.nd rfl (.inl rfl)) (xgs_cons (xg_name (i := 3) (by decide) sc__law_is_token.nd rfl (.inl rfl)) xgs_nil))) (xss_cons (xs_if (PW.pt (xw_or (xb_not (xb_val (xd_isi (T := "int") (by decide) (by rfl) T.m_isinstance (pe_bltn (v := .ty "int") (by rfl) T.m_int (by decide +kernel) rfl) (xd_var (pv 2))))) (xw_or (xb_val (xd_isi (T := "bool") (by decide) (by rfl) T.m_isinstance (pe_bltn (v := .ty "bool") (by rfl) T.m_bool (by decide +kernel) rfl) (xd_var (pv 2)))) (xw_or1 (xb_not (xb_chain o_le q2 o_le q2 xd_int (xd_var (pv 2)) (xd_callB c_len (by rfl) T.m_len (by decide +kernel) (xa_cons (xd_var (pv 3)) xa_nil)))))))) (xss_cons (xs_ret xd_bl)
      xss_nil) xss_nil)
      xss_nil))
      (xss_cons (xs_ret xd_bl)
      xss_nil)))
theorem ok__law_pick (T : Txt0 K mg f__law_hand f__law_take f__law_pick f__law_names f__law_shuffled f__law_odd f__law_caught f_union_of f_is_integer_within f_is_token f_decode_token f_prefix_length f_encode_state f_normalize_token f_page_of f_send_page f__law_is_token f_merge_tokens f__law_right f__law_orders f_law c_PagesError c_BadToken i_BadToken e__law_hand e__law_take e__law_pick e__law_names e__law_shuffled e__law_odd e__law_caught e_union_of e_is_integer_within e_is_token e_decode_token e_prefix_length e_encode_state e_normalize_token e_page_of e_send_page e__law_is_token e_merge_tokens e__law_right e__law_orders e_law j_BadToken) : FnG P w K mg base 2 f__law_pick e__law_pick ["_law_hand_here", "_law_items"] (spD K F__law_pick) := by
  have G__law_take := ok__law_take (P := P) (w := w) (base := base) T
  exact okD T.d__law_pick sc__law_pick (by decide) fun cdv A outer s H E hc hg hr =>
      (xss_cons (xs_ret (xd_ix (xd_var (pv 1)) (xd_call G__law_take hg (hr.mono (by decide)) (by rfl) T.g__law_take T.d__law_take.kp T.b__law_take (xa_cons (xd_var (pv 0)) (xa_cons (xd_callB c_len (by rfl) T.m_len (by decide +kernel) (xa_cons (xd_var (pv 1)) xa_nil)) xa_nil))) (fun _ _ => rfl)))
      xss_nil)
theorem ok__law_shuffled (T : Txt0 K mg f__law_hand f__law_take f__law_pick f__law_names f__law_shuffled f__law_odd f__law_caught f_union_of f_is_integer_within f_is_token f_decode_token f_prefix_length f_encode_state f_normalize_token f_page_of f_send_page f__law_is_token f_merge_tokens f__law_right f__law_orders f_law c_PagesError c_BadToken i_BadToken e__law_hand e__law_take e__law_pick e__law_names e__law_shuffled e__law_odd e__law_caught e_union_of e_is_integer_within e_is_token e_decode_token e_prefix_length e_encode_state e_normalize_token e_page_of e_send_page e__law_is_token e_merge_tokens e__law_right e__law_orders e_law j_BadToken) : FnG P w K mg base 2 f__law_shuffled e__law_shuffled ["_law_hand_here", "_law_items"] (spD K F__law_shuffled) := by
  have G__law_take := ok__law_take (P := P) (w := w) (base := base) T
  exact okD T.d__law_shuffled sc__law_shuffled (by decide) fun cdv A outer s H E hc hg hr =>
      (xss_cons (xs_par (i := 2) (j := 3) (ma := (.ff (fN listD (eCons (eVar 1) eNil)))) (mb := (.ff (fLst eNil))) (by decide) (by decide) rfl sc__law_shuffled.nd rfl rfl (by decide) rfl rfl (xf_callT c_list (by rfl) T.m_list (by decide +kernel) (xa_cons (xd_var (pv 1)) xa_nil)) (xf_lst xa_nil) (fun h => ps_par (by rfl) sc__law_shuffled.nd rfl rfl (by decide) rfl rfl h (by rfl)))
      (xss_cons (xs_while 1000 PassesOwn.never (xb_cmp (o_ne hr.units) q2 (xd_var (pv 2)) (xd_lock (xf_lst xa_nil)) (nomark _)) (xss_cons (xs_expr (xd_mut m_app PySem.F.slot_list_append PySem.F.type_list_append (pv 3) (xa_cons (xd_mut m_pop PySem.F.slot_list_pop PySem.F.type_list_pop (pv 2) (xa_cons (xd_call G__law_take hg (hr.mono (by decide)) (by rfl) T.g__law_take T.d__law_take.kp T.b__law_take (xa_cons (xd_var (pv 0)) (xa_cons (xd_callB c_len (by rfl) T.m_len (by decide +kernel) (xa_cons (xd_var (pv 2)) xa_nil)) xa_nil))) xa_nil)) xa_nil)))
      xss_nil))
      (xss_cons (xs_ret (xd_var (pv 3)))
      xss_nil)))
theorem ok_is_token (T : Txt0 K mg f__law_hand f__law_take f__law_pick f__law_names f__law_shuffled f__law_odd f__law_caught f_union_of f_is_integer_within f_is_token f_decode_token f_prefix_length f_encode_state f_normalize_token f_page_of f_send_page f__law_is_token f_merge_tokens f__law_right f__law_orders f_law c_PagesError c_BadToken i_BadToken e__law_hand e__law_take e__law_pick e__law_names e__law_shuffled e__law_odd e__law_caught e_union_of e_is_integer_within e_is_token e_decode_token e_prefix_length e_encode_state e_normalize_token e_page_of e_send_page e__law_is_token e_merge_tokens e__law_right e__law_orders e_law j_BadToken) : FnG P w K mg base 2 f_is_token e_is_token ["orders", "value"] (spD K F_is_token) := by
  have G_is_integer_within := ok_is_integer_within (P := P) (w := w) (base := base) T
  exact okD T.d_is_token sc_is_token (by decide) fun cdv A outer s H E hc hg hr =>
      (xss_cons (xs_if (PW.pt (xw_or (xb_not (xb_val (xd_isi (T := "tuple") (by decide) (by rfl) T.m_isinstance (pe_bltn (v := .ty "tuple") (by rfl) T.m_tuple (by decide +kernel) rfl) (xd_var (pv 1))))) (xw_or1 (xb_cmp (o_ne hr.units) q2 (xd_callB c_len (by rfl) T.m_len (by decide +kernel) (xa_cons (xd_var (pv 1)) xa_nil)) (xd_callB c_len (by rfl) T.m_len (by decide +kernel) (xa_cons (xd_var (pv 0)) xa_nil)) (nomark _))))) (xss_cons (xs_ret xd_bl)
      xss_nil) xss_nil)
      (xss_cons (xs_ret (xd_callB (c_all rfl) (by rfl) T.m_all (by decide +kernel) (xa_cons (xd_lock (xf_comp (own := [("order", 2), ("many", 3)]) (vs := [2, 3]) rfl sc_is_token.nd rfl (by decide) (by decide) (xi_zip (by rfl) T.m_zip (xa_cons (xd_var (pv 0)) (xa_cons (xd_var (pv 1)) xa_nil))) (blkOk_by (own := [("order", 2), ("many", 3)]) (N := n_is_token) (sc := defScope s_is_token) (by decide +kernel)) (fun _ _ _ _ _ => (xg_tup (by rfl) (xgs_cons (xg_name (i := 2) (by decide) sc_is_token.nd rfl (by first | exact .inl rfl | exact .inr rfl)) (xgs_cons (xg_name (i := 3) (by decide) sc_is_token.nd rfl (by first | exact .inl rfl | exact .inr rfl)) xgs_nil)))) (fun _ _ _ _ _ => xts_nil) (fun _ _ _ _ _ => (xd_call G_is_integer_within hg (hr.mono (by decide)) (by rfl) T.g_is_integer_within T.d_is_integer_within.kp T.b_is_integer_within (xa_cons (xd_var (pv 3)) (xa_cons xd_int (xa_cons (xd_callB c_len (by rfl) T.m_len (by decide +kernel) (xa_cons (xd_var (pv 2)) xa_nil)) xa_nil))))))) xa_nil)))
      xss_nil))
theorem ok_encode_state (T : Txt0 K mg f__law_hand f__law_take f__law_pick f__law_names f__law_shuffled f__law_odd f__law_caught f_union_of f_is_integer_within f_is_token f_decode_token f_prefix_length f_encode_state f_normalize_token f_page_of f_send_page f__law_is_token f_merge_tokens f__law_right f__law_orders f_law c_PagesError c_BadToken i_BadToken e__law_hand e__law_take e__law_pick e__law_names e__law_shuffled e__law_odd e__law_caught e_union_of e_is_integer_within e_is_token e_decode_token e_prefix_length e_encode_state e_normalize_token e_page_of e_send_page e__law_is_token e_merge_tokens e__law_right e__law_orders e_law j_BadToken) : FnG P w K mg base 2 f_encode_state e_encode_state ["orders", "rows"] (spD K F_encode_state) := by
  have G_prefix_length := ok_prefix_length (P := P) (w := w) (base := base) T
  exact okD T.d_encode_state sc_encode_state (by decide) fun cdv A outer s H E hc hg hr =>
      (xss_cons (xs_ret (xd_callT c_tuple (by rfl) T.m_tuple (by decide +kernel) (xa_cons (xd_lock (xf_comp (own := [("order", 2)]) (vs := [2]) rfl sc_encode_state.nd rfl (by decide) (by decide) (xi_seq (xd_var (pv 0))) (blkOk_by (own := [("order", 2)]) (N := n_encode_state) (sc := defScope s_encode_state) (by decide +kernel)) (fun _ _ _ _ _ => (xg_name (i := 2) (by decide) sc_encode_state.nd rfl (by first | exact .inl rfl | exact .inr rfl))) (fun _ _ _ _ _ => xts_nil) (fun _ _ _ _ _ => (xd_call G_prefix_length hg (hr.mono (by decide)) (by rfl) T.g_prefix_length T.d_prefix_length.kp T.b_prefix_length (xa_cons (xd_var (pv 2)) (xa_cons (xd_var (pv 2)) (xa_cons (xd_var (pv 1)) xa_nil))))))) xa_nil)))
      xss_nil)
theorem ok__law_names (T : Txt0 K mg f__law_hand f__law_take f__law_pick f__law_names f__law_shuffled f__law_odd f__law_caught f_union_of f_is_integer_within f_is_token f_decode_token f_prefix_length f_encode_state f_normalize_token f_page_of f_send_page f__law_is_token f_merge_tokens f__law_right f__law_orders f_law c_PagesError c_BadToken i_BadToken e__law_hand e__law_take e__law_pick e__law_names e__law_shuffled e__law_odd e__law_caught e_union_of e_is_integer_within e_is_token e_decode_token e_prefix_length e_encode_state e_normalize_token e_page_of e_send_page e__law_is_token e_merge_tokens e__law_right e__law_orders e_law j_BadToken) : FnG P w K mg base 3 f__law_names e__law_names ["_law_hand_here", "_law_count"] (spD K F__law_names) := by
  have G__law_take := ok__law_take (P := P) (w := w) (base := base) T
  have G__law_pick := ok__law_pick (P := P) (w := w) (base := base) T
  exact okD T.d__law_names sc__law_names (by decide) fun cdv A outer s H E hc hg hr =>
      (xss_cons (xs_set (i := 2) (by decide) sc__law_names.nd rfl (.inr rfl) xd_str)
      (xss_cons (xs_asg (xd_tup (xa_cons (xd_call G__law_take hg (hr.mono (by decide)) (by rfl) T.g__law_take T.d__law_take.kp T.b__law_take (xa_cons (xd_var (pv 0)) (xa_cons xd_int xa_nil))) (xa_cons (xd_call G__law_pick hg (hr.mono (by decide)) (by rfl) T.g__law_pick T.d__law_pick.kp T.b__law_pick (xa_cons (xd_var (pv 0)) (xa_cons (xd_lock (xf_lst (xa_cons xd_int (xa_cons xd_int (xa_cons xd_int (xa_cons xd_int (xa_cons xd_int (xa_cons xd_int (xa_cons xd_int xa_nil))))))))) xa_nil))) xa_nil))) (xg_tup (by rfl) (xgs_cons (xg_name (i := 3) (by decide) sc__law_names.nd rfl (.inr rfl)) (xgs_cons (xg_name (i := 4) (by decide) sc__law_names.nd rfl (.inr rfl)) xgs_nil))))
      (xss_cons (xs_set (i := 5) (by decide) sc__law_names.nd rfl (.inr rfl) (xd_op o_mulA q2 (xd_call G__law_pick hg (hr.mono (by decide)) (by rfl) T.g__law_pick T.d__law_pick.kp T.b__law_pick (xa_cons (xd_var (pv 0)) (xa_cons (xd_var (pv 2)) xa_nil))) (xd_call G__law_pick hg (hr.mono (by decide)) (by rfl) T.g__law_pick T.d__law_pick.kp T.b__law_pick (xa_cons (xd_var (pv 0)) (xa_cons (xd_lock (xf_lst (xa_cons xd_int (xa_cons xd_int (xa_cons xd_int (xa_cons xd_int (xa_cons xd_int xa_nil))))))) xa_nil)))))
      (xss_cons (xs_set (i := 6) (by decide) sc__law_names.nd rfl (.inr rfl) (xd_call G__law_take hg (hr.mono (by decide)) (by rfl) T.g__law_take T.d__law_take.kp T.b__law_take (xa_cons (xd_var (pv 0)) (xa_cons (xd_op o_add q2 (xd_callB c_len (by rfl) T.m_len (by decide +kernel) (xa_cons (xd_var (pv 5)) xa_nil)) xd_int) xa_nil))))
      (xss_cons (xs_retF (xf_comp (own := [("_law_nth", 7)]) (vs := [7]) rfl sc__law_names.nd rfl (by decide) (by decide) (xi_range1 (by rfl) T.m_range (xa_cons (xd_var (pv 1)) xa_nil)) (blkOk_by (own := [("_law_nth", 7)]) (N := n__law_names) (sc := defScope s__law_names) (by decide +kernel)) (fun _ _ _ _ _ => (xg_name (i := 7) (by decide) sc__law_names.nd rfl (by first | exact .inl rfl | exact .inr rfl))) (fun _ _ _ _ _ => xts_nil) (fun _ _ _ _ _ => (xd_op o_add q2 (xd_op o_add q2 (xd_sl (xd_var (pv 5)) xp_no (xp_so (xd_var (pv 6)))) (xd_ix (xd_var (pv 2)) (xd_op o_mod q2 (xd_op o_add q2 (xd_var (pv 3)) (xd_op o_mulA q2 (xd_var (pv 4)) (xd_var (pv 7)))) xd_int) (fun _ _ => rfl))) (xd_sl (xd_var (pv 5)) (xp_so (xd_var (pv 6))) xp_no)))))
      xss_nil)))))
theorem ok__law_odd (T : Txt0 K mg f__law_hand f__law_take f__law_pick f__law_names f__law_shuffled f__law_odd f__law_caught f_union_of f_is_integer_within f_is_token f_decode_token f_prefix_length f_encode_state f_normalize_token f_page_of f_send_page f__law_is_token f_merge_tokens f__law_right f__law_orders f_law c_PagesError c_BadToken i_BadToken e__law_hand e__law_take e__law_pick e__law_names e__law_shuffled e__law_odd e__law_caught e_union_of e_is_integer_within e_is_token e_decode_token e_prefix_length e_encode_state e_normalize_token e_page_of e_send_page e__law_is_token e_merge_tokens e__law_right e__law_orders e_law j_BadToken) : FnG P w K mg base 3 f__law_odd e__law_odd ["_law_hand_here", "_law_orders_here"] (spD K F__law_odd) := by
  have G__law_take := ok__law_take (P := P) (w := w) (base := base) T
  have G__law_pick := ok__law_pick (P := P) (w := w) (base := base) T
  exact okD T.d__law_odd sc__law_odd (by decide) fun cdv A outer s H E hc hg hr =>
      (xss_cons (xs_set (i := 2) (by decide) sc__law_odd.nd rfl (.inl rfl) (xd_callT c_tuple (by rfl) T.m_tuple (by decide +kernel) (xa_cons (xd_lock (xf_comp (own := [("_law_order", 6)]) (vs := [6]) rfl sc__law_odd.nd rfl (by decide) (by decide) (xi_seq (xd_var (pv 1))) (blkOk_by (own := [("_law_order", 6)]) (N := n__law_odd) (sc := defScope s__law_odd) (by decide +kernel)) (fun _ _ _ _ _ => (xg_name (i := 6) (by decide) sc__law_odd.nd rfl (by first | exact .inl rfl | exact .inr rfl))) (fun _ _ _ _ _ => xts_nil) (fun _ _ _ _ _ => (xd_call G__law_take hg (hr.mono (by decide)) (by rfl) T.g__law_take T.d__law_take.kp T.b__law_take (xa_cons (xd_var (pv 0)) (xa_cons (xd_op o_add q2 (xd_callB c_len (by rfl) T.m_len (by decide +kernel) (xa_cons (xd_var (pv 6)) xa_nil)) xd_int) xa_nil)))))) xa_nil)))
      (xss_cons (xs_set (i := 3) (by decide) sc__law_odd.nd rfl (.inl rfl) (xd_call G__law_take hg (hr.mono (by decide)) (by rfl) T.g__law_take T.d__law_take.kp T.b__law_take (xa_cons (xd_var (pv 0)) (xa_cons (xd_op o_add q2 (xd_callB c_len (by rfl) T.m_len (by decide +kernel) (xa_cons (xd_var (pv 2)) xa_nil)) xd_int) xa_nil))))
      (xss_cons (xs_set (i := 4) (by decide) sc__law_odd.nd rfl (.inl rfl) (xd_call G__law_pick hg (hr.mono (by decide)) (by rfl) T.g__law_pick T.d__law_pick.kp T.b__law_pick (xa_cons (xd_var (pv 0)) (xa_cons (xd_lock (xf_lst (xa_cons (xd_un o_neg q1 xd_int) (xa_cons xd_bl (xa_cons xd_bl (xa_cons xd_non (xa_cons xd_str (xa_cons (xd_tup (xa_cons xd_int xa_nil)) (xa_cons (xd_lock (xf_lst xa_nil)) (xa_cons (xd_op o_pow q2 xd_int xd_int) (xa_cons xd_int (xa_cons xd_int (xa_cons xd_int (xa_cons xd_int xa_nil)))))))))))))) xa_nil))))
      (xss_cons (xs_set (i := 5) (by decide) sc__law_odd.nd rfl (.inl rfl) (xd_lock (xf_lst (xa_cons (xd_var (pv 2)) (xa_cons (xd_var (pv 2)) (xa_cons (xd_lock (xf_callT c_list (by rfl) T.m_list (by decide +kernel) (xa_cons (xd_var (pv 2)) xa_nil))) (xa_cons (xd_op o_add q2 (xd_var (pv 2)) (xd_tup (xa_cons (xd_var (pv 4)) xa_nil))) (xa_cons (xd_sl (xd_var (pv 2)) (xp_so xd_int) xp_no) (xa_cons (xd_op o_add q2 (xd_op o_add q2 (xd_sl (xd_var (pv 2)) xp_no (xp_so (xd_var (pv 3)))) (xd_tup (xa_cons (xd_var (pv 4)) xa_nil))) (xd_sl (xd_var (pv 2)) (xp_so (xd_op o_add q2 (xd_var (pv 3)) xd_int)) xp_no)) (xa_cons (xd_tup (xa_cons (xd_var (pv 2)) xa_nil)) xa_nil))))))))))
      (xss_cons (xs_set (i := 5) (by decide) sc__law_odd.nd rfl (.inl rfl) (xd_lock (xf_cat (xd_var (pv 5)) (xd_lock (xf_lst (xa_cons (xd_op o_add q2 (xd_op o_add q2 (xd_sl (xd_var (pv 2)) xp_no (xp_so (xd_var (pv 3)))) (xd_tup (xa_cons (xd_var (pv 4)) xa_nil))) (xd_sl (xd_var (pv 2)) (xp_so (xd_var (pv 3))) xp_no)) (xa_cons xd_non (xa_cons xd_int (xa_cons xd_str (xa_cons (xd_tup xa_nil) (xa_cons (xd_lock (xf_lst xa_nil)) (xa_cons (xd_lock xf_newD) (xa_cons xd_bl (xa_cons (xd_lock (xf_disp1 xd_int (xd_var (pv 2)))) (xa_cons (xd_rev (xd_var (pv 2))) xa_nil)))))))))))))))
      (xss_cons (xs_ret (xd_call G__law_pick hg (hr.mono (by decide)) (by rfl) T.g__law_pick T.d__law_pick.kp T.b__law_pick (xa_cons (xd_var (pv 0)) (xa_cons (xd_var (pv 5)) xa_nil))))
      xss_nil))))))
theorem ok_decode_token (T : Txt0 K mg f__law_hand f__law_take f__law_pick f__law_names f__law_shuffled f__law_odd f__law_caught f_union_of f_is_integer_within f_is_token f_decode_token f_prefix_length f_encode_state f_normalize_token f_page_of f_send_page f__law_is_token f_merge_tokens f__law_right f__law_orders f_law c_PagesError c_BadToken i_BadToken e__law_hand e__law_take e__law_pick e__law_names e__law_shuffled e__law_odd e__law_caught e_union_of e_is_integer_within e_is_token e_decode_token e_prefix_length e_encode_state e_normalize_token e_page_of e_send_page e__law_is_token e_merge_tokens e__law_right e__law_orders e_law j_BadToken) : FnGX P w K mg base 3 f_decode_token e_decode_token ["orders", "token"] (spX K F_decode_token) := by
  have G_union_of := ok_union_of (P := P) (w := w) (base := base) T
  have G_is_token := ok_is_token (P := P) (w := w) (base := base) T
  exact okDX T.d_decode_token sc_decode_token (by decide) fun cdv A outer s H E hg hr =>
      (xss_cons (xs_if (xb_not (xb_val (xd_call G_is_token hg (hr.mono (by decide)) (by rfl) T.g_is_token T.d_is_token.kp T.b_is_token (xa_cons (xd_var (pv 0)) (xa_cons (xd_var (pv 1)) xa_nil))))) (xss_cons (xs_raise rfl (takes_of rfl rfl rfl rfl) (fun _ _ _ _ z => z) T.x_BadToken (T.i_BadToken _ _ _) T.bi_BadToken (hr.mono (by decide)) (by rfl) (xa_cons (xd_var (pv 1)) xa_nil))
      xss_nil) xss_nil)
      (xss_cons (xs_ret (xd_call G_union_of hg (hr.mono (by decide)) (by rfl) T.g_union_of T.d_union_of.kp T.b_union_of (xa_cons (xd_lock (xf_comp (own := [("order", 2), ("many", 3)]) (vs := [2, 3]) rfl sc_decode_token.nd rfl (by decide) (by decide) (xi_zip (by rfl) T.m_zip (xa_cons (xd_var (pv 0)) (xa_cons (xd_var (pv 1)) xa_nil))) (blkOk_by (own := [("order", 2), ("many", 3)]) (N := n_decode_token) (sc := defScope s_decode_token) (by decide +kernel)) (fun _ _ _ _ _ => (xg_tup (by rfl) (xgs_cons (xg_name (i := 2) (by decide) sc_decode_token.nd rfl (by first | exact .inl rfl | exact .inr rfl)) (xgs_cons (xg_name (i := 3) (by decide) sc_decode_token.nd rfl (by first | exact .inl rfl | exact .inr rfl)) xgs_nil)))) (fun _ _ _ _ _ => xts_nil) (fun _ _ _ _ _ => (xd_sl (xd_var (pv 2)) xp_no (xp_so (xd_var (pv 3))))))) xa_nil)))
      xss_nil))
theorem ok__law_orders (T : Txt0 K mg f__law_hand f__law_take f__law_pick f__law_names f__law_shuffled f__law_odd f__law_caught f_union_of f_is_integer_within f_is_token f_decode_token f_prefix_length f_encode_state f_normalize_token f_page_of f_send_page f__law_is_token f_merge_tokens f__law_right f__law_orders f_law c_PagesError c_BadToken i_BadToken e__law_hand e__law_take e__law_pick e__law_names e__law_shuffled e__law_odd e__law_caught e_union_of e_is_integer_within e_is_token e_decode_token e_prefix_length e_encode_state e_normalize_token e_page_of e_send_page e__law_is_token e_merge_tokens e__law_right e__law_orders e_law j_BadToken) : FnG P w K mg base 3 f__law_orders e__law_orders ["_law_hand_here", "_law_most", "_law_rows"] (spD K F__law_orders) := by
  have G__law_take := ok__law_take (P := P) (w := w) (base := base) T
  have G__law_shuffled := ok__law_shuffled (P := P) (w := w) (base := base) T
  exact okD T.d__law_orders sc__law_orders (by decide) fun cdv A outer s H E hc hg hr =>
      (xss_cons (xs_setF (i := 3) (by decide) sc__law_orders.nd rfl (.inl rfl) (xf_lst xa_nil))
      (xss_cons (xs_for PassesOwn.never rfl (xi_range1 (by rfl) T.m_range (xa_cons (xd_call G__law_take hg (hr.mono (by decide)) (by rfl) T.g__law_take T.d__law_take.kp T.b__law_take (xa_cons (xd_var (pv 0)) (xa_cons (xd_op o_add q2 (xd_var (pv 1)) xd_int) xa_nil))) xa_nil)) (xg_name (i := 4) (by decide) sc__law_orders.nd rfl (.inl rfl)) (xss_cons (xs_set (i := 5) (by decide) sc__law_orders.nd rfl (.inl rfl) (xd_lock (xf_call G__law_shuffled hg (hr.mono (by decide)) (by rfl) T.g__law_shuffled T.d__law_shuffled.kp T.b__law_shuffled (xa_cons (xd_var (pv 0)) (xa_cons (xd_var (pv 2)) xa_nil)))))
      (xss_cons (xs_expr (xd_mut m_app PySem.F.slot_list_append PySem.F.type_list_append (pv 3) (xa_cons (xd_callT c_tuple (by rfl) T.m_tuple (by decide +kernel) (xa_cons (xd_lock (xf_sl (xd_var (pv 5)) xp_no (xp_so (xd_call G__law_take hg (hr.mono (by decide)) (by rfl) T.g__law_take T.d__law_take.kp T.b__law_take (xa_cons (xd_var (pv 0)) (xa_cons (xd_op o_add q2 (xd_callB c_len (by rfl) T.m_len (by decide +kernel) (xa_cons (xd_var (pv 5)) xa_nil)) xd_int) xa_nil)))))) xa_nil)) xa_nil)))
      xss_nil)))
      (xss_cons (xs_ret (xd_callT c_tuple (by rfl) T.m_tuple (by decide +kernel) (xa_cons (xd_var (pv 3)) xa_nil)))
      xss_nil)))
theorem ok_normalize_token (T : Txt0 K mg f__law_hand f__law_take f__law_pick f__law_names f__law_shuffled f__law_odd f__law_caught f_union_of f_is_integer_within f_is_token f_decode_token f_prefix_length f_encode_state f_normalize_token f_page_of f_send_page f__law_is_token f_merge_tokens f__law_right f__law_orders f_law c_PagesError c_BadToken i_BadToken e__law_hand e__law_take e__law_pick e__law_names e__law_shuffled e__law_odd e__law_caught e_union_of e_is_integer_within e_is_token e_decode_token e_prefix_length e_encode_state e_normalize_token e_page_of e_send_page e__law_is_token e_merge_tokens e__law_right e__law_orders e_law j_BadToken) : FnGX P w K mg base 4 f_normalize_token e_normalize_token ["orders", "token"] (spX K F_normalize_token) := by
  have G_encode_state := ok_encode_state (P := P) (w := w) (base := base) T
  have G_decode_token := ok_decode_token (P := P) (w := w) (base := base) T
  exact okDX T.d_normalize_token sc_normalize_token (by decide) fun cdv A outer s H E hg hr =>
      (xss_cons (xs_ret (xd_call G_encode_state hg (hr.mono (by decide)) (by rfl) T.g_encode_state T.d_encode_state.kp T.b_encode_state (xa_cons (xd_var (pv 0)) (xa_cons (xd_callX (takes_of rfl rfl rfl rfl) (fun _ _ _ _ z => z) G_decode_token hg (hr.mono (by decide)) (by rfl) T.g_decode_token T.d_decode_token.kp T.b_decode_token (xa_cons (xd_var (pv 0)) (xa_cons (xd_var (pv 1)) xa_nil))) xa_nil))))
      xss_nil)
theorem ok_send_page (T : Txt0 K mg f__law_hand f__law_take f__law_pick f__law_names f__law_shuffled f__law_odd f__law_caught f_union_of f_is_integer_within f_is_token f_decode_token f_prefix_length f_encode_state f_normalize_token f_page_of f_send_page f__law_is_token f_merge_tokens f__law_right f__law_orders f_law c_PagesError c_BadToken i_BadToken e__law_hand e__law_take e__law_pick e__law_names e__law_shuffled e__law_odd e__law_caught e_union_of e_is_integer_within e_is_token e_decode_token e_prefix_length e_encode_state e_normalize_token e_page_of e_send_page e__law_is_token e_merge_tokens e__law_right e__law_orders e_law j_BadToken) : FnGX P w K mg base 4 f_send_page e_send_page ["orders", "version", "token", "count"] (spX K F_send_page) := by
  have G_decode_token := ok_decode_token (P := P) (w := w) (base := base) T
  have G_page_of := ok_page_of (P := P) (w := w) (base := base) T
  have G_encode_state := ok_encode_state (P := P) (w := w) (base := base) T
  have G_union_of := ok_union_of (P := P) (w := w) (base := base) T
  exact okDX T.d_send_page sc_send_page (by decide) fun cdv A outer s H E hg hr =>
      (xss_cons (xs_set (i := 4) (by decide) sc_send_page.nd rfl (.inl rfl) (xd_callX (takes_of rfl rfl rfl rfl) (fun _ _ _ _ z => z) G_decode_token hg (hr.mono (by decide)) (by rfl) T.g_decode_token T.d_decode_token.kp T.b_decode_token (xa_cons (xd_var (pv 0)) (xa_cons (xd_var (pv 2)) xa_nil))))
      (xss_cons (xs_set (i := 5) (by decide) sc_send_page.nd rfl (.inl rfl) (xd_call G_page_of hg (hr.mono (by decide)) (by rfl) T.g_page_of T.d_page_of.kp T.b_page_of (xa_cons (xd_var (pv 1)) (xa_cons (xd_var (pv 4)) (xa_cons (xd_var (pv 3)) xa_nil)))))
      (xss_cons (xs_ret (xd_tup (xa_cons (xd_var (pv 5)) (xa_cons (xd_call G_encode_state hg (hr.mono (by decide)) (by rfl) T.g_encode_state T.d_encode_state.kp T.b_encode_state (xa_cons (xd_var (pv 0)) (xa_cons (xd_call G_union_of hg (hr.mono (by decide)) (by rfl) T.g_union_of T.d_union_of.kp T.b_union_of (xa_cons (xd_lock (xf_lst (xa_cons (xd_var (pv 4)) (xa_cons (xd_var (pv 5)) xa_nil)))) xa_nil)) xa_nil))) xa_nil))))
      xss_nil)))
theorem ok_merge_tokens (T : Txt0 K mg f__law_hand f__law_take f__law_pick f__law_names f__law_shuffled f__law_odd f__law_caught f_union_of f_is_integer_within f_is_token f_decode_token f_prefix_length f_encode_state f_normalize_token f_page_of f_send_page f__law_is_token f_merge_tokens f__law_right f__law_orders f_law c_PagesError c_BadToken i_BadToken e__law_hand e__law_take e__law_pick e__law_names e__law_shuffled e__law_odd e__law_caught e_union_of e_is_integer_within e_is_token e_decode_token e_prefix_length e_encode_state e_normalize_token e_page_of e_send_page e__law_is_token e_merge_tokens e__law_right e__law_orders e_law j_BadToken) : FnGX P w K mg base 4 f_merge_tokens e_merge_tokens ["orders", "one", "other"] (spX K F_merge_tokens) := by
  have G_decode_token := ok_decode_token (P := P) (w := w) (base := base) T
  have G_encode_state := ok_encode_state (P := P) (w := w) (base := base) T
  have G_union_of := ok_union_of (P := P) (w := w) (base := base) T
  exact okDX T.d_merge_tokens sc_merge_tokens (by decide) fun cdv A outer s H E hg hr =>
      (xss_cons (xs_set (i := 3) (by decide) sc_merge_tokens.nd rfl (.inl rfl) (xd_callX (takes_of rfl rfl rfl rfl) (fun _ _ _ _ z => z) G_decode_token hg (hr.mono (by decide)) (by rfl) T.g_decode_token T.d_decode_token.kp T.b_decode_token (xa_cons (xd_var (pv 0)) (xa_cons (xd_var (pv 1)) xa_nil))))
      (xss_cons (xs_ret (xd_call G_encode_state hg (hr.mono (by decide)) (by rfl) T.g_encode_state T.d_encode_state.kp T.b_encode_state (xa_cons (xd_var (pv 0)) (xa_cons (xd_call G_union_of hg (hr.mono (by decide)) (by rfl) T.g_union_of T.d_union_of.kp T.b_union_of (xa_cons (xd_lock (xf_lst (xa_cons (xd_var (pv 3)) (xa_cons (xd_callX (takes_of rfl rfl rfl rfl) (fun _ _ _ _ z => z) G_decode_token hg (hr.mono (by decide)) (by rfl) T.g_decode_token T.d_decode_token.kp T.b_decode_token (xa_cons (xd_var (pv 0)) (xa_cons (xd_var (pv 2)) xa_nil))) xa_nil)))) xa_nil)) xa_nil))))
      xss_nil))
theorem ok__law_right (T : Txt0 K mg f__law_hand f__law_take f__law_pick f__law_names f__law_shuffled f__law_odd f__law_caught f_union_of f_is_integer_within f_is_token f_decode_token f_prefix_length f_encode_state f_normalize_token f_page_of f_send_page f__law_is_token f_merge_tokens f__law_right f__law_orders f_law c_PagesError c_BadToken i_BadToken e__law_hand e__law_take e__law_pick e__law_names e__law_shuffled e__law_odd e__law_caught e_union_of e_is_integer_within e_is_token e_decode_token e_prefix_length e_encode_state e_normalize_token e_page_of e_send_page e__law_is_token e_merge_tokens e__law_right e__law_orders e_law j_BadToken) (TL : Lam0 base mg e__law_hand e__law_take e__law_pick e__law_names e__law_shuffled e__law_odd e__law_caught e_union_of e_is_integer_within e_is_token e_decode_token e_prefix_length e_encode_state e_normalize_token e_page_of e_send_page e__law_is_token e_merge_tokens e__law_right e__law_orders e_law j_BadToken) : FnG P w K mg base 7 f__law_right e__law_right ["_law_hand_here", "_law_orders_here", "_law_version"] (spD K F__law_right) := by
  obtain ⟨lt_k, lt_P, lt_c, lt_tb, lt_m, lt_u⟩ := TL.l__law_right
  have G__law_odd := ok__law_odd (P := P) (w := w) (base := base) T
  have G__law_caught := ok__law_caught (P := P) (w := w) (base := base) T
  have G_decode_token := ok_decode_token (P := P) (w := w) (base := base) T
  have G_normalize_token := ok_normalize_token (P := P) (w := w) (base := base) T
  have G_send_page := ok_send_page (P := P) (w := w) (base := base) T
  have G__law_is_token := ok__law_is_token (P := P) (w := w) (base := base) T
  have G_merge_tokens := ok_merge_tokens (P := P) (w := w) (base := base) T
  exact okD T.d__law_right sc__law_right (by decide) fun cdv A outer s H E hc hg hr =>
      (xss_cons (xs_asg (xd_tup (xa_cons (xd_call G__law_odd hg (hr.mono (by decide)) (by rfl) T.g__law_odd T.d__law_odd.kp T.b__law_odd (xa_cons (xd_var (pv 0)) (xa_cons (xd_var (pv 1)) xa_nil))) (xa_cons (xd_call G__law_odd hg (hr.mono (by decide)) (by rfl) T.g__law_odd T.d__law_odd.kp T.b__law_odd (xa_cons (xd_var (pv 0)) (xa_cons (xd_var (pv 1)) xa_nil))) xa_nil))) (xg_tup (by rfl) (xgs_cons (xg_name (i := 9) (by decide) sc__law_right.nd rfl (.inr rfl)) (xgs_cons (xg_name (i := 10) (by decide) sc__law_right.nd rfl (.inr rfl)) xgs_nil))))
      (xss_cons (xs_set (i := 3) (by decide) sc__law_right.nd rfl (.inl rfl) (xd_callB (c_reprF hg hr.units) (by rfl) T.m_repr (by decide +kernel) (xa_cons (xd_tup (xa_cons (xd_var (pv 1)) (xa_cons (xd_var (pv 9)) (xa_cons (xd_var (pv 10)) xa_nil)))) xa_nil)))
      (xss_lams3 (ok := LamOk _ 4) (by decide) (by decide) (ps_set (i := 4) sc__law_right.nd rfl (.inl rfl) (pe_lst (pa_cons (pe_lamF lt_tb (hc.symm.trans lt_c) rfl lt_m lt_u (by rfl) (LamX.lamS_by (sc := defScope s__law_right) (by decide +kernel))) pa_nil (by rfl))) (by rfl)) (ps_expr (pe_bm PySem.F.plainAttrs_list PySem.F.slot_list_append PySem.F.type_list_append mt_append (pv 4) (pa_cons (pe_lamF lt_tb (hc.symm.trans lt_c) rfl lt_m lt_u (by rfl) (LamX.lamS_by (sc := defScope s__law_right) (by decide +kernel))) pa_nil (by rfl)))) (ps_expr (pe_bm PySem.F.plainAttrs_list PySem.F.slot_list_append PySem.F.type_list_append mt_append (pv 4) (pa_cons (pe_lamF lt_tb (hc.symm.trans lt_c) rfl lt_m lt_u (by rfl) (LamX.lamS_by (sc := defScope s__law_right) (by decide +kernel))) pa_nil (by rfl)))) (ps_for PassesOwn.never rfl (pi_list (pv 4)) (pg_name (i := 5) sc__law_right.nd rfl (.inl rfl)) (pss_lamK (fun tt r_ hok_ kn_ => by
      have G__law_caught := ok__law_caught (P := P) (w := w) (base := base) T
      have G__law_is_token := ok__law_is_token (P := P) (w := w) (base := base) T
      exact (xss_cons (xs_set (i := 6) (by decide) sc__law_right.nd rfl (.inl rfl) (xd_lamVr T.d__law_caught sc__law_caught rfl (by first | exact .inl rfl | exact .inr (.inl rfl)) (Gets.up G__law_caught (by decide)) (by rfl) (by first | exact .inl rfl | exact .inr (.inl rfl)) hok_ kn_ hg (hr.mono (by decide)) (by rfl) T.g__law_caught T.d__law_caught.kp T.b__law_caught))
      (xss_cons (xs_if (PW.pt (xw_or (xb_cmp (o_ne hr.units) q2 (xd_call G__law_is_token hg (hr.mono (by decide)) (by rfl) T.g__law_is_token T.d__law_is_token.kp T.b__law_is_token (xa_cons (xd_var (pv 1)) (xa_cons (xd_var (pv 9)) xa_nil))) (xd_cmp (o_eq hr.units) q2 (xd_ix (xd_var (pv 6)) xd_int (fun _ _ => rfl)) xd_str (nomark _)) (nomark _)) (xw_or1 (xb_cmp (o_eq hr.units) q2 (xd_ix (xd_var (pv 6)) xd_int (fun _ _ => rfl)) xd_str (nomark _))))) (xss_cons (xs_ret xd_bl)
      xss_nil) xss_nil)
      (xss_cons (xs_if (PW.pt (xw_and (xb_cmp (o_eq hr.units) q2 (xd_ix (xd_var (pv 6)) xd_int (fun _ _ => rfl)) xd_str (nomark _)) (xw_and1 (xb_cmp (o_ne hr.units) q2 (xd_callB (c_reprF hg hr.units) (by rfl) T.m_repr (by decide +kernel) (xa_cons (xd_ix (xd_var (pv 6)) xd_int (fun _ _ => rfl)) xa_nil)) (xd_callB (c_reprF hg hr.units) (by rfl) T.m_repr (by decide +kernel) (xa_cons (xd_var (pv 9)) xa_nil)) (nomark _))))) (xss_cons (xs_ret xd_bl)
      xss_nil) xss_nil)
      xss_nil)))))) (xss_cons (xs_par (i := 6) (j := 7) (ma := (.dd (eLam F__law_caught (eCallX F_merge_tokens (eCons (eVar 1) (eCons (eVar 9) (eCons (eVar 10) eNil))))))) (mb := (.ff (fLst eNil))) (by decide) (by decide) rfl sc__law_right.nd rfl rfl (by decide) rfl rfl (xd_lam (k := 4) T.d__law_caught sc__law_caught rfl (by first | exact .inl rfl | exact .inr (.inl rfl)) (Gets.up G__law_caught (by decide)) hg (hr.mono (by decide)) (by rfl) T.g__law_caught T.d__law_caught.kp T.b__law_caught lt_tb (hc.symm.trans lt_c) lt_m lt_u (LamX.lamS_by (sc := defScope s__law_right) (by decide +kernel)) (by rfl) (fun _ _ _ _ _ => by rfl) (fun _ _ _ _ _ _ _ hg hr => (xd_callX (takes_of rfl rfl rfl rfl) (fun _ _ _ _ z => z) G_merge_tokens hg (hr.mono (by decide)) (by rfl) T.g_merge_tokens T.d_merge_tokens.kp T.b_merge_tokens (xa_cons (xd_var (pv 1)) (xa_cons (xd_var (pv 9)) (xa_cons (xd_var (pv 10)) xa_nil)))))) (xf_lst xa_nil) (fun h => ps_par (by rfl) sc__law_right.nd rfl rfl (by decide) rfl rfl h (by rfl)))
      (xss_cons (xs_for PassesOwn.never rfl (xi_seq (xd_tup (xa_cons (xd_var (pv 9)) (xa_cons (xd_var (pv 10)) xa_nil)))) (xg_name (i := 8) (by decide) sc__law_right.nd rfl (.inl rfl)) (xss_cons (xs_expr (xd_ext (pv 7) (xd_lock (xf_if (xb_not (xb_val (xd_call G__law_is_token hg (hr.mono (by decide)) (by rfl) T.g__law_is_token T.d__law_is_token.kp T.b__law_is_token (xa_cons (xd_var (pv 1)) (xa_cons (xd_var (pv 8)) xa_nil))))) (xf_lst (xa_cons (xd_var (pv 8)) xa_nil)) (xf_lst xa_nil)))))
      xss_nil))
      (xss_cons (xs_if (PW.pt (xw_or (xb_cmp (o_ne hr.units) q2 (xd_cmp (o_eq hr.units) q2 (xd_ix (xd_var (pv 6)) xd_int (fun _ _ => rfl)) xd_str (nomark _)) (xd_cmp (o_eqEmL hr.units) q2 (xd_var (pv 7)) (xd_lock (xf_lst xa_nil)) (nomark _)) (nomark _)) (xw_or1 (PW.pt (xw_and (xb_cmp (o_eq hr.units) q2 (xd_ix (xd_var (pv 6)) xd_int (fun _ _ => rfl)) xd_str (nomark _)) (xw_and1 (xb_cmp (o_ne hr.units) q2 (xd_callB (c_reprF hg hr.units) (by rfl) T.m_repr (by decide +kernel) (xa_cons (xd_ix (xd_var (pv 6)) xd_int (fun _ _ => rfl)) xa_nil)) (xd_callB (c_reprF hg hr.units) (by rfl) T.m_repr (by decide +kernel) (xa_cons (xd_ix (xd_var (pv 7)) xd_int (fun _ _ => rfl)) xa_nil)) (nomark _)))))))) (xss_cons (xs_ret xd_bl)
      xss_nil) xss_nil)
      (xss_cons (xs_ret (xd_and (xd_cmp (o_ne hr.units) q2 (xd_ix (xd_var (pv 6)) xd_int (fun _ _ => rfl)) xd_str (nomark _)) (xd_one (xd_cmp (o_eq hr.units) q2 (xd_callB (c_reprF hg hr.units) (by rfl) T.m_repr (by decide +kernel) (xa_cons (xd_tup (xa_cons (xd_var (pv 1)) (xa_cons (xd_var (pv 9)) (xa_cons (xd_var (pv 10)) xa_nil)))) xa_nil)) (xd_var (pv 3)) (nomark _)))))
      xss_nil)))) (fun r ho hq hm => ho.elim fun pm ho => ho.elim fun ctv ho => ⟨hq, _, _, _, pm, ctv, ho, (LamX.lamS_by (sc := defScope s__law_right) (by decide +kernel)), by rfl, @fun tt A outer s0 H0 E hg hr => by
      have G_decode_token := ok_decode_token (P := P) (w := w) (base := base) T
      rw [hm]
      exact (xd_callX (takes_of rfl rfl rfl rfl) (fun _ _ _ _ z => z) G_decode_token hg (hr.mono (by decide)) (by rfl) T.g_decode_token T.d_decode_token.kp T.b_decode_token (xa_cons (xd_var (pv 1)) (xa_cons (xd_var (pv 9)) xa_nil)))⟩) (fun r ho hq hm => ho.elim fun pm ho => ho.elim fun ctv ho => ⟨hq, _, _, _, pm, ctv, ho, (LamX.lamS_by (sc := defScope s__law_right) (by decide +kernel)), by rfl, @fun tt A outer s0 H0 E hg hr => by
      have G_normalize_token := ok_normalize_token (P := P) (w := w) (base := base) T
      rw [hm]
      exact (xd_callX (takes_of rfl rfl rfl rfl) (fun _ _ _ _ z => z) G_normalize_token hg (hr.mono (by decide)) (by rfl) T.g_normalize_token T.d_normalize_token.kp T.b_normalize_token (xa_cons (xd_var (pv 1)) (xa_cons (xd_var (pv 9)) xa_nil)))⟩) (fun r ho hq hm => ho.elim fun pm ho => ho.elim fun ctv ho => ⟨hq, _, _, _, pm, ctv, ho, (LamX.lamS_by (sc := defScope s__law_right) (by decide +kernel)), by rfl, @fun tt A outer s0 H0 E hg hr => by
      have G_send_page := ok_send_page (P := P) (w := w) (base := base) T
      rw [hm]
      exact (xd_callX (takes_of rfl rfl rfl rfl) (fun _ _ _ _ z => z) G_send_page hg (hr.mono (by decide)) (by rfl) T.g_send_page T.d_send_page.kp T.b_send_page (xa_cons (xd_var (pv 1)) (xa_cons (xd_var (pv 2)) (xa_cons (xd_var (pv 9)) (xa_cons xd_int xa_nil)))))⟩))))
theorem ok_law (T : Txt0 K mg f__law_hand f__law_take f__law_pick f__law_names f__law_shuffled f__law_odd f__law_caught f_union_of f_is_integer_within f_is_token f_decode_token f_prefix_length f_encode_state f_normalize_token f_page_of f_send_page f__law_is_token f_merge_tokens f__law_right f__law_orders f_law c_PagesError c_BadToken i_BadToken e__law_hand e__law_take e__law_pick e__law_names e__law_shuffled e__law_odd e__law_caught e_union_of e_is_integer_within e_is_token e_decode_token e_prefix_length e_encode_state e_normalize_token e_page_of e_send_page e__law_is_token e_merge_tokens e__law_right e__law_orders e_law j_BadToken) (TL : Lam0 base mg e__law_hand e__law_take e__law_pick e__law_names e__law_shuffled e__law_odd e__law_caught e_union_of e_is_integer_within e_is_token e_decode_token e_prefix_length e_encode_state e_normalize_token e_page_of e_send_page e__law_is_token e_merge_tokens e__law_right e__law_orders e_law j_BadToken) : FnG P w K mg base 8 f_law e_law ["_law_script"] (spD K F_law) := by
  have G__law_hand := ok__law_hand (P := P) (w := w) (base := base) T
  have G__law_names := ok__law_names (P := P) (w := w) (base := base) T
  have G__law_shuffled := ok__law_shuffled (P := P) (w := w) (base := base) T
  have G__law_right := ok__law_right (P := P) (w := w) (base := base) T TL
  have G__law_take := ok__law_take (P := P) (w := w) (base := base) T
  have G__law_orders := ok__law_orders (P := P) (w := w) (base := base) T
  exact okD T.d_law sc_law (by decide) fun cdv A outer s H E hc hg hr =>
      (xss_cons (xs_for PassesOwn.never rfl (xi_range1 (by rfl) T.m_range (xa_cons (xd_callB (c_max2 rfl) (by rfl) T.m_max (by decide +kernel) (xa_cons xd_int (xa_cons (xd_callB (c_min2 rfl) (by rfl) T.m_min (by decide +kernel) (xa_cons xd_int (xa_cons (xd_callB c_len (by rfl) T.m_len (by decide +kernel) (xa_cons (xd_var (pv 0)) xa_nil)) xa_nil))) xa_nil))) xa_nil)) (xg_name (i := 1) (by decide) sc_law.nd rfl (.inl rfl)) (xss_cons (xs_setF (i := 2) (by decide) sc_law.nd rfl (.inl rfl) (xf_call G__law_hand hg (hr.mono (by decide)) (by rfl) T.g__law_hand T.d__law_hand.kp T.b__law_hand (xa_cons (xd_var (pv 0)) (xa_cons (xd_var (pv 1)) xa_nil))))
      (xss_cons (xs_for PassesOwn.never rfl (xi_range1 (by rfl) T.m_range (xa_cons xd_int xa_nil)) (xg_name (i := 3) (by decide) sc_law.nd rfl (.inl rfl)) (xss_cons (xs_set (i := 4) (by decide) sc_law.nd rfl (.inl rfl) (xd_lock (xf_call G__law_names hg (hr.mono (by decide)) (by rfl) T.g__law_names T.d__law_names.kp T.b__law_names (xa_cons (xd_var (pv 2)) (xa_cons (xd_op o_add q2 xd_int (xd_call G__law_take hg (hr.mono (by decide)) (by rfl) T.g__law_take T.d__law_take.kp T.b__law_take (xa_cons (xd_var (pv 2)) (xa_cons xd_int xa_nil)))) xa_nil)))))
      (xss_cons (xs_set (i := 5) (by decide) sc_law.nd rfl (.inl rfl) (xd_callT c_tuple (by rfl) T.m_tuple (by decide +kernel) (xa_cons (xd_lock (xf_call G__law_shuffled hg (hr.mono (by decide)) (by rfl) T.g__law_shuffled T.d__law_shuffled.kp T.b__law_shuffled (xa_cons (xd_var (pv 2)) (xa_cons (xd_var (pv 4)) xa_nil)))) xa_nil)))
      (xss_cons (xs_if (xb_not (xb_val (xd_call G__law_right hg (hr.mono (by decide)) (by rfl) T.g__law_right T.d__law_right.kp T.b__law_right (xa_cons (xd_var (pv 2)) (xa_cons (xd_op o_add q2 (xd_call G__law_orders hg (hr.mono (by decide)) (by rfl) T.g__law_orders T.d__law_orders.kp T.b__law_orders (xa_cons (xd_var (pv 2)) (xa_cons xd_int (xa_cons (xd_var (pv 4)) xa_nil)))) (xd_tup (xa_cons (xd_var (pv 5)) xa_nil))) (xa_cons (xd_var (pv 5)) xa_nil)))))) (xss_cons (xs_ret xd_bl)
      xss_nil) xss_nil)
      xss_nil))))
      xss_nil)))
      (xss_cons (xs_ret xd_bl)
      xss_nil))
end
end Z
namespace Z
open PySem PySem.Spec PyProof.Rows L2 Gd Q
theorem scr_of {K : PySem.W.Frag} {H : Hp} {a : Addr} {ns : List Int} (hO : Gd.OnlyT H) (h : SqL K H a (ns.map V.int)) : ScR K H a ns := by
  rcases h with (h | ⟨o, h⟩) | h
  · rcases hO a with e | e | ⟨o, xs, e⟩
    · rw [e] at h
      cases h
    · rw [e] at h
      cases h
    · rw [e] at h
      cases h
  · exact .inl ⟨o, h⟩
  · exact .inr (.inr h)
abbrev tblOf (l : List (Addr × Str)) : Tbl := ⟨l, fun _ => True, fun _ _ _ _ => trivial, fun _ => 0⟩
theorem tabs_nil {H : Hp} : ∀ {l : List (Addr × Str)}, (∀ p ∈ l, H p.1 = some (.tbl #[])) → LamX.Tabs l H := fun {l} h p hp => LamX.TabS.nil (h p hp)
theorem law_want {tl : List (Addr × Str)} {K : PySem.W.Frag} {H : Hp} {a : Addr} {ns : List Int} (ht : ∀ p ∈ tl, H p.1 = some (.tbl #[])) (hO : Gd.OnlyT H) (h : SqL K H a (ns.map V.int)) (hl : ns.length ≤ 63) : @spD (tblOf tl) K F_law [.ref a] H (fun v _ => v = .bl true) fun _ _ _ => False := by
  letI : Tbl := tblOf tl
  refine ⟨[.dat (scrD ns)], .dat (.bool true), [.dat (scrD ns)], ⟨rfl, ?_, ?_, ?_, ⟨(tabs_nil ht : LamX.Tabs tl H), trivial⟩, ?_⟩, law_true hl, ?_⟩
  · intro i d e
    cases i with
    | zero =>
      cases e
      exact ⟨.ref a, rfl, .scr (scr_of hO h)⟩
    | succ j => cases e
  · intro i d e
    cases i with
    | zero => cases e
    | succ j => cases e
  · intro i j d d' p e
    cases i with
    | zero => cases e
    | succ j => cases e
  · intro i c f d e
    cases i with
    | zero => cases e
    | succ j => cases e
  · intro v H' st sr
    cases sr with
    | dat im =>
      cases im
      rfl
theorem all_mk {l : PySem.W.OpenLaw} {w : World} {K : PySem.W.Frag} {h : Heap} {mg : Str → Option Value} {fa f1 f2 f3 f4 f5 f6 f7 f8 f9 f10 f11 f12 f13 f14 f15 f16 f17 f18 f19 f20 f21 : Addr} (X : K.In h) (G : h.Ns mainGlobals mg) (hfa : mg "law" = some (.ref fa))
    {od1 an1 od2 an2 od3 an3 od4 an4 od5 an5 od6 an6 od7 an7 od8 an8 od9 an9 od10 an10 od11 an11 od12 an12 od13 an13 od14 an14 od15 an15 od16 an16 od17 an17 od18 an18 od19 an19 od20 an20 od21 an21 : Option Addr} {sl1 sl2 sl3 sl4 sl5 sl6 sl7 sl8 sl9 sl10 sl11 sl12 sl13 sl14 sl15 sl16 sl17 sl18 sl19 sl20 sl21 : Array (Option Value)} {oc1 kV1 dc1 pm1 cd1 ct1 oc2 kV2 dc2 pm2 cd2 ct2 oc3 kV3 dc3 pm3 cd3 ct3 oc4 kV4 dc4 pm4 cd4 ct4 oc5 kV5 dc5 pm5 cd5 ct5 oc6 kV6 dc6 pm6 cd6 ct6 oc7 kV7 dc7 pm7 cd7 ct7 oc8 kV8 dc8 pm8 cd8 ct8 oc9 kV9 dc9 pm9 cd9 ct9 oc10 kV10 dc10 pm10 cd10 ct10 oc11 kV11 dc11 pm11 cd11 ct11 oc12 kV12 dc12 pm12 cd12 ct12 oc13 kV13 dc13 pm13 cd13 ct13 oc14 kV14 dc14 pm14 cd14 ct14 oc15 kV15 dc15 pm15 cd15 ct15 oc16 kV16 dc16 pm16 cd16 ct16 oc17 kV17 dc17 pm17 cd17 ct17 oc18 kV18 dc18 pm18 cd18 ct18 oc19 kV19 dc19 pm19 cd19 ct19 oc20 kV20 dc20 pm20 cd20 ct20 oc21 kV21 dc21 pm21 cd21 ct21 : Value}
    (a1 : PySem.W.nsIn K mainGlobals "_law_hand" = some (some (.ref f1))) (l1 : K.lookup f1 = some ⟨oc1, od1, .func (PySem.W.fnOf "_law_hand" "_law_hand" (defArgs s__law_hand) (defBody s__law_hand) (defScope s__law_hand) .none kV1 dc1 pm1 an1 cd1 ct1), sl1⟩) (c1 : PySem.W.codeIn K cd1 "_law_hand" = true) (k1 : PySem.W.keepIn K (.ref f1) = true)
    (a2 : PySem.W.nsIn K mainGlobals "_law_take" = some (some (.ref f2))) (l2 : K.lookup f2 = some ⟨oc2, od2, .func (PySem.W.fnOf "_law_take" "_law_take" (defArgs s__law_take) (defBody s__law_take) (defScope s__law_take) .none kV2 dc2 pm2 an2 cd2 ct2), sl2⟩) (c2 : PySem.W.codeIn K cd2 "_law_take" = true) (k2 : PySem.W.keepIn K (.ref f2) = true)
    (a3 : PySem.W.nsIn K mainGlobals "_law_pick" = some (some (.ref f3))) (l3 : K.lookup f3 = some ⟨oc3, od3, .func (PySem.W.fnOf "_law_pick" "_law_pick" (defArgs s__law_pick) (defBody s__law_pick) (defScope s__law_pick) .none kV3 dc3 pm3 an3 cd3 ct3), sl3⟩) (c3 : PySem.W.codeIn K cd3 "_law_pick" = true) (k3 : PySem.W.keepIn K (.ref f3) = true)
    (a4 : PySem.W.nsIn K mainGlobals "_law_names" = some (some (.ref f4))) (l4 : K.lookup f4 = some ⟨oc4, od4, .func (PySem.W.fnOf "_law_names" "_law_names" (defArgs s__law_names) (defBody s__law_names) (defScope s__law_names) .none kV4 dc4 pm4 an4 cd4 ct4), sl4⟩) (c4 : PySem.W.codeIn K cd4 "_law_names" = true) (k4 : PySem.W.keepIn K (.ref f4) = true)
    (a5 : PySem.W.nsIn K mainGlobals "_law_shuffled" = some (some (.ref f5))) (l5 : K.lookup f5 = some ⟨oc5, od5, .func (PySem.W.fnOf "_law_shuffled" "_law_shuffled" (defArgs s__law_shuffled) (defBody s__law_shuffled) (defScope s__law_shuffled) .none kV5 dc5 pm5 an5 cd5 ct5), sl5⟩) (c5 : PySem.W.codeIn K cd5 "_law_shuffled" = true) (k5 : PySem.W.keepIn K (.ref f5) = true)
    (a6 : PySem.W.nsIn K mainGlobals "_law_odd" = some (some (.ref f6))) (l6 : K.lookup f6 = some ⟨oc6, od6, .func (PySem.W.fnOf "_law_odd" "_law_odd" (defArgs s__law_odd) (defBody s__law_odd) (defScope s__law_odd) .none kV6 dc6 pm6 an6 cd6 ct6), sl6⟩) (c6 : PySem.W.codeIn K cd6 "_law_odd" = true) (k6 : PySem.W.keepIn K (.ref f6) = true)
    (a7 : PySem.W.nsIn K mainGlobals "_law_caught" = some (some (.ref f7))) (l7 : K.lookup f7 = some ⟨oc7, od7, .func (PySem.W.fnOf "_law_caught" "_law_caught" (defArgs s__law_caught) (defBody s__law_caught) (defScope s__law_caught) .none kV7 dc7 pm7 an7 cd7 ct7), sl7⟩) (c7 : PySem.W.codeIn K cd7 "_law_caught" = true) (k7 : PySem.W.keepIn K (.ref f7) = true)
    (a8 : PySem.W.nsIn K mainGlobals "union_of" = some (some (.ref f8))) (l8 : K.lookup f8 = some ⟨oc8, od8, .func (PySem.W.fnOf "union_of" "union_of" (defArgs s_union_of) (defBody s_union_of) (defScope s_union_of) .none kV8 dc8 pm8 an8 cd8 ct8), sl8⟩) (c8 : PySem.W.codeIn K cd8 "union_of" = true) (k8 : PySem.W.keepIn K (.ref f8) = true)
    (a9 : PySem.W.nsIn K mainGlobals "is_integer_within" = some (some (.ref f9))) (l9 : K.lookup f9 = some ⟨oc9, od9, .func (PySem.W.fnOf "is_integer_within" "is_integer_within" (defArgs s_is_integer_within) (defBody s_is_integer_within) (defScope s_is_integer_within) .none kV9 dc9 pm9 an9 cd9 ct9), sl9⟩) (c9 : PySem.W.codeIn K cd9 "is_integer_within" = true) (k9 : PySem.W.keepIn K (.ref f9) = true)
    (a10 : PySem.W.nsIn K mainGlobals "is_token" = some (some (.ref f10))) (l10 : K.lookup f10 = some ⟨oc10, od10, .func (PySem.W.fnOf "is_token" "is_token" (defArgs s_is_token) (defBody s_is_token) (defScope s_is_token) .none kV10 dc10 pm10 an10 cd10 ct10), sl10⟩) (c10 : PySem.W.codeIn K cd10 "is_token" = true) (k10 : PySem.W.keepIn K (.ref f10) = true)
    (a11 : PySem.W.nsIn K mainGlobals "decode_token" = some (some (.ref f11))) (l11 : K.lookup f11 = some ⟨oc11, od11, .func (PySem.W.fnOf "decode_token" "decode_token" (defArgs s_decode_token) (defBody s_decode_token) (defScope s_decode_token) .none kV11 dc11 pm11 an11 cd11 ct11), sl11⟩) (c11 : PySem.W.codeIn K cd11 "decode_token" = true) (k11 : PySem.W.keepIn K (.ref f11) = true)
    (a12 : PySem.W.nsIn K mainGlobals "prefix_length" = some (some (.ref f12))) (l12 : K.lookup f12 = some ⟨oc12, od12, .func (PySem.W.fnOf "prefix_length" "prefix_length" (defArgs s_prefix_length) (defBody s_prefix_length) (defScope s_prefix_length) .none kV12 dc12 pm12 an12 cd12 ct12), sl12⟩) (c12 : PySem.W.codeIn K cd12 "prefix_length" = true) (k12 : PySem.W.keepIn K (.ref f12) = true)
    (a13 : PySem.W.nsIn K mainGlobals "encode_state" = some (some (.ref f13))) (l13 : K.lookup f13 = some ⟨oc13, od13, .func (PySem.W.fnOf "encode_state" "encode_state" (defArgs s_encode_state) (defBody s_encode_state) (defScope s_encode_state) .none kV13 dc13 pm13 an13 cd13 ct13), sl13⟩) (c13 : PySem.W.codeIn K cd13 "encode_state" = true) (k13 : PySem.W.keepIn K (.ref f13) = true)
    (a14 : PySem.W.nsIn K mainGlobals "normalize_token" = some (some (.ref f14))) (l14 : K.lookup f14 = some ⟨oc14, od14, .func (PySem.W.fnOf "normalize_token" "normalize_token" (defArgs s_normalize_token) (defBody s_normalize_token) (defScope s_normalize_token) .none kV14 dc14 pm14 an14 cd14 ct14), sl14⟩) (c14 : PySem.W.codeIn K cd14 "normalize_token" = true) (k14 : PySem.W.keepIn K (.ref f14) = true)
    (a15 : PySem.W.nsIn K mainGlobals "page_of" = some (some (.ref f15))) (l15 : K.lookup f15 = some ⟨oc15, od15, .func (PySem.W.fnOf "page_of" "page_of" (defArgs s_page_of) (defBody s_page_of) (defScope s_page_of) .none kV15 dc15 pm15 an15 cd15 ct15), sl15⟩) (c15 : PySem.W.codeIn K cd15 "page_of" = true) (k15 : PySem.W.keepIn K (.ref f15) = true)
    (a16 : PySem.W.nsIn K mainGlobals "send_page" = some (some (.ref f16))) (l16 : K.lookup f16 = some ⟨oc16, od16, .func (PySem.W.fnOf "send_page" "send_page" (defArgs s_send_page) (defBody s_send_page) (defScope s_send_page) .none kV16 dc16 pm16 an16 cd16 ct16), sl16⟩) (c16 : PySem.W.codeIn K cd16 "send_page" = true) (k16 : PySem.W.keepIn K (.ref f16) = true)
    (a17 : PySem.W.nsIn K mainGlobals "_law_is_token" = some (some (.ref f17))) (l17 : K.lookup f17 = some ⟨oc17, od17, .func (PySem.W.fnOf "_law_is_token" "_law_is_token" (defArgs s__law_is_token) (defBody s__law_is_token) (defScope s__law_is_token) .none kV17 dc17 pm17 an17 cd17 ct17), sl17⟩) (c17 : PySem.W.codeIn K cd17 "_law_is_token" = true) (k17 : PySem.W.keepIn K (.ref f17) = true)
    (a18 : PySem.W.nsIn K mainGlobals "merge_tokens" = some (some (.ref f18))) (l18 : K.lookup f18 = some ⟨oc18, od18, .func (PySem.W.fnOf "merge_tokens" "merge_tokens" (defArgs s_merge_tokens) (defBody s_merge_tokens) (defScope s_merge_tokens) .none kV18 dc18 pm18 an18 cd18 ct18), sl18⟩) (c18 : PySem.W.codeIn K cd18 "merge_tokens" = true) (k18 : PySem.W.keepIn K (.ref f18) = true)
    (a19 : PySem.W.nsIn K mainGlobals "_law_right" = some (some (.ref f19))) (l19 : K.lookup f19 = some ⟨oc19, od19, .func (PySem.W.fnOf "_law_right" "_law_right" (defArgs s__law_right) (defBody s__law_right) (defScope s__law_right) .none kV19 dc19 pm19 an19 cd19 ct19), sl19⟩) (c19 : PySem.W.codeIn K cd19 "_law_right" = true) (k19 : PySem.W.keepIn K (.ref f19) = true)
    (a20 : PySem.W.nsIn K mainGlobals "_law_orders" = some (some (.ref f20))) (l20 : K.lookup f20 = some ⟨oc20, od20, .func (PySem.W.fnOf "_law_orders" "_law_orders" (defArgs s__law_orders) (defBody s__law_orders) (defScope s__law_orders) .none kV20 dc20 pm20 an20 cd20 ct20), sl20⟩) (c20 : PySem.W.codeIn K cd20 "_law_orders" = true) (k20 : PySem.W.keepIn K (.ref f20) = true)
    (a21 : PySem.W.nsIn K mainGlobals "law" = some (some (.ref f21))) (l21 : K.lookup f21 = some ⟨oc21, od21, .func (PySem.W.fnOf "law" "law" (defArgs s_law) (defBody s_law) (defScope s_law) .none kV21 dc21 pm21 an21 cd21 ct21), sl21⟩) (c21 : PySem.W.codeIn K cd21 "law" = true) (k21 : PySem.W.keepIn K (.ref f21) = true)
    {c_PagesError c_BadToken i_BadToken : Addr}
    (aC_PagesError : PySem.W.nsIn K mainGlobals "PagesError" = some (some (.ref c_PagesError)))
    (aC_BadToken : PySem.W.nsIn K mainGlobals "BadToken" = some (some (.ref c_BadToken)))
    {nm_BadToken qn_BadToken : Str} {N_BadToken : Addr} {bs_BadToken : List Value} {sn_BadToken : List Str} {sub_BadToken : List Value} {ab_BadToken : Bool} {col_BadToken : Option Bool} {dd_BadToken : Option Addr} {m0_BadToken m1_BadToken m2_BadToken m3_BadToken m5_BadToken : Option Value}
    {oc_BadToken kV_BadToken dc_BadToken pm_BadToken cd_BadToken ct_BadToken : Value} {od_BadToken an_BadToken : Option Addr} {sl_BadToken : Array (Option Value)}
    (xL_BadToken : K.lookup c_BadToken = some (excClassObj nm_BadToken qn_BadToken c_BadToken N_BadToken bs_BadToken [.ref c_PagesError, .type "ValueError", .type "Exception", .type "BaseException", .type "object"] true sn_BadToken sub_BadToken ab_BadToken col_BadToken dd_BadToken m0_BadToken m1_BadToken m2_BadToken m3_BadToken m5_BadToken "ValueError.__new__"))
    (sa_BadToken : PySem.W.findIn K (.ref c_BadToken) "__setattr__" = some (some (.builtin "object.__setattr__"))) (ga_BadToken : PySem.W.findIn K (.ref c_BadToken) "__getattribute__" = some (some (.builtin "BaseException.__getattribute__"))) (gg_BadToken : PySem.W.findIn K (.ref c_BadToken) "__getattr__" = some none) (nb_BadToken : PySem.W.findIn K (.ref c_BadToken) "token" = some none)
    (ai_BadToken : PySem.W.findIn K (.ref c_BadToken) "__init__" = some (some (.ref i_BadToken))) (ti_BadToken : PySem.W.typeIn K (.ref i_BadToken) = some (.type "function"))
    (li_BadToken : K.lookup i_BadToken = some ⟨oc_BadToken, od_BadToken, .func (PySem.W.fnOf "__init__" "BadToken.__init__" (defArgs s_i_BadToken) (defBody s_i_BadToken) (defScope s_i_BadToken) .none kV_BadToken dc_BadToken pm_BadToken an_BadToken cd_BadToken ct_BadToken), sl_BadToken⟩) (ci_BadToken : PySem.W.codeIn K cd_BadToken "BadToken.__init__" = true) (ki_BadToken : PySem.W.keepIn K (.ref i_BadToken) = true)
    (kC_BadToken : PySem.W.keepIn K (.ref c_BadToken) = true) (eC_BadToken : PySem.W.subIn K (.ref c_BadToken) (.type "BaseException") = some true) (tC_BadToken : PySem.W.typeIn K (.ref c_BadToken) = some (.type "type")) (hC_BadToken : PySem.W.hasDictIn K c_BadToken = true) (iC_BadToken : PySem.W.isClsIn K c_BadToken = true)
    (ca_BadToken : PySem.W.findIn K (.ref c_BadToken) "__class__" = some (some (.builtin "object.__class__"))) (mo_BadToken : PySem.W.mroIn K c_BadToken (.type "object") = some true)
    (bn : PySem.W.specialIn K (.builtin "object.__class__") "__get__" = some (some (.builtin "getset_descriptor.__get__"))) (bt : PySem.W.takesIn K (.builtin "object.__class__") = some true)
    (su_BadToken_BadToken : PySem.W.subIn K (.ref c_BadToken) (.ref c_BadToken) = some true)
    {tc19 tP19 : Addr} {tv19 : Array Value} {td19 : Option Addr} {ts19 : Array (Option Value)} (ta19 : cd19 = .ref tc19) (tb19 : K.lookup tc19 = some ⟨.type "code", td19, .fields tv19, ts19⟩) (te19 : (tv19[11]? : Option Value) = some (.ref tP19)) (tf19 : PySem.W.codeHdIn K tc19 tP19 = true) (tg19 : K.lookup tP19 = none) (th19 : h.get? tP19 = some { cls := .none, data := .fields #[] })
    (z1 : PySem.W.nsIn K mainGlobals "len" = some none) (z2 : PySem.W.nsIn K mainGlobals "abs" = some none) (z3 : PySem.W.nsIn K mainGlobals "int" = some none) (z4 : PySem.W.nsIn K mainGlobals "range" = some none) (z5 : PySem.W.nsIn K mainGlobals "list" = some none) (z6 : PySem.W.nsIn K mainGlobals "tuple" = some none) (z7 : PySem.W.nsIn K mainGlobals "repr" = some none) (z8 : PySem.W.nsIn K mainGlobals "max" = some none) (z9 : PySem.W.nsIn K mainGlobals "min" = some none) (z10 : PySem.W.nsIn K mainGlobals "sorted" = some none) (z11 : PySem.W.nsIn K mainGlobals "isinstance" = some none) (z12 : PySem.W.nsIn K mainGlobals "bool" = some none) (z13 : PySem.W.nsIn K mainGlobals "all" = some none) (z14 : PySem.W.nsIn K mainGlobals "enumerate" = some none) (z15 : PySem.W.nsIn K mainGlobals "zip" = some none) :
    ∃ (fd : FuncData) (cs : List (Addr × Addr)) (sp : Sp), (∀ p ∈ cs, h.get? p.2 = some { cls := .none, data := .fields #[] }) ∧ (∀ p ∈ cs, K.lookup p.2 = none) ∧ (∀ p ∈ cs, PySem.W.CodeHd h p.1 p.2) ∧ (∀ (s : Shared) (v : Value), BindsTo s fd ⟨[v], []⟩ [("_law_script", v)]) ∧ (∀ (H : Hp) (a : Addr) (ns : List Int), ns.length ≤ 63 → Gd.OnlyT H → (∀ p ∈ cs, H p.2 = some (.tbl #[])) → SqL K H a (ns.map V.int) → sp [.ref a] H (fun v _ => v = .bl true) fun _ _ _ => False) ∧ ∀ base : Heap, K.In base → base.Ns mainGlobals mg → (∀ p ∈ cs, LamX.TabB base mg p.1 p.2) → FnG l.prog w K mg base 8 fa fd ["_law_script"] sp := by
  have e := hfa.symm.trans (PySem.W.mg_of X G a21)
  cases e
  have F1 := fun_mk (st := s__law_hand) l1 c1 k1
  have b1 := F1.binds (ps := ["_law_script", "_law_k"]) fun _ _ _ _ _ _ us hl => match us, hl with | [_, _], _ => rfl
  have F2 := fun_mk (st := s__law_take) l2 c2 k2
  have b2 := F2.binds (ps := ["_law_hand_here", "_law_many"]) fun _ _ _ _ _ _ us hl => match us, hl with | [_, _], _ => rfl
  have F3 := fun_mk (st := s__law_pick) l3 c3 k3
  have b3 := F3.binds (ps := ["_law_hand_here", "_law_items"]) fun _ _ _ _ _ _ us hl => match us, hl with | [_, _], _ => rfl
  have F4 := fun_mk (st := s__law_names) l4 c4 k4
  have b4 := F4.binds (ps := ["_law_hand_here", "_law_count"]) fun _ _ _ _ _ _ us hl => match us, hl with | [_, _], _ => rfl
  have F5 := fun_mk (st := s__law_shuffled) l5 c5 k5
  have b5 := F5.binds (ps := ["_law_hand_here", "_law_items"]) fun _ _ _ _ _ _ us hl => match us, hl with | [_, _], _ => rfl
  have F6 := fun_mk (st := s__law_odd) l6 c6 k6
  have b6 := F6.binds (ps := ["_law_hand_here", "_law_orders_here"]) fun _ _ _ _ _ _ us hl => match us, hl with | [_, _], _ => rfl
  have F7 := fun_mk (st := s__law_caught) l7 c7 k7
  have b7 := F7.binds (ps := ["_law_call"]) fun _ _ _ _ _ _ us hl => match us, hl with | [_], _ => rfl
  have F8 := fun_mk (st := s_union_of) l8 c8 k8
  have b8 := F8.binds (ps := ["groups"]) fun _ _ _ _ _ _ us hl => match us, hl with | [_], _ => rfl
  have F9 := fun_mk (st := s_is_integer_within) l9 c9 k9
  have b9 := F9.binds (ps := ["value", "low", "high"]) fun _ _ _ _ _ _ us hl => match us, hl with | [_, _, _], _ => rfl
  have F10 := fun_mk (st := s_is_token) l10 c10 k10
  have b10 := F10.binds (ps := ["orders", "value"]) fun _ _ _ _ _ _ us hl => match us, hl with | [_, _], _ => rfl
  have F11 := fun_mk (st := s_decode_token) l11 c11 k11
  have b11 := F11.binds (ps := ["orders", "token"]) fun _ _ _ _ _ _ us hl => match us, hl with | [_, _], _ => rfl
  have F12 := fun_mk (st := s_prefix_length) l12 c12 k12
  have b12 := F12.binds (ps := ["version", "live", "rows"]) fun _ _ _ _ _ _ us hl => match us, hl with | [_, _, _], _ => rfl
  have F13 := fun_mk (st := s_encode_state) l13 c13 k13
  have b13 := F13.binds (ps := ["orders", "rows"]) fun _ _ _ _ _ _ us hl => match us, hl with | [_, _], _ => rfl
  have F14 := fun_mk (st := s_normalize_token) l14 c14 k14
  have b14 := F14.binds (ps := ["orders", "token"]) fun _ _ _ _ _ _ us hl => match us, hl with | [_, _], _ => rfl
  have F15 := fun_mk (st := s_page_of) l15 c15 k15
  have b15 := F15.binds (ps := ["version", "sent", "count"]) fun _ _ _ _ _ _ us hl => match us, hl with | [_, _, _], _ => rfl
  have F16 := fun_mk (st := s_send_page) l16 c16 k16
  have b16 := F16.binds (ps := ["orders", "version", "token", "count"]) fun _ _ _ _ _ _ us hl => match us, hl with | [_, _, _, _], _ => rfl
  have F17 := fun_mk (st := s__law_is_token) l17 c17 k17
  have b17 := F17.binds (ps := ["_law_orders_here", "_law_value"]) fun _ _ _ _ _ _ us hl => match us, hl with | [_, _], _ => rfl
  have F18 := fun_mk (st := s_merge_tokens) l18 c18 k18
  have b18 := F18.binds (ps := ["orders", "one", "other"]) fun _ _ _ _ _ _ us hl => match us, hl with | [_, _, _], _ => rfl
  have F19 := fun_mk (st := s__law_right) l19 c19 k19
  have b19 := F19.binds (ps := ["_law_hand_here", "_law_orders_here", "_law_version"]) fun _ _ _ _ _ _ us hl => match us, hl with | [_, _, _], _ => rfl
  have F20 := fun_mk (st := s__law_orders) l20 c20 k20
  have b20 := F20.binds (ps := ["_law_hand_here", "_law_most", "_law_rows"]) fun _ _ _ _ _ _ us hl => match us, hl with | [_, _, _], _ => rfl
  have F21 := fun_mk (st := s_law) l21 c21 k21
  have b21 := F21.binds (ps := ["_law_script"]) fun _ _ _ _ _ _ us hl => match us, hl with | [_], _ => rfl
  have X_BadToken : ExcT K mg "BadToken" "token" c_BadToken i_BadToken := ⟨PySem.W.mg_of X G aC_BadToken, aC_BadToken, ⟨⟨_, _, _, _, _, _, _, _, _, _, _, _, _, _, _, xL_BadToken, by first | rfl | decide +kernel⟩, sa_BadToken, eC_BadToken, tC_BadToken, kC_BadToken⟩, nb_BadToken, ai_BadToken, ti_BadToken, ⟨ga_BadToken, gg_BadToken, eC_BadToken, hC_BadToken⟩, iC_BadToken, ca_BadToken, mo_BadToken⟩
  have FI_BadToken := fun_mk (st := s_i_BadToken) li_BadToken ci_BadToken ki_BadToken
  have BI_BadToken := FI_BadToken.binds (ps := ["self", "token"]) fun _ _ _ _ _ _ us hl => match us, hl with | [_, _], _ => rfl
  have Q1 : ∀ p ∈ ([(tc19, tP19)] : List (Addr × Addr)), h.get? p.2 = some { cls := .none, data := .fields #[] } := by
    intro p hp
    simp only [List.mem_cons, List.not_mem_nil, or_false] at hp
    rcases hp with rfl
    · exact th19
  have Q2 : ∀ p ∈ ([(tc19, tP19)] : List (Addr × Addr)), K.lookup p.2 = none := by
    intro p hp
    simp only [List.mem_cons, List.not_mem_nil, or_false] at hp
    rcases hp with rfl
    · exact tg19
  have Q3 : ∀ p ∈ ([(tc19, tP19)] : List (Addr × Addr)), PySem.W.CodeHd h p.1 p.2 := by
    intro p hp
    simp only [List.mem_cons, List.not_mem_nil, or_false] at hp
    rcases hp with rfl
    · exact PySem.W.codeHd_of_K X tf19
  exact ⟨PySem.W.fnOf "law" "law" (defArgs s_law) (defBody s_law) (defScope s_law) .none kV21 dc21 pm21 an21 cd21 ct21, [(tc19, tP19)], @spD (tblOf [(tP19, (envOfC "_law_right" (defScope s__law_right) 0 0 .none).qual ++ "<lambda>")]) K F_law, Q1, Q2, Q3, fun s v => .of_eq rfl, fun H a ns hl hO hT hS => law_want (tl := [(tP19, (envOfC "_law_right" (defScope s__law_right) 0 0 .none).qual ++ "<lambda>")]) (fun p hp => by rw [List.mem_singleton.mp hp]; exact hT (tc19, tP19) List.mem_cons_self) hO hS hl, fun base _ _ TB => letI := tblOf [(tP19, (envOfC "_law_right" (defScope s__law_right) 0 0 .none).qual ++ "<lambda>")]; ok_law (c_PagesError := c_PagesError) (c_BadToken := c_BadToken) ⟨F1, b1, PySem.W.mg_of X G a1, F2, b2, PySem.W.mg_of X G a2, F3, b3, PySem.W.mg_of X G a3, F4, b4, PySem.W.mg_of X G a4, F5, b5, PySem.W.mg_of X G a5, F6, b6, PySem.W.mg_of X G a6, F7, b7, PySem.W.mg_of X G a7, F8, b8, PySem.W.mg_of X G a8, F9, b9, PySem.W.mg_of X G a9, F10, b10, PySem.W.mg_of X G a10, F11, b11, PySem.W.mg_of X G a11, F12, b12, PySem.W.mg_of X G a12, F13, b13, PySem.W.mg_of X G a13, F14, b14, PySem.W.mg_of X G a14, F15, b15, PySem.W.mg_of X G a15, F16, b16, PySem.W.mg_of X G a16, F17, b17, PySem.W.mg_of X G a17, F18, b18, PySem.W.mg_of X G a18, F19, b19, PySem.W.mg_of X G a19, F20, b20, PySem.W.mg_of X G a20, F21, b21, PySem.W.mg_of X G a21, PySem.W.mg_none_of X G z1, PySem.W.mg_none_of X G z2, PySem.W.mg_none_of X G z3, PySem.W.mg_none_of X G z4, PySem.W.mg_none_of X G z5, PySem.W.mg_none_of X G z6, PySem.W.mg_none_of X G z7, PySem.W.mg_none_of X G z8, PySem.W.mg_none_of X G z9, PySem.W.mg_none_of X G z10, PySem.W.mg_none_of X G z11, PySem.W.mg_none_of X G z12, PySem.W.mg_none_of X G z13, PySem.W.mg_none_of X G z14, PySem.W.mg_none_of X G z15, ⟨bn, bt⟩, X_BadToken, FI_BadToken, BI_BadToken, fun _ _ _ => ok_ini FI_BadToken sc_i_BadToken rfl X_BadToken (by decide) (by decide), PySem.W.mg_of X G aC_BadToken, exm_own eC_BadToken iC_BadToken tC_BadToken su_BadToken_BadToken⟩ ⟨⟨tc19, tP19, ta19, TB (tc19, tP19) List.mem_cons_self, List.mem_cons_self, fun p hp _ => by rw [List.mem_singleton.mp hp]⟩⟩⟩
end Z
open PySem PySem.W PyProof.Rows
set_option maxHeartbeats 0 in
theorem PySem.Challenge.cw_movingpages_k37_values_that_are_no_token_holds : PySem.Challenge.rw_movingpages_k37_values_that_are_no_token.Holds := by
  w_on; o_law; k_head; (case hw => w_witness2)
  k_fill
  refine Gd.walkGT (l := PySem.Challenge.rw_movingpages_k37_values_that_are_no_token) (n := 63) (k := 8) (x := "_law_script") rfl (by decide) rfl ⟨rfl, by decide, by decide⟩ (fun w h Y => PySem.W.km_in_of Y) ?F
  case F =>
    intro w mg fa h Y KX G hmg
    have hT8 := PySem.W.km_tabs_of Y
    refine' Z.all_mk KX G hmg ?a1 ?l1 ?c1 ?k1 ?a2 ?l2 ?c2 ?k2 ?a3 ?l3 ?c3 ?k3 ?a4 ?l4 ?c4 ?k4 ?a5 ?l5 ?c5 ?k5 ?a6 ?l6 ?c6 ?k6 ?a7 ?l7 ?c7 ?k7 ?a8 ?l8 ?c8 ?k8 ?a9 ?l9 ?c9 ?k9 ?a10 ?l10 ?c10 ?k10 ?a11 ?l11 ?c11 ?k11 ?a12 ?l12 ?c12 ?k12 ?a13 ?l13 ?c13 ?k13 ?a14 ?l14 ?c14 ?k14 ?a15 ?l15 ?c15 ?k15 ?a16 ?l16 ?c16 ?k16 ?a17 ?l17 ?c17 ?k17 ?a18 ?l18 ?c18 ?k18 ?a19 ?l19 ?c19 ?k19 ?a20 ?l20 ?c20 ?k20 ?a21 ?l21 ?c21 ?k21 ?aC_PagesError ?aC_BadToken ?xL_BadToken ?sa_BadToken ?ga_BadToken ?gg_BadToken ?nb_BadToken ?ai_BadToken ?ti_BadToken ?li_BadToken ?ci_BadToken ?ki_BadToken ?kC_BadToken ?eC_BadToken ?tC_BadToken ?hC_BadToken ?iC_BadToken ?ca_BadToken ?mo_BadToken ?bn ?bt ?su_BadToken_BadToken ?ta19 ?tb19 ?te19 ?tf19 ?tg19 ?th19 ?z1 ?z2 ?z3 ?z4 ?z5 ?z6 ?z7 ?z8 ?z9 ?z10 ?z11 ?z12 ?z13 ?z14 ?z15
    (case a1 => k_is)
    (case l1 => k_is)
    (case c1 => k_is)
    (case k1 => k_is)
    (case a2 => k_is)
    (case l2 => k_is)
    (case c2 => k_is)
    (case k2 => k_is)
    (case a3 => k_is)
    (case l3 => k_is)
    (case c3 => k_is)
    (case k3 => k_is)
    (case a4 => k_is)
    (case l4 => k_is)
    (case c4 => k_is)
    (case k4 => k_is)
    (case a5 => k_is)
    (case l5 => k_is)
    (case c5 => k_is)
    (case k5 => k_is)
    (case a6 => k_is)
    (case l6 => k_is)
    (case c6 => k_is)
    (case k6 => k_is)
    (case a7 => k_is)
    (case l7 => k_is)
    (case c7 => k_is)
    (case k7 => k_is)
    (case a8 => k_is)
    (case l8 => k_is)
    (case c8 => k_is)
    (case k8 => k_is)
    (case a9 => k_is)
    (case l9 => k_is)
    (case c9 => k_is)
    (case k9 => k_is)
    (case a10 => k_is)
    (case l10 => k_is)
    (case c10 => k_is)
    (case k10 => k_is)
    (case a11 => k_is)
    (case l11 => k_is)
    (case c11 => k_is)
    (case k11 => k_is)
    (case a12 => k_is)
    (case l12 => k_is)
    (case c12 => k_is)
    (case k12 => k_is)
    (case a13 => k_is)
    (case l13 => k_is)
    (case c13 => k_is)
    (case k13 => k_is)
    (case a14 => k_is)
    (case l14 => k_is)
    (case c14 => k_is)
    (case k14 => k_is)
    (case a15 => k_is)
    (case l15 => k_is)
    (case c15 => k_is)
    (case k15 => k_is)
    (case a16 => k_is)
    (case l16 => k_is)
    (case c16 => k_is)
    (case k16 => k_is)
    (case a17 => k_is)
    (case l17 => k_is)
    (case c17 => k_is)
    (case k17 => k_is)
    (case a18 => k_is)
    (case l18 => k_is)
    (case c18 => k_is)
    (case k18 => k_is)
    (case a19 => k_is)
    (case l19 => k_is)
    (case c19 => k_is)
    (case k19 => k_is)
    (case a20 => k_is)
    (case l20 => k_is)
    (case c20 => k_is)
    (case k20 => k_is)
    (case a21 => k_is)
    (case l21 => k_is)
    (case c21 => k_is)
    (case k21 => k_is)
    (case aC_PagesError => k_is)
    (case aC_BadToken => k_is)
    (case xL_BadToken => k_is)
    (case sa_BadToken => k_is)
    (case ga_BadToken => k_is)
    (case gg_BadToken => k_is)
    (case nb_BadToken => k_is)
    (case ai_BadToken => k_is)
    (case ti_BadToken => k_is)
    (case li_BadToken => k_is)
    (case ci_BadToken => k_is)
    (case ki_BadToken => k_is)
    (case kC_BadToken => k_is)
    (case eC_BadToken => k_is)
    (case tC_BadToken => k_is)
    (case hC_BadToken => k_is)
    (case iC_BadToken => k_is)
    (case ca_BadToken => k_is)
    (case mo_BadToken => k_is)
    (case bn => k_is)
    (case bt => k_is)
    (case su_BadToken_BadToken => first | k_is | rfl)
    (case ta19 => rfl)
    (case tb19 => k_is)
    (case te19 => rfl)
    (case tf19 => kernel_rfl)
    (case tg19 => first | k_is | kernel_rfl)
    (case th19 => exact hT8 _ (by k_mem))
    (case z1 => k_is)
    (case z2 => k_is)
    (case z3 => k_is)
    (case z4 => k_is)
    (case z5 => k_is)
    (case z6 => k_is)
    (case z7 => k_is)
    (case z8 => k_is)
    (case z9 => k_is)
    (case z10 => k_is)
    (case z11 => k_is)
    (case z12 => k_is)
    (case z13 => k_is)
    (case z14 => k_is)
    (case z15 => k_is)
