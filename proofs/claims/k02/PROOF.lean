import PyProof.Rows.All
import Wide.All
import OpenK.AllK
import Wide.FinOn
import HandS.Base
import HandS.Call
import HandS.List
import HandS.Comp
import HandS.Ends
import HandS.Words
import PyProof.ReprRoads
import PyProof.ReprReads
import HandS.Wide
import HandS.Text
import HandS.Iter
import PyProof.StrBlock2
import KE.KxText
import HandS.TupAny
import PyProof.ReprLen
import HandS.Style
import HandS.More
import HandS.IsInst
import PyProof.Rows.StrMeet
import HandS.StrMore
import PyProof.Rows.IntBool
import PyProof.NeData
import PyProof.CallStr
import HandS.Dict
import HandS.Zip
import HandS.Strs
import HandS.SetFor
import HandS.WordsDict
import KE.GoesMore
import KE.GoesEnum
import PyProof.Draws
import PyProof.EnumMake
import PyProof.EqKinds
import PyProof.EqAt
import HandS.SortInts
import HandS.TupLe
import HandS.TupMul
import PySem.Challenge.RW_movingpages_k02_histories_of_any_value
set_option Elab.async false
set_option linter.all false
set_option maxRecDepth 100000
set_option maxHeartbeats 4000000
/-! Promises of defs that are called while no repr is under way: then repr of data is its text. -/
namespace Gd
open PySem PySem.Spec PyProof.Rows L2
structure FnG (P : Program) (w : World) (K : PySem.W.Frag) (mg : Str → Option Value) (base : Heap) (k : Nat) (f : Addr) (fd : FuncData) (ps : List Str) (sp : Sp) : Prop where
  len : ∀ vs H Q E, sp vs H Q E → vs.length = ps.length
  go : ∀ {A : Around} {outer : List Env} {s : Shared} {H : Hp} {args : Args} {us : List Value} {vs : List V} {Q : VK} {E : XK}, A.guards = some [] → Room k A →
    Env0 P w K mg base A outer s H → BindsTo s fd args (ps.zip us) → Vals vs us → sp vs H Q E → codeAny (model P w) A (.call (.ref f) args) (CR CX0 outer P w H s Q E) s
section
variable {P : Program} {w : World} {K : PySem.W.Frag} {mg : Str → Option Value} {base : Heap} {k : Nat} {f : Addr} {fd : FuncData} {ps : List Str} {sp : Sp}
theorem FnG.up {j : Nat} (G : FnG P w K mg base j f fd ps sp) (h : j ≤ k) : FnG P w K mg base k f fd ps sp :=
  ⟨G.len, fun g r e b v q => G.go g (r.mono h) e b v q⟩
/-- a def's body, walked while no repr is under way -/
theorem okG {x qual : Str} {st : Stmt} {N : List Str} (F : Fun K x qual st f fd) (S : FnScope N ps (defScope st)) (len : ∀ vs H Q E, sp vs H Q E → vs.length = ps.length)
    (B : ∀ (cdv : Value) (A : Around) (outer : List Env) (s : Shared) (H : Hp) (vs : List V) (Q : VK) (E : XK), A.guards = some [] → Room k (A.deeper (envOfC qual (defScope st) s.heap.objs.size f cdv)) → sp vs H Q E →
      ∃ t, PSs (cxOf CX0 P w K mg base N qual (defScope st) f cdv A outer s H E).nox (defBody st) t ∧ t { nx := fun _ H' => Q .non H', rt := Q } (start N vs) H) : FnG P w K mg base (k + 1) f fd ps sp := by
  obtain ⟨oc, od, kV, doc, pm, an, cdv, ct, osl, rfl, lk, hcd⟩ := F.ex
  refine ⟨len, fun {A outer s H args us vs Q E} g room env0 bt rel want => ?_⟩
  have kin : K.In s.heap := env0.mod.kin.keeps fun b o q => (env0.bs b o q).1
  have nol : s.heap.NoLimit := env0.mod.nolimit.keeps fun b o q => (env0.bs b o q).1
  refine codeAny_call_function room.depth (kin _ _ lk) rfl S.co S.gen rfl (PySem.W.codeRec_of kin hcd) (bt _ _ _ _ ?_)
  refine wpAny_newFunctionEnv_cells S.kind ?_ fun env ee s1 inn => ?_
  · rintro ⟨n, v⟩ hy
    refine (S.par n (List.of_mem_zip hy).1).elim Or.inl fun q => Or.inr ⟨q, ?_⟩
    exact PySem.W.cellsFrom_some _ _ _ (Or.inl q)
  subst ee
  refine ⟨nol.keeps inn.toInCall.keep, codeAny_func ?_⟩
  obtain ⟨t, ht, hq⟩ := B cdv A outer s H vs Q E g (room.deeper _) want
  have I0 := inv_start (CX := CX0) (E := E) S room.hd env0 (len _ _ _ _ want) rel inn
  refine wpAny_mono (ht.nox.run [] s1 (start N vs) H _ I0 hq) (fun fl s' z => ?_) fun _ _ z => z
  cases fl with
  | ret u =>
    obtain ⟨v, σ', H', J, rv, q⟩ := z
    exact ⟨v, H', J.os, J.bare, J.base, J.hok, rv, q⟩
  | next =>
    obtain ⟨σ', H', J, q⟩ := z
    exact ⟨V.non, H', J.os, J.bare, J.base, J.hok, rfl, q⟩
  | brk => exact z.elim fun _ z => z.elim fun _ z => z.2.elim
  | cont => exact z.elim fun _ z => z.elim fun _ z => z.2.elim
end
section
variable {X : Cx} {k : Nat} {f : Addr} {fd : FuncData} {ps : List Str} {sp : Sp} {x : Str} {p pos : Pos} {e : Expr} {es : List Expr} {t : TA}
/-- f(e, ..) of such a def -/
theorem pe_callG (F : FnG X.prog X.w X.K X.mg X.base k f fd ps sp) (g : X.A.guards = some []) (room : Room k X.A) (hg : Gl X x) (hm : X.mg x = some (.ref f)) (hk : PySem.W.keepIn X.K (.ref f) = true) (hb : Binds X.K fd ps [])
    (ha : PA X (e :: es) t) (hdb : (x == ("__debug__" : Str)) = false := by decide) (he : starEach (e :: es) X.env = (false, eval e X.env) :: starEach es X.env := by rfl) (hpl : (backTo pos (starEach es X.env)).any (·.1) = false := by rfl) :
    PE X (.Call (.Name x p) (e :: es) [] pos) (tCall sp [] E0 t) := ⟨fun pins s σ H Q I h => by
  refine wpAny_Call_Name_kw (ld_glob I hg hm ?_ hdb)
  refine PySem.W.callWith_K (h₀ := X.base) I.ok.mod.kin hk (thn (ha.run pos pins s σ H _ I h) ?_) he hpl
  rintro us s1 ⟨vs, H1, I1, r, q⟩
  refine ⟨I1.kIn, ?_⟩
  have r0 : Vals (vs ++ []) (us ++ []) := r.append .nil
  have z := F.len _ _ _ _ q
  rw [r0.length] at z
  refine wpAny_call (codeAny_mono (F.go g room I1.env0 (hb s1 us I1.kIn z) r0 q) fun res s' hq => ?_)
  cases res with
  | error _ => exact False.elim hq
  | ok fl =>
    cases fl with
    | ret u => exact I1.after hq
    | next => exact False.elim hq
    | brk => exact False.elim hq
    | cont => exact False.elim hq⟩
end
/-- repr(x) of data without dicts -/
def rShow (K : PySem.W.Frag) : List V → Hp → VK → Prop := fun xs H Q => ∃ x d, xs = [x] ∧ Dp K H x d ∧ d.showable = true ∧ d.hasDict = false ∧ d.depth ≤ 60 ∧ d.shown.length ≤ sizeLine ∧ Q (.str d.shown) H
theorem call_show {X : Cx} (g : X.A.guards = some []) (hu : X.A.units + 64 < cLine) : CallR X (.builtin "repr") (rShow X.K) := by
  rintro pins s σ H xs us Q I r ⟨x, d, rfl, hd, hs, hn, hz, hl, q⟩
  obtain ⟨u, rfl, rx⟩ := vals1 r
  obtain ⟨as, rd⟩ := Dp.reads I d x u hd rx
  have keep : ∀ (h' : Heap) (tk : Nat), (∀ b o, s.heap.get? b = some o → h'.get? b = some o) → Inv X pins σ H { s with heap := h', toks := tk } := fun h' tk hk => I.un (Un.kept hk) (I.hok.kept hk)
  cases rd with
  | none => exact PySem.P.repr_of_none ⟨.str _, H, I.tok _, ⟨_, rfl⟩, q⟩
  | bool b => exact PySem.P.repr_of_bool ⟨.str _, H, I.tok _, ⟨_, rfl⟩, q⟩
  | int i t => exact PySem.P.repr_of_int (of_decide_eq_true hs) ⟨.str _, H, I.tok _, ⟨_, rfl⟩, q⟩
  | str x t => exact PySem.P.repr_of_str ⟨.str _, H, I.tok _, ⟨_, rfl⟩, q⟩ hl
  | list h1 h2 h3 h4 => exact repr_of_reads' (.list h1 h2 h3 h4) hs (PyData.noDict_hsm hn) g (by omega) (fun _ _ z => z) (fun h' v tk hk => ⟨.str _, H, keep h' tk hk, ⟨v, rfl⟩, q⟩) hl
  | tuple h1 h2 h3 h4 => exact repr_of_reads' (.tuple h1 h2 h3 h4) hs (PyData.noDict_hsm hn) g (by omega) (fun _ _ z => z) (fun h' v tk hk => ⟨.str _, H, keep h' tk hk, ⟨v, rfl⟩, q⟩) hl
  | dict h1 h2 h3 h4 h5 => cases hn
/-- the goal that k_head leaves, by such a promise of the law -/
theorem law_callG {P : Program} {w : World} {K : PySem.W.Frag} {mg mb : Str → Option Value} {k : Nat} {fa a : Addr} {fd : FuncData} {x : Str} {sp : Sp} {s₁ : Shared} {vs : List Value} {ns : List Int}
    (kin : K.In s₁.heap) (hns : s₁.heap.Ns mainGlobals mg) (hb : s₁.heap.Ns builtinsNs mb) (hbb : ∀ x : Str, x ≠ "__name__" → mb x = bootBuiltins x) (hlim : s₁.heap.NoLimit) (hg : s₁.gens = #[])
    (ha : s₁.heap.get? a = some { cls := .type "list", data := .seq vs.toArray }) (hi : IntsAre vs ns) (hl : ns.length ≤ sizeLine) (room : Room k callerA)
    (F : ∀ base : Heap, K.In base → base.Ns mainGlobals mg → FnG P w K mg base k fa fd [x] sp) (bind : ∀ (s : Shared) (u : Value), BindsTo s fd ⟨[u], []⟩ [(x, u)])
    (want : ∀ H : Hp, Only H → SqL K H a (ns.map V.int) → sp [.ref a] H (fun v _ => v = .bl true) fun _ _ _ => False) :
    codeAny (model P w) callerA (.call (.ref fa) ⟨[.ref a], []⟩) (fun r s' => r = .ok (.ret (.bool true)) ∧ OldK s₁.heap s'.heap ∧ s'.os = s₁.os ∧ AllBare s'.gens) s₁ := by
  have main : ∀ H : Hp, Only H → SqL K H a (ns.map V.int) → HOk P w H s₁.heap → (∀ b u, H b = some u → b = a ∧ K.lookup a = none) →
      codeAny (model P w) callerA (.call (.ref fa) ⟨[.ref a], []⟩) (fun r s' => r = .ok (.ret (.bool true)) ∧ OldK s₁.heap s'.heap ∧ s'.os = s₁.os ∧ AllBare s'.gens) s₁ := by
    intro H hO hS hok hA
    have off : ∀ {b : Addr} {o : Obj} {es : Array DictEntry} {ep : Nat}, s₁.heap.get? b = some o → o.data = .dict es ep → H b = none := by
      intro b o es ep e d
      cases q : H b with
      | none => rfl
      | some u =>
        obtain ⟨rfl, _⟩ := hA b u q
        rw [ha] at e
        cases e
        exact Data.noConfusion d
    have names : ∀ {b : Addr} {m : Str → Option Value}, s₁.heap.Ns b m → (hidT s₁.heap H).Ns b m := by
      rintro b m ⟨o, es, ep, e, d, r⟩
      exact ⟨o, es, ep, hidT_get e (off e d), d, r⟩
    have kin' : K.In (hidT s₁.heap H) := by
      intro b o e
      refine hidT_get (kin b o e) ?_
      cases q : H b with
      | none => rfl
      | some u =>
        obtain ⟨rfl, z⟩ := hA b u q
        rw [z] at e
        cases e
    obtain ⟨mc, l1, l2⟩ := hlim
    have hM : Mod K mg (hidT s₁.heap H) := ⟨kin', names hns, ⟨mb, names hb, hbb⟩, ⟨mc, names l1, l2⟩⟩
    have env0 : Env0 P w K mg (hidT s₁.heap H) callerA [] s₁ H :=
      ⟨rfl, hM, fun b o e => of_hidT e, Nat.le_of_eq (hidT_size _ _), trivial, fun b hb => (nomatch hb), hok, .of_eq hg⟩
    refine codeAny_mono ((F _ kin' (names hns)).go (us := [.ref a]) (vs := [.ref a]) rfl room env0 (bind s₁ (.ref a)) (.cons rfl .nil) (want H hO hS)) fun r s' h => ?_
    cases r with
    | error e => exact h.elim
    | ok fl =>
      cases fl with
      | next => exact False.elim h
      | brk => exact False.elim h
      | cont => exact False.elim h
      | ret u =>
        obtain ⟨v, H', os, bare, un, hok', r', q⟩ := h
        have q' : v = .bl true := q
        subst q'
        obtain rfl : u = Value.bool true := r'
        refine ⟨rfl, OldK.of_keep fun b o e => ?_, os, bare⟩
        rcases hO b with z | ⟨ob, xs, z⟩
        · exact un.keep b o e z (fun y => (nomatch y)) (fun y => (nomatch y))
        · obtain ⟨e1, _⟩ := hok b _ z
          obtain ⟨e2, _⟩ := hok' b _ (un.frzs b ob _ z)
          rw [e] at e1
          cases e1
          exact e2
  have lenV := hi.length
  have rv := vals_ints hi
  cases hk : K.lookup a with
  | some o =>
    have e := kin a o hk
    rw [ha] at e
    cases e
    refine main (fun _ => none) (fun _ => .inl rfl) (.inr ⟨_, vs.toArray, _, hk, rfl, rfl, rfl, ?_, ?_⟩) (fun b u z => (nomatch z)) (fun b u z => (nomatch z))
    · rw [List.size_toArray, lenV]
      exact hl
    · simpa using rv
  | none =>
    have at_a : ∀ (b : Addr) (u : HO), (if b = a then some (HO.frz { cls := .type "list", data := .seq vs.toArray } (.lst (ns.map V.int))) else none) = some u → b = a ∧ u = HO.frz { cls := .type "list", data := .seq vs.toArray } (.lst (ns.map V.int)) := by
      intro b u z
      split at z
      · next e => exact ⟨e, (Option.some.inj z).symm⟩
      · cases z
    refine main (fun b => if b = a then some (.frz { cls := .type "list", data := .seq vs.toArray } (.lst (ns.map V.int))) else none) (fun b => ?_) (.inl (.inr ⟨_, if_pos rfl⟩)) (fun b u z => ?_) (fun b u z => ⟨(at_a b u z).1, hk⟩)
    · by_cases hb : b = a
      · exact .inr ⟨_, _, if_pos hb⟩
      · exact .inl (if_neg hb)
    · obtain ⟨rfl, rfl⟩ := at_a b u z
      exact ⟨ha, by rw [List.length_map]; exact hl, vs, _, rv, ha⟩
theorem walkG {l : PySem.W.OpenLaw} {n k : Nat} {q : Program} {loose : List Str} {XP : (Str → Option Value) → Heap → Prop} {YP : World → Heap → Prop} {d : DefRec} {K : Params → PySem.W.Frag} {sp : PySem.W.Frag → Sp} {x : Str}
    (hn : l.most = some n) (hn2 : n ≤ sizeLine) (hdf : d.params.defaults = []) (room : Room k callerA) (hY : ∀ (w : World) (h : Heap), YP w h → (K w.params).In h)
    (F : ∀ (w : World) (mg : Str → Option Value) (fa : Addr) (h : Heap), (K w.params).In h → h.Ns mainGlobals mg → mg d.name = some (.ref fa) → ∃ fd : FuncData, (∀ (s : Shared) (u : Value), BindsTo s fd ⟨[u], []⟩ [(x, u)]) ∧
        ∀ base : Heap, (K w.params).In base → base.Ns mainGlobals mg → FnG l.prog w (K w.params) mg base k fa fd [x] (sp (K w.params)))
    (want : ∀ (K : PySem.W.Frag) (H : Hp) (a : Addr) (ns : List Int), ns.length ≤ n → Only H → SqL K H a (ns.map V.int) → sp K [.ref a] H (fun v _ => v = .bl true) fun _ _ _ => False) :
    PySem.W.WalkO q loose XP YP l.row.toRowW d [] (fun f vs => PySem.call f vs) :=
  Att.attach_call hn hdf fun w s₀ s₁ mg mb fa o pm cd doc a vs ns G Y ho hd hcd hmg hobj hints hlen hg => by
    obtain ⟨fd, hb, hF⟩ := F w mg fa _ (hY w _ Y) G.T.g hmg
    exact law_callG (hY w _ Y) G.T.g G.T.b G.T.builtins G.T.nolimit hg hobj hints (Nat.le_trans hlen hn2) room hF hb fun H hO hS => want _ H a ns hlen hO hS
end Gd
namespace M
open PySem PySem.Spec PyProof.Rows L2 Gd
def topS (i : Nat) : Stmt := PySem.Challenge.pw_movingpages_k02_histories_of_any_value.main.body.getD i (.Pass ⟨0, 0, 0, 0⟩)
/-- the hand at a: its three ints, at most n draws old -/
def Hd (H : Hp) (a : Addr) (n : Nat) : Prop := ∃ g s t : Int, H a = some (.lst [.int g, .int s, .int t]) ∧ 0 ≤ g ∧ 0 ≤ s ∧ s < 2305843009213693952 ∧ 0 ≤ t ∧ t ≤ n
/-- all but what stands at a is as it was -/
def But (a : Addr) (H H' : Hp) : Prop := ∀ b o, b ≠ a → H b = some o → H' b = some o
theorem But.refl (a : Addr) (H : Hp) : But a H H := fun _ _ _ h => h
theorem But.trans {a : Addr} {H H1 H2 : Hp} (x : But a H H1) (y : But a H1 H2) : But a H H2 := fun b o n h => y b o n (x b o n h)
theorem But.new {a p : Addr} {H H1 : Hp} {o : HO} (x : But a H H1) (h : H1 p = none) : But a H (upd H1 p o) := fun b u n e => by
  have e1 := x b u n e
  rw [upd_ne (ne_of_none e1 h)]
  exact e1
theorem But.put {a : Addr} {H H1 : Hp} {o : HO} (x : But a H H1) : But a H (upd H1 a o) := fun b u n e => by
  rw [upd_ne n]
  exact x b u n e
/-- an object that was new ahead of all may change -/
theorem But.own {a p : Addr} {H H1 : Hp} {o : HO} (x : But a H H1) (h : H p = none) : But a H (upd H1 p o) := fun b u n e => by
  rw [upd_ne (ne_of_none e h)]
  exact x b u n e
theorem Hd.up {H : Hp} {a : Addr} {n m : Nat} (h : Hd H a n) (l : n ≤ m) : Hd H a m := by
  obtain ⟨g, s, t, e, h1, h2, h3, h4, h5⟩ := h
  exact ⟨g, s, t, e, h1, h2, h3, h4, by omega⟩
theorem Hd.some {H : Hp} {a : Addr} {n : Nat} (h : Hd H a n) : ∃ xs, H a = some (.lst xs) := by
  obtain ⟨g, s, t, e, _⟩ := h
  exact ⟨_, e⟩
theorem Hd.new {H : Hp} {a p : Addr} {n : Nat} {o : HO} (h : Hd H a n) (hp : H p = none) : Hd (upd H p o) a n := by
  obtain ⟨g, s, t, e, r⟩ := h
  exact ⟨g, s, t, by rw [upd_ne (ne_of_none e hp)]; exact e, r⟩
theorem Hd.ne {H : Hp} {a p : Addr} {n : Nat} (h : Hd H a n) (hp : H p = none) : p ≠ a := fun z => by
  obtain ⟨g, s, t, e, r⟩ := h
  rw [z, e] at hp
  cases hp
theorem Hd.oth {H : Hp} {a p : Addr} {n : Nat} {o : HO} (h : Hd H a n) (hp : p ≠ a) : Hd (upd H p o) a n := by
  obtain ⟨g, s, t, e, r⟩ := h
  exact ⟨g, s, t, by rw [upd_ne (Ne.symm hp)]; exact e, r⟩
/-! ### take -/
abbrev sTake : Stmt := topS 14
theorem scTake : FnScope ["_law_hand_here", "_law_many", "_law_digit", "_law_prime", "_law_turn", "_law_mixed"] ["_law_hand_here", "_law_many"] (defScope sTake) := ⟨rfl, rfl, rfl, by decide +kernel, rfl, by decide +kernel, by decide +kernel⟩
def spTake : Sp := fun vs H Q _ => ∃ (a : Addr) (n : Nat) (m : Int), vs = [.ref a, .int m] ∧ Hd H a n ∧ n < 1000000 ∧ 0 < m ∧ m < 1073741824 ∧
  ∀ H' (v : Int), But a H H' → Hd H' a (n + 1) → 0 ≤ v → v < m → Q (.int v) H'
section
variable {P : Program} {w : World} {K : PySem.W.Frag} {mg : Str → Option Value} {base : Heap}
theorem prime_at {i : Int} (h0 : 0 ≤ i) (h1 : i < 6) : ∃ p : Int, atI [V.int 2147483647, V.int 2147483629, V.int 2147483587, V.int 2147483579, V.int 2147483563, V.int 2147483549] i = some (V.int p) ∧ 0 < p ∧ p < 2147483648 := by
  obtain ⟨j, rfl⟩ := Int.eq_ofNat_of_zero_le h0
  have hj : j < 6 := by omega
  match j, hj with
  | 0, _ => exact ⟨_, atI_nat (j := 0) rfl, by decide, by decide⟩
  | 1, _ => exact ⟨_, atI_nat (j := 1) rfl, by decide, by decide⟩
  | 2, _ => exact ⟨_, atI_nat (j := 2) rfl, by decide, by decide⟩
  | 3, _ => exact ⟨_, atI_nat (j := 3) rfl, by decide, by decide⟩
  | 4, _ => exact ⟨_, atI_nat (j := 4) rfl, by decide, by decide⟩
  | 5, _ => exact ⟨_, atI_nat (j := 5) rfl, by decide, by decide⟩
theorem sq_bound {t : Int} (h0 : 0 ≤ t) (h1 : t ≤ 1000000) : 0 ≤ 65537 * t * t ∧ 65537 * t * t ≤ 65537000000000000 := by
  have a1 : 0 ≤ 65537 * t := by omega
  have a2 : 65537 * t ≤ 65537000000 := by omega
  have b1 : 0 ≤ 65537 * t * t := Int.mul_nonneg a1 h0
  have b2 : 65537 * t * t ≤ 65537000000 * 1000000 := Int.mul_le_mul a2 h1 h0 (by decide)
  exact ⟨b1, by omega⟩
theorem ok_take {f : Addr} {fd : FuncData} {k : Nat} (F : Fun K "_law_take" "_law_take" sTake f fd) : FnOk P w K mg base CX0 (k + 1) f fd ["_law_hand_here", "_law_many"] spTake := by
  refine F.ok scTake (fun vs H Q E h => ?_) (fun cdv A outer s H vs Q E hr h => ?_)
  · obtain ⟨a, n, m, rfl, _⟩ := h
    rfl
  · obtain ⟨a, n, m, rfl, ⟨g, sd, t, ha, g0, s0, s1, t0, t1⟩, hn, m0, m1, q⟩ := h
    refine ⟨_, pss_cons (ps_if (pt_cmpR op_gt (pe_ix ix_list (pv 0) pe_int (fun _ _ => rfl)) pe_int (nomark _))
        (pss_cons (ps_set (i := 2) scTake.nd rfl (.inl rfl) (pe_op op_mod (pe_ix ix_list (pv 0) pe_int (fun _ _ => rfl)) (pv 1)))
        (pss_cons (ps_asg (pe_op op_fdivN (pe_ix ix_list (pv 0) pe_int (fun _ _ => rfl)) (pv 1)) (pg_sub (pv 0) pe_int set_list))
        (pss_one (ps_ret (pv 2))))) pss_nil)
      (pss_cons (ps_asg (pe_op op_add (pe_ix ix_list (pv 0) pe_int (fun _ _ => rfl)) pe_int) (pg_sub (pv 0) pe_int set_list))
      (pss_cons (ps_set (i := 3) scTake.nd rfl (.inl rfl) (pe_ix ix_list (pe_lst (pa_cons pe_int (pa_cons pe_int (pa_cons pe_int (pa_cons pe_int (pa_cons pe_int (pa_cons pe_int pa_nil)))))))
          (pe_op op_mod (pe_ix ix_list (pv 0) pe_int (fun _ _ => rfl)) pe_int) (fun _ _ => rfl)))
      (pss_cons (ps_set (i := 4) scTake.nd rfl (.inl rfl) (pe_ix ix_list (pv 0) pe_int (fun _ _ => rfl)))
      (pss_cons (ps_set (i := 5) scTake.nd rfl (.inl rfl) (pe_op op_mod (pe_op op_pow (pe_op op_add (pe_op op_add (pe_ix ix_list (pv 0) pe_int (fun _ _ => rfl)) (pe_op op_mul (pe_op op_mul pe_int (pv 4)) (pv 4))) (pe_op op_mul pe_int (pv 4))) pe_int) (pv 3)))
      (pss_one (ps_ret (pe_op op_mod (pe_op op_fdivN (pe_op op_mod (pe_op op_mul (pv 5) (pe_op op_add (pe_op op_mod (pv 5) pe_int) (pe_op op_mul pe_int (pv 4)))) pe_int) pe_int) (pv 1)))))))), ?_⟩
    have hA : SqL K H a [.int g, .int sd, .int t] := .inl (.inl ha)
    -- if hand[0] > 0
    refine ⟨.ref a, rfl, a, _, 0, .int g, rfl, rfl, hA, atI_nat (j := 0) rfl, g, 0, rfl, rfl, _, rfl, ite2 (fun e => ?_) (fun e => ?_)⟩
    · -- digit = hand[0] % many
      refine ⟨.ref a, rfl, a, _, 0, .int g, rfl, rfl, hA, atI_nat (j := 0) rfl, .int m, rfl, g, m, rfl, rfl, m0, ?_⟩
      -- hand[0] = hand[0] // many
      refine ⟨.ref a, rfl, a, _, 0, .int g, rfl, rfl, hA, atI_nat (j := 0) rfl, .int m, rfl, g, m, rfl, rfl, ⟨by omega, by omega⟩, ?_⟩
      refine ⟨.ref a, rfl, a, _, 0, 0, rfl, rfl, ha, rfl, ?_⟩
      refine ⟨.int (g % m), rfl, ?_⟩
      refine q _ _ (But.refl a H).put ⟨g.fdiv m, sd, t, upd_same, ?_, s0, s1, t0, by omega⟩ (Int.emod_nonneg _ (by omega)) (Int.emod_lt_of_pos _ m0)
      rw [Int.fdiv_eq_ediv_of_nonneg g (by omega)]
      exact Int.ediv_nonneg g0 (by omega)
    · -- hand[2] = hand[2] + 1
      refine ⟨.ref a, rfl, a, _, 2, .int t, rfl, rfl, hA, atI_nat (j := 2) rfl, t, 1, rfl, rfl, ?_⟩
      refine ⟨.ref a, rfl, a, _, 2, 2, rfl, rfl, ha, rfl, ?_⟩
      have hB : (upd H a (.lst [.int g, .int sd, .int (t + 1)])) a = some (.lst [.int g, .int sd, .int (t + 1)]) := upd_same
      -- prime
      refine ⟨(by show 6 ≤ sizeLine; decide), fun l hl => ?_⟩
      have nal : a ≠ l := ne_of_none hB hl
      have hC : (upd (upd H a (.lst [.int g, .int sd, .int (t + 1)])) l (.lst [.int 2147483647, .int 2147483629, .int 2147483587, .int 2147483579, .int 2147483563, .int 2147483549])) a = some (.lst [.int g, .int sd, .int (t + 1)]) := by
        rw [upd_ne nal]
        exact hB
      obtain ⟨p, hp, p0, p1⟩ := prime_at (i := (t + 1) % 6) (Int.emod_nonneg _ (by decide)) (Int.emod_lt_of_pos _ (by decide))
      refine ⟨.ref a, rfl, a, _, 2, .int (t + 1), rfl, rfl, .inl (.inl hC), atI_nat (j := 2) rfl, t + 1, 6, rfl, rfl, (by show (0 : Int) < 6; decide), ?_⟩
      refine ⟨l, _, (t + 1) % 6, .int p, rfl, rfl, .inl (.inl upd_same), hp, ?_⟩
      -- turn
      refine ⟨.ref a, rfl, a, _, 2, .int (t + 1), rfl, rfl, .inl (.inl hC), atI_nat (j := 2) rfl, ?_⟩
      -- mixed
      have B := sq_bound (t := t + 1) (by omega) (by omega)
      have hb : (sd + 65537 * (t + 1) * (t + 1) + 31 * (t + 1)).natAbs < 2 ^ 64 := by omega
      refine ⟨.ref a, rfl, a, _, 1, .int sd, rfl, rfl, .inl (.inl hC), atI_nat (j := 1) rfl, .int (t + 1), rfl, 65537, t + 1, rfl, rfl, .inl ⟨by decide, by decide⟩, .int (t + 1), rfl, _, t + 1, rfl, rfl, .inr ⟨by omega, by omega⟩,
        _, _, rfl, rfl, .int (t + 1), rfl, 31, t + 1, rfl, rfl, .inl ⟨by decide, by decide⟩, _, _, rfl, rfl, _, 3, rfl, rfl, ⟨by decide, by decide, hb⟩, .int p, rfl, _, p, rfl, rfl, p0, ?_⟩
      -- the end
      have x0 : 0 ≤ (sd + 65537 * (t + 1) * (t + 1) + 31 * (t + 1)) ^ (3 : Int).toNat % p := Int.emod_nonneg _ (by omega)
      have x1 : (sd + 65537 * (t + 1) * (t + 1) + 31 * (t + 1)) ^ (3 : Int).toNat % p < p := Int.emod_lt_of_pos _ p0
      refine ⟨_, rfl, _, rfl, _, 10007, rfl, rfl, (by show (0 : Int) < 10007; decide), .int (t + 1), rfl, 13, t + 1, rfl, rfl, .inl ⟨by decide, by decide⟩, _, _, rfl, rfl, _, _, rfl, rfl, .inl ⟨by omega, by omega⟩,
        _, 2305843009213693907, rfl, rfl, (by show (0 : Int) < 2305843009213693907; decide), _, 97, rfl, rfl, ⟨by decide, by decide⟩, .int m, rfl, _, m, rfl, rfl, m0, ?_⟩
      refine q _ _ ((But.refl a H).put.new hl) ⟨g, sd, t + 1, hC, g0, s0, s1, by omega, by omega⟩ (Int.emod_nonneg _ (by omega)) (Int.emod_lt_of_pos _ m0)
end
end M
namespace M
open PySem PySem.Spec PyProof.Rows L2 Gd
/-! ### pick -/
abbrev sPick : Stmt := topS 15
theorem scPick : FnScope ["_law_hand_here", "_law_items"] ["_law_hand_here", "_law_items"] (defScope sPick) := ⟨rfl, rfl, rfl, by decide +kernel, rfl, by decide +kernel, by decide +kernel⟩
def spPick : Sp := fun vs H Q _ => ∃ (a : Addr) (n : Nat) (x : V), vs = [.ref a, x] ∧ Hd H a n ∧ n < 1000000 ∧
  ((∃ b xs, x = .ref b ∧ b ≠ a ∧ (H b = some (.lst xs) ∨ H b = some (.tup xs)) ∧ 0 < xs.length ∧ xs.length ≤ 1000 ∧ ∀ H' v, But a H H' → Hd H' a (n + 1) → v ∈ xs → Q v H') ∨
   (∃ z : Str, x = .str z ∧ 0 < z.length ∧ z.length ≤ 1000 ∧ ∀ H' c, But a H H' → Hd H' a (n + 1) → c ∈ z.cps.toList → Q (.str ⟨#[c]⟩) H'))
theorem at_in {α : Type} {xs : List α} {i : Int} (h0 : 0 ≤ i) (h1 : i < (xs.length : Int)) : ∃ v, v ∈ xs ∧ atI xs i = some v := by
  obtain ⟨j, rfl⟩ := Int.eq_ofNat_of_zero_le h0
  have hj : j < xs.length := by omega
  exact ⟨xs[j], List.getElem_mem hj, atI_nat (List.getElem?_eq_getElem hj)⟩
theorem sz1000 {n : Nat} (h : n ≤ 1000) : n ≤ sizeLine := Nat.le_trans h (by decide)
section
variable {P : Program} {w : World} {K : PySem.W.Frag} {mg : Str → Option Value} {base : Heap}
theorem ok_pick {f fT : Addr} {fd fdT : FuncData} {k : Nat} (F : Fun K "_law_pick" "_law_pick" sPick f fd) (FT : Fun K "_law_take" "_law_take" sTake fT fdT) (bT : Binds K fdT ["_law_hand_here", "_law_many"] []) (gT : mg "_law_take" = some (.ref fT)) (ml : mg "len" = none) :
    FnOk P w K mg base CX0 (k + 2) f fd ["_law_hand_here", "_law_items"] spPick := by
  have GT : FnOk P w K mg base CX0 (k + 1) fT fdT ["_law_hand_here", "_law_many"] spTake := ok_take FT
  refine F.ok scPick (fun vs H Q E h => ?_) (fun cdv A outer s H vs Q E hr h => ?_)
  · obtain ⟨a, n, x, rfl, _⟩ := h
    rfl
  · obtain ⟨a, n, x, rfl, hh, hn, h⟩ := h
    refine ⟨_, pss_one (ps_ret (pe_ix ix_seq (pv 1) (pe_call GT hr (by rfl) gT FT.kp bT .nil pass0 (pa_cons (pv 0) (pa_cons (pe_callB call_len (by rfl) ml PySem.boot_len (pa_cons (pv 1) pa_nil)) pa_nil))) (fun _ _ => rfl))), ?_⟩
    rcases h with ⟨b, xs, rfl, nb, hb, l0, l1, q⟩ | ⟨z, rfl, l0, l1, q⟩
    · have hl : LenV K (.ref b) H xs.length := by
        rcases hb with hb | hb
        · exact .inl ⟨xs, SqL.of hb, rfl⟩
        · exact .inr ⟨xs, SqT.of hb, rfl⟩
      refine ⟨.ref b, rfl, .ref a, rfl, .ref b, rfl, _, xs.length, rfl, hl, a, n, xs.length, rfl, hh, hn, by omega, by omega, fun H' v sb hd v0 v1 => ?_⟩
      obtain ⟨y, hy, ey⟩ := at_in (xs := xs) v0 v1
      rcases hb with hb | hb
      · exact .inl ⟨b, xs, v, y, rfl, rfl, SqL.of (sb b _ nb hb), ey, q H' y sb hd hy⟩
      · exact .inr (.inl ⟨b, xs, v, y, rfl, rfl, SqT.of (sb b _ nb hb), ey, q H' y sb hd hy⟩)
    · refine ⟨.str z, rfl, .ref a, rfl, .str z, rfl, _, z.length, rfl, ⟨sz1000 l1, rfl⟩, a, n, z.length, rfl, hh, hn, by omega, by omega, fun H' v sb hd v0 v1 => ?_⟩
      obtain ⟨y, hy, ey⟩ := at_in (xs := z.cps.toList) v0 (by rw [show z.cps.toList.length = z.length from Array.length_toList]; exact v1)
      exact .inr (.inr ⟨z, v, y, rfl, rfl, sz1000 l1, ey, q H' y sb hd hy⟩)
end
/-! ### names -/
theorem op_rep_str {X : Cx} : OpR X (binaryOp .Mult) (fun x y H Q => ∃ z n, x = .str z ∧ y = .int n ∧ MulOk z n ∧ Q (.str (Txt.mul z n)) H) := by
  rintro pins s σ H x y v u Q I rx ry ⟨z, n, rfl, rfl, ok, q⟩
  obtain ⟨t, rfl⟩ := rx
  obtain ⟨t', rfl⟩ := ry
  exact SB.mul ok fun _ k => ⟨.str _, H, I.tok _, ⟨_, rfl⟩, q⟩
/-- a row -/
def RowS (z : Str) : Prop := 1 ≤ z.length ∧ z.length ≤ 8 ∧ ∀ c ∈ z.cps.toList, 97 ≤ c ∧ c ≤ 122
abbrev abc : Str := "abcdefghijklmnopqrstuvwxyz"
theorem abc_len : abc.length = 26 := by decide +kernel
theorem abc_at : ∀ j : Nat, j < 26 → abc.cps.toList[j]? = some (97 + j) := by decide +kernel
theorem abc_mem : ∀ c ∈ abc.cps.toList, 97 ≤ c ∧ c ≤ 122 := by decide +kernel
def nmS (z : Str) (k : Nat) (c : Nat) : Str := cutS z none (some (k : Int)) ++ ⟨#[c]⟩ ++ cutS z (some (k : Int)) none
theorem len_cps (z : Str) : z.cps.toList.length = z.length := Array.length_toList
theorem nmS_list {z : Str} {k c : Nat} (hk : k ≤ z.length) : (nmS z k c).cps.toList = z.cps.toList.take k ++ c :: z.cps.toList.drop k := by
  unfold nmS cutS
  rw [PySem.W.KT.app_list, PySem.W.KT.app_list, HT.sIx_none, HT.sIx_none, HT.sIx_nat, HT.sIx_nat, Nat.min_eq_left hk]
  show (List.take (k - 0) (List.drop 0 z.cps.toList)) ++ [c] ++ List.take (z.length - k) (List.drop k z.cps.toList) = _
  rw [List.drop_zero, Nat.sub_zero, List.append_assoc]
  have e : List.take (z.length - k) (List.drop k z.cps.toList) = List.drop k z.cps.toList := List.take_of_length_le (by rw [List.length_drop, len_cps]; omega)
  rw [e]
  rfl
theorem nmS_len {z : Str} {k c : Nat} (hk : k ≤ z.length) : (nmS z k c).length = z.length + 1 := by
  rw [← len_cps, nmS_list hk, List.length_append, List.length_cons, List.length_take, List.length_drop, len_cps]
  omega
theorem nmS_inj {z : Str} {k c d : Nat} (hk : k ≤ z.length) (h : nmS z k c = nmS z k d) : c = d := by
  have e := congrArg (fun s : Str => s.cps.toList) h
  simp only [nmS_list hk] at e
  have e2 := List.append_cancel_left e
  exact (List.cons.inj e2).1
theorem nmS_row {z : Str} {k c : Nat} (hk : k ≤ z.length) (hz : z.length ≤ 7) (ha : ∀ x ∈ z.cps.toList, 97 ≤ x ∧ x ≤ 122) (hc : 97 ≤ c ∧ c ≤ 122) : RowS (nmS z k c) := by
  refine ⟨by rw [nmS_len hk]; omega, by rw [nmS_len hk]; omega, fun x hx => ?_⟩
  rw [nmS_list hk] at hx
  rcases List.mem_append.mp hx with hx | hx
  · exact ha x (List.mem_of_mem_take hx)
  · rcases List.mem_cons.mp hx with hx | hx
    · rw [hx]; exact hc
    · exact ha x (List.mem_of_mem_drop hx)
/-- the j-th letter's place -/
def plc (first leap : Int) (j : Nat) : Nat := ((first + leap * (j : Int)) % 26).toNat
theorem plc_lt (first leap : Int) (j : Nat) : plc first leap j < 26 := by
  unfold plc
  have := Int.emod_nonneg (first + leap * (j : Int)) (show (26 : Int) ≠ 0 by decide)
  have := Int.emod_lt_of_pos (first + leap * (j : Int)) (show (0 : Int) < 26 by decide)
  omega
theorem plc_inj {first leap : Int} (hl : leap ∈ [(1 : Int), 3, 5, 7, 9, 11, 25]) {i j : Nat} (hi : i < 26) (hj : j < 26) (h : plc first leap i = plc first leap j) : i = j := by
  unfold plc at h
  simp only [List.mem_cons, List.not_mem_nil, or_false] at hl
  rcases hl with rfl | rfl | rfl | rfl | rfl | rfl | rfl <;> omega
def nmL (z : Str) (k : Nat) (first leap : Int) (n : Nat) : List Str := (List.range n).map fun j => nmS z k (97 + plc first leap j)
theorem nmL_nodup {z : Str} {k n : Nat} {first leap : Int} (hk : k ≤ z.length) (hl : leap ∈ [(1 : Int), 3, 5, 7, 9, 11, 25]) (hn : n ≤ 26) : (nmL z k first leap n).Nodup := by
  unfold nmL
  rw [List.nodup_iff_pairwise_ne, List.pairwise_map]
  refine List.Pairwise.imp_of_mem ?_ (List.nodup_iff_pairwise_ne.mp List.nodup_range)
  intro i j hi hj ne e
  have hi := List.mem_range.mp hi
  have hj := List.mem_range.mp hj
  have e2 := nmS_inj hk e
  exact ne (plc_inj (first := first) hl (by omega) (by omega) (by omega))
theorem nmL_len {z : Str} {k n : Nat} {first leap : Int} : (nmL z k first leap n).length = n := by
  unfold nmL
  rw [List.length_map, List.length_range]
theorem nmL_row {z : Str} {k n : Nat} {first leap : Int} (hk : k ≤ z.length) (hz : z.length ≤ 7) (ha : ∀ x ∈ z.cps.toList, 97 ≤ x ∧ x ≤ 122) : ∀ y ∈ nmL z k first leap n, RowS y := by
  intro y hy
  unfold nmL at hy
  obtain ⟨j, _, rfl⟩ := List.mem_map.mp hy
  have := plc_lt first leap j
  exact nmS_row hk hz ha (by omega)
/-- a stem -/
theorem stem_ok {c : Nat} (hc : 97 ≤ c ∧ c ≤ 122) {n : Int} (hn : V.int n ∈ [V.int 0, V.int 0, V.int 1, V.int 3, V.int 7]) : MulOk ⟨#[c]⟩ n ∧ (Txt.mul ⟨#[c]⟩ n).length ≤ 7 ∧ ∀ x ∈ (Txt.mul ⟨#[c]⟩ n).cps.toList, 97 ≤ x ∧ x ≤ 122 := by
  have hn2 : n = 0 ∨ n = 1 ∨ n = 3 ∨ n = 7 := by
    simp only [List.mem_cons, List.not_mem_nil, or_false, V.int.injEq] at hn
    omega
  have one : ∀ l : List Nat, (∀ x ∈ l, x = c) → ∀ x ∈ l, 97 ≤ x ∧ x ≤ 122 := fun l h x hx => by rw [h x hx]; exact hc
  rcases hn2 with rfl | rfl | rfl | rfl
  · exact ⟨⟨by decide, fun h => absurd (by decide) h, fun h => absurd (by decide) h⟩, by show 0 ≤ 7; decide, one _ (fun x hx => by cases hx)⟩
  · exact ⟨⟨by decide, fun (_ : ¬ (1 : Int) < 1) h => Bool.noConfusion h, fun _ h => Bool.noConfusion h⟩, by show 1 ≤ 7; decide, one _ (fun x hx => by
      have hx : x ∈ [c] := hx
      simpa using hx)⟩
  · exact ⟨⟨by decide, fun _ _ => by show ¬ ((1 : Nat) : Int) > _; decide, fun _ _ => by show Builtin.Str.tooLong 3 = false; decide⟩, by show 3 ≤ 7; decide, one _ (fun x hx => by
      have hx : x ∈ [c, c, c] := hx
      simpa using hx)⟩
  · exact ⟨⟨by decide, fun _ _ => by show ¬ ((1 : Nat) : Int) > _; decide, fun _ _ => by show Builtin.Str.tooLong 7 = false; decide⟩, by show 7 ≤ 7; decide, one _ (fun x hx => by
      have hx : x ∈ [c, c, c, c, c, c, c] := hx
      simpa using hx)⟩
end M
namespace M
open PySem PySem.Spec PyProof.Rows L2 Gd
/-- what is new behind was new ahead -/
theorem fr {a p : Addr} {H H' : Hp} {n m : Nat} (b : But a H H') (h : Hd H a n) (h' : Hd H' a m) (hp : H' p = none) : H p = none := by
  cases e : H p with
  | none => rfl
  | some o =>
    rw [b p o (h'.ne hp) e] at hp
    cases hp
theorem lc_yes {σ : L2.St} {H : Hp} {A B : Hp → Prop} (h : A H) : tYes σ H (fun b H3 => if b = true then A H3 else B H3) := by
  show (if true = true then A H else B H)
  rw [if_pos rfl]
  exact h
abbrev sNames : Stmt := topS 16
abbrev nNames : List Str := ["_law_hand_here", "_law_count", "_law_letters", "_law_first", "_law_leap", "_law_stem", "_law_cut", "_law_nth"]
theorem scNames : FnScope nNames ["_law_hand_here", "_law_count"] (defScope sNames) := ⟨rfl, rfl, rfl, by decide +kernel, rfl, by decide +kernel, by decide +kernel⟩
def spNames : Sp := fun vs H Q _ => ∃ (a : Addr) (n : Nat) (c : Nat), vs = [.ref a, .int c] ∧ Hd H a n ∧ n < 900000 ∧ c ≤ 26 ∧
  ∀ H' p (ns : List Str), But a H H' → Hd H' a (n + 5) → H p = none → H' p = some (.lst (ns.map V.str)) → ns.length = c → ns.Nodup → (∀ z ∈ ns, RowS z) → Q (.ref p) H'
section
variable {P : Program} {w : World} {K : PySem.W.Frag} {mg : Str → Option Value} {base : Heap}
theorem ok_names {f fT fP : Addr} {fd fdT fdP : FuncData} {k : Nat} (F : Fun K "_law_names" "_law_names" sNames f fd) (FT : Fun K "_law_take" "_law_take" sTake fT fdT) (bT : Binds K fdT ["_law_hand_here", "_law_many"] []) (gT : mg "_law_take" = some (.ref fT))
    (FP : Fun K "_law_pick" "_law_pick" sPick fP fdP) (bP : Binds K fdP ["_law_hand_here", "_law_items"] []) (gP : mg "_law_pick" = some (.ref fP)) (ml : mg "len" = none) (mr : mg "range" = none) :
    FnOk P w K mg base CX0 (k + 3) f fd ["_law_hand_here", "_law_count"] spNames := by
  have GT : FnOk P w K mg base CX0 (k + 1) fT fdT ["_law_hand_here", "_law_many"] spTake := ok_take FT
  have GP : FnOk P w K mg base CX0 (k + 2) fP fdP ["_law_hand_here", "_law_items"] spPick := ok_pick FP FT bT gT ml
  refine F.ok scNames (fun vs H Q E h => ?_) (fun cdv A outer s H vs Q E hr h => ?_)
  · obtain ⟨a, n, c, rfl, _⟩ := h
    rfl
  · obtain ⟨a, n, c, rfl, hh, hn, hc, q⟩ := h
    have hr1 := hr.mono (show k + 1 ≤ k + 2 by omega)
    refine ⟨_, pss_cons (ps_set (i := 2) scNames.nd rfl (.inr rfl) pe_str)
      (pss_cons (ps_asg (pe_tup (pa_cons (pe_call GT hr1 (by rfl) gT FT.kp bT .nil pass0 (pa_cons (pv 0) (pa_cons pe_int pa_nil)))
          (pa_cons (pe_call GP hr (by rfl) gP FP.kp bP .nil pass0 (pa_cons (pv 0) (pa_cons (pe_lst (pa_cons pe_int (pa_cons pe_int (pa_cons pe_int (pa_cons pe_int (pa_cons pe_int (pa_cons pe_int (pa_cons pe_int pa_nil)))))))) pa_nil))) pa_nil)))
        (pg_tup rfl (pgs_cons (pg_name (i := 3) scNames.nd rfl (.inr rfl)) (pgs_cons (pg_name (i := 4) scNames.nd rfl (.inr rfl)) pgs_nil))))
      (pss_cons (ps_set (i := 5) scNames.nd rfl (.inr rfl) (pe_op op_rep_str (pe_call GP hr (by rfl) gP FP.kp bP .nil pass0 (pa_cons (pv 0) (pa_cons (pv 2) pa_nil)))
          (pe_call GP hr (by rfl) gP FP.kp bP .nil pass0 (pa_cons (pv 0) (pa_cons (pe_lst (pa_cons pe_int (pa_cons pe_int (pa_cons pe_int (pa_cons pe_int (pa_cons pe_int pa_nil)))))) pa_nil)))))
      (pss_cons (ps_set (i := 6) scNames.nd rfl (.inr rfl) (pe_call GT hr1 (by rfl) gT FT.kp bT .nil pass0 (pa_cons (pv 0) (pa_cons (pe_op op_add (pe_callB call_len (by rfl) ml PySem.boot_len (pa_cons (pv 5) pa_nil)) pe_int) pa_nil))))
      (pss_one (ps_ret (pe_lc (own := [("_law_nth", 7)]) (g := gName 7) (tt := tYes) rfl scNames.nd (pi_range1 rfl mr (pa_cons (pv 1) pa_nil)) (blkOk_by (own := [("_law_nth", 7)]) (N := nNames) (sc := defScope sNames) (by decide +kernel))
        (fun _ _ _ _ _ => pg_name (i := 7) scNames.nd rfl (.inl rfl)) (fun _ _ _ _ _ => pts_nil)
        (fun _ _ _ _ _ => pe_op op_add_str (pe_op op_add_str (pe_slice sl_str (pv 5) po_none (po_some (pv 6))) (pe_ix ix_str (pv 2) (pe_op op_mod (pe_op op_add (pv 3) (pe_op op_mul (pv 4) (pv 7))) pe_int) (fun _ _ => rfl))) (pe_slice sl_str (pv 5) (po_some (pv 6)) po_none)))))))), ?_⟩
    -- first, leap
    refine ⟨.ref a, rfl, a, n, 26, rfl, hh, by omega, by decide, by decide, fun H1 first sb1 hd1 f0 f1 => ?_⟩
    refine ⟨.ref a, rfl, (by show 7 ≤ sizeLine; decide), fun l hl => ?_⟩
    refine ⟨a, n + 1, .ref l, rfl, hd1.new hl, by omega, .inl ⟨l, _, rfl, hd1.ne hl, .inl upd_same, by decide, by decide, fun H2 v sb2 hd2 hv => ?_⟩⟩
    obtain ⟨leap, rfl, hleap⟩ : ∃ leap : Int, v = .int leap ∧ leap ∈ [(1 : Int), 3, 5, 7, 9, 11, 25] := by
      have hv : v ∈ [(1 : Int), 3, 5, 7, 9, 11, 25].map V.int := hv
      obtain ⟨x, hx, rfl⟩ := List.mem_map.mp hv
      exact ⟨x, rfl, hx⟩
    refine ⟨(by show 2 ≤ sizeLine; decide), fun t ht => ?_⟩
    refine ⟨t, _, rfl, SqT.of upd_same, rfl, _, _, rfl, _, _, rfl, rfl, ?_⟩
    have b3 : But a H (upd H2 t (.tup [.int first, .int leap])) := ((sb1.new hl).trans sb2).new ht
    have hd3 : Hd (upd H2 t (.tup [.int first, .int leap])) a (n + 2) := hd2.new ht
    generalize upd H2 t (.tup [.int first, .int leap]) = H3 at b3 hd3 ⊢
    -- stem
    refine ⟨.ref a, rfl, .str abc, rfl, a, n + 2, .str abc, rfl, hd3, by omega, .inr ⟨abc, rfl, by rw [abc_len]; decide, by rw [abc_len]; decide, fun H4 ch sb4 hd4 hch => ?_⟩⟩
    refine ⟨.ref a, rfl, (by show 5 ≤ sizeLine; decide), fun l5 hl5 => ?_⟩
    refine ⟨a, n + 3, .ref l5, rfl, hd4.new hl5, by omega, .inl ⟨l5, _, rfl, hd4.ne hl5, .inl upd_same, by decide, by decide, fun H5 v5 sb5 hd5 hv5 => ?_⟩⟩
    obtain ⟨r, rfl⟩ : ∃ r : Int, v5 = .int r := by
      have hv5 : v5 ∈ [(0 : Int), 0, 1, 3, 7].map V.int := hv5
      obtain ⟨x, hx, rfl⟩ := List.mem_map.mp hv5
      exact ⟨x, rfl⟩
    obtain ⟨ok, sl, sa⟩ := stem_ok (abc_mem ch hch) hv5
    refine ⟨_, r, rfl, rfl, ok, ?_⟩
    have b5 : But a H H5 := (b3.trans sb4).trans (((But.refl a H4).new hl5).trans sb5)
    generalize Txt.mul ⟨#[ch]⟩ r = stem at sl sa ⊢
    -- cut
    refine ⟨.ref a, rfl, .str stem, rfl, _, stem.length, rfl, ⟨sz1000 (by omega), rfl⟩, _, 1, rfl, rfl, a, n + 4, _, rfl, hd5, by omega, by omega, by omega, fun H6 cut sb6 hd6 c0 c1 => ?_⟩
    obtain ⟨ct, rfl⟩ := Int.eq_ofNat_of_zero_le c0
    have hct : ct ≤ stem.length := by omega
    have b6 : But a H H6 := b5.trans sb6
    have leapB : 1 ≤ leap ∧ leap ≤ 25 := by
      simp only [List.mem_cons, List.not_mem_nil, or_false] at hleap
      omega
    -- the list
    refine ⟨.int c, rfl, c, rfl, by omega, by omega, fun D hD => lc_range (lo := 0) (n := c) (fun i H' => But a H H' ∧ Hd H' a (n + 5) ∧ H' D = some (.lst ((nmL stem ct first leap i).map V.str))) ⟨b6.new hD, hd6.new hD, by rw [upd_same]; rfl⟩ (fun i H' hi hP => ?_) (fun H' hP => ?_)⟩
    · have hDH : H D = none := fr b6 hh hd6 hD
      obtain ⟨p1, p2, p3⟩ := hP
      refine ⟨rfl, lc_yes ?_⟩
      have hx : atI abc.cps.toList ((first + leap * (0 + (i : Int))) % 26) = some (97 + plc first leap i) := by
        have e : (first + leap * (0 + (i : Int))) % 26 = ((plc first leap i : Nat) : Int) := by
          unfold plc
          rw [Int.zero_add, Int.toNat_of_nonneg (Int.emod_nonneg _ (by decide))]
        rw [e]
        exact atI_nat (abc_at _ (plc_lt _ _ _))
      have le : (nmS stem ct (97 + plc first leap i)).length = stem.length + 1 := nmS_len hct
      refine ⟨_, rfl, _, rfl, _, rfl, stem, rfl, sz1000 (by omega), ?_⟩
      refine ⟨.str abc, rfl, .int first, rfl, .int leap, rfl, _, rfl, leap, _, rfl, rfl, ?_, first, _, rfl, rfl, _, 26, rfl, rfl, (by show (0 : Int) < 26; decide), abc, _, _, rfl, rfl, sz1000 (by rw [abc_len]; decide), hx, ?_⟩
      · refine .inl ⟨?_, ?_⟩ <;> omega
      have l1 : (cutS stem none (some (ct : Int))).length + (⟨#[97 + plc first leap i]⟩ : Str).length ≤ sizeLine := sz1000 (Nat.le_trans (Nat.add_le_add_right (cutS_length stem none (some (ct : Int))) _) (by show stem.length + 1 ≤ 1000; omega))
      refine ⟨_, _, rfl, rfl, l1, ?_⟩
      refine ⟨_, rfl, _, rfl, _, rfl, stem, rfl, sz1000 (by omega), _, _, rfl, rfl, ?_, ?_⟩
      · have e : (cutS stem none (some (ct : Int)) ++ ⟨#[97 + plc first leap i]⟩ ++ cutS stem (some (ct : Int)) none).length = (cutS stem none (some (ct : Int)) ++ ⟨#[97 + plc first leap i]⟩).length + (cutS stem (some (ct : Int)) none).length := by
          rw [← len_cps, PySem.W.KT.app_list, List.length_append, len_cps, len_cps]
        rw [← e]
        exact sz1000 (Nat.le_trans (Nat.le_of_eq le) (by omega))
      · refine ⟨_, p3, ?_, p1.own hDH, p2.oth (hd6.ne hD), ?_⟩
        · rw [List.length_map, nmL_len]
          exact small1000 (by omega)
        · rw [upd_same]
          unfold nmL
          rw [List.range_succ, List.map_append, List.map_append]
          rfl
    · have hDH : H D = none := fr b6 hh hd6 hD
      obtain ⟨p1, p2, p3⟩ := hP
      exact q H' D _ p1 p2 hDH p3 nmL_len (nmL_nodup hct hleap hc) (nmL_row hct sl sa)
end
end M
namespace M
open PySem PySem.Spec PyProof.Rows L2 Gd
/-! ### data of texts -/
theorem dp_strs {K : PySem.W.Frag} {H : Hp} : ∀ ns : List Str, DpAll K H (ns.map V.str) (ns.map PyData.str)
  | [] => .nil
  | x :: ns => .cons (.str x) (dp_strs ns)
theorem lay_strs : ∀ ns : List Str, (∀ z ∈ ns, PyData.strOk z = true) → PyData.canLayAll0 (ns.map PyData.str) = true
  | [], _ => rfl
  | x :: ns, h => by
    show (PyData.strOk x && PyData.canLayAll0 (ns.map PyData.str)) = true
    rw [lay_strs ns fun z hz => h z (List.mem_cons_of_mem _ hz), h x List.mem_cons_self]
    rfl
theorem deep_strs : ∀ ns : List Str, PyData.depthAll (ns.map PyData.str) = 0
  | [] => rfl
  | x :: ns => by
    show max 0 (PyData.depthAll (ns.map PyData.str)) = 0
    rw [deep_strs ns]
    rfl
theorem shaped_lst {ns : List Str} (h : ∀ z ∈ ns, PyData.strOk z = true) : SeqAt.shaped (.list (ns.map PyData.str)) = true := by
  unfold SeqAt.shaped
  rw [show PyData.canLay0 (.list (ns.map PyData.str)) = true from lay_strs ns h]
  refine decide_eq_true ?_
  show PyData.depthAll (ns.map PyData.str) + 1 ≤ 64
  rw [deep_strs]
  decide
theorem shaped_tup {ns : List Str} (h : ∀ z ∈ ns, PyData.strOk z = true) : SeqAt.shaped (.tuple (ns.map PyData.str)) = true := by
  unfold SeqAt.shaped
  rw [show PyData.canLay0 (.tuple (ns.map PyData.str)) = true from lay_strs ns h]
  refine decide_eq_true ?_
  show PyData.depthAll (ns.map PyData.str) + 1 ≤ 64
  rw [deep_strs]
  decide
theorem RowS.ok {z : Str} (h : RowS z) : PyData.strOk z = true := by
  unfold PyData.strOk
  rw [Array.all_eq_true_iff_forall_mem]
  intro c hc
  have := h.2.2 c (Array.mem_toList_iff.mpr hc)
  exact decide_eq_true (by omega)
/-! ### shuffled -/
abbrev sShuf : Stmt := topS 17
theorem scShuf : FnScope ["_law_hand_here", "_law_items", "_law_rest", "_law_found"] ["_law_hand_here", "_law_items"] (defScope sShuf) := ⟨rfl, rfl, rfl, by decide +kernel, rfl, by decide +kernel, by decide +kernel⟩
def spShuf : Sp := fun vs H Q _ => ∃ (a b : Addr) (n : Nat) (ns : List Str), vs = [.ref a, .ref b] ∧ Hd H a n ∧ b ≠ a ∧ (H b = some (.lst (ns.map V.str)) ∨ H b = some (.tup (ns.map V.str))) ∧ ns.length ≤ 1000 ∧ n + ns.length < 900000 ∧ (∀ z ∈ ns, RowS z) ∧
  ∀ H' p (ns' : List Str), But a H H' → Hd H' a (n + ns.length) → H p = none → H' p = some (.lst (ns'.map V.str)) → ns'.Perm ns → Q (.ref p) H'
def lenAt (H : Hp) (p : Addr) : Nat := match H p with
  | some (.lst xs) => xs.length
  | _ => 0
theorem er_map {α β : Type} (f : α → β) : ∀ (l : List α) (i : Nat), (l.map f).eraseIdx i = (l.eraseIdx i).map f
  | [], _ => rfl
  | x :: l, 0 => rfl
  | x :: l, i + 1 => by
    show f x :: (l.map f).eraseIdx i = f x :: (l.eraseIdx i).map f
    rw [er_map f l i]
theorem er_perm {α : Type} : ∀ {l : List α} {i : Nat} (h : i < l.length), (l[i] :: l.eraseIdx i).Perm l
  | x :: l, 0, _ => .refl _
  | x :: l, i + 1, h => by
    have h2 : i < l.length := Nat.lt_of_succ_lt_succ h
    exact (List.Perm.swap x l[i] (l.eraseIdx i)).trans ((er_perm h2).cons x)
theorem lenAt_eq {H : Hp} {p : Addr} {ns : List Str} (h : H p = some (.lst (ns.map V.str))) : lenAt H p = ns.length := by
  unfold lenAt
  rw [h]
  exact List.length_map ..
theorem seq_at {n : Nat} {v : Int} (h0 : 0 ≤ v) (h1 : v < (n : Int)) : seqIndex? v n = some v.toNat := by
  refine (ixN_seq ?_).1
  unfold ixN
  rw [if_pos h0, if_pos h1]
section
variable {P : Program} {w : World} {K : PySem.W.Frag} {mg : Str → Option Value} {base : Heap}
theorem ok_shuf {f fT : Addr} {fd fdT : FuncData} {k : Nat} (F : Fun K "_law_shuffled" "_law_shuffled" sShuf f fd) (FT : Fun K "_law_take" "_law_take" sTake fT fdT) (bT : Binds K fdT ["_law_hand_here", "_law_many"] []) (gT : mg "_law_take" = some (.ref fT)) (ml : mg "len" = none) (mli : mg "list" = none) :
    FnOk P w K mg base CX0 (k + 2) f fd ["_law_hand_here", "_law_items"] spShuf := by
  have GT : FnOk P w K mg base CX0 (k + 1) fT fdT ["_law_hand_here", "_law_many"] spTake := ok_take FT
  refine F.ok scShuf (fun vs H Q E h => ?_) (fun cdv A outer s H vs Q E hr h => ?_)
  · obtain ⟨a, b, n, ns, rfl, _⟩ := h
    rfl
  · obtain ⟨a, b, n, ns, rfl, hh, nb, hb, l1, hn, rw, q⟩ := h
    refine ⟨_, pss_cons (ps_par (i := 2) (j := 3) (by rfl) scShuf.nd rfl rfl (by decide) rfl rfl (pa_cons (pe_callTy call_list_of (by rfl) mli (by decide +kernel) (pa_cons (pv 1) pa_nil)) (pa_cons (pe_lst pa_nil) pa_nil)) (by rfl))
      (pss_cons (ps_while PassesOwn.never (pt_cmpR (op_neD hr.units) (pv 2) (pe_lst pa_nil) (nomark _))
        (pss_one (ps_expr (pe_bm PySem.F.plainAttrs_list PySem.F.slot_list_append PySem.F.type_list_append mt_append (pv 3) (pa_cons
          (pe_bm PySem.F.plainAttrs_list PySem.F.slot_list_pop PySem.F.type_list_pop mt_popAt (pv 2) (pa_cons (pe_call GT hr (by rfl) gT FT.kp bT .nil pass0 (pa_cons (pv 0) (pa_cons (pe_callB call_len (by rfl) ml PySem.boot_len (pa_cons (pv 2) pa_nil)) pa_nil))) pa_nil)) pa_nil)))))
      (pss_one (ps_ret (pv 3)))), ?_⟩
    have hB : SqL K H b (ns.map V.str) ∨ SqT K H b (ns.map V.str) := by
      rcases hb with hb | hb
      · exact .inl (SqL.of hb)
      · exact .inr (SqT.of hb)
    refine ⟨.ref b, rfl, b, _, rfl, hB, fun r hrr => ?_⟩
    refine ⟨Nat.zero_le _, fun o ho => ?_⟩
    refine ⟨.ref r, .ref o, rfl, ?_⟩
    have nra : r ≠ a := hh.ne hrr
    have hd1 : Hd (upd H r (.lst (ns.map V.str))) a n := hh.new hrr
    have noa : o ≠ a := hd1.ne ho
    have nro : r ≠ o := ne_of_none upd_same ho
    have hoH : H o = none := by
      rw [upd_ne nro.symm] at ho
      exact ho
    refine while_by (fun σ H' => ∃ rs fs : List Str, σ = [some (.ref a), some (.ref b), some (.ref r), some (.ref o)] ∧ But a H H' ∧ Hd H' a (n + fs.length) ∧ H' r = some (.lst (rs.map V.str)) ∧ H' o = some (.lst (fs.map V.str)) ∧ (rs ++ fs).Perm ns)
      (fun _ H' => lenAt H' r) ⟨ns, [], rfl, ((But.refl a H).new hrr).new ho, hd1.new ho, ?_, upd_same, ?_⟩ (fun σ H1 hP => ?_) (fun σ H1 Q1 Q2 hq h => ?_)
    · rw [upd_ne nro]
      exact upd_same
    · rw [List.append_nil]
    · obtain ⟨rs, fs, rfl, b1, h1, e1, e2, pm⟩ := hP
      have lens : rs.length + fs.length = ns.length := by
        rw [← pm.length_eq, List.length_append]
      refine ⟨.ref r, rfl, Nat.zero_le _, fun p hp => ?_⟩
      have npr : r ≠ p := ne_of_none e1 hp
      have npo : o ≠ p := ne_of_none e2 hp
      have e1' : (upd H1 p (.lst [])) r = some (.lst (rs.map V.str)) := by rw [upd_ne npr]; exact e1
      have e2' : (upd H1 p (.lst [])) o = some (.lst (fs.map V.str)) := by rw [upd_ne npo]; exact e2
      have b2 : But a H (upd H1 p (.lst [])) := b1.new hp
      have h2 : Hd (upd H1 p (.lst [])) a (n + fs.length) := h1.new hp
      have hμ : lenAt H1 r = rs.length := lenAt_eq e1
      refine ⟨.list (rs.map PyData.str), .list [], .lst (SqL.of e1') (dp_strs rs), .lst (SqL.of upd_same) .nil, shaped_lst (fun z hz => (rw z (pm.subset (List.mem_append_left _ hz))).ok), rfl, _, rfl, ?_⟩
      generalize upd H1 p (.lst []) = H2 at e1' e2' b2 h2 ⊢
      cases rs with
      | nil =>
        refine iteF ?_
        have e : fs.length = ns.length := by
          have := lens
          rw [List.length_nil] at this
          omega
        rw [e] at h2
        exact ⟨.ref o, rfl, q H2 o fs b2 h2 hoH e2' pm⟩
      | cons x rs =>
        refine iteT ?_
        have hlen : ((x :: rs).map V.str).length = rs.length + 1 := by
          rw [List.length_map, List.length_cons]
        have hl2 : rs.length + 1 + fs.length = ns.length := by
          rw [List.length_cons] at lens
          exact lens
        refine ⟨.ref o, rfl, .inl ⟨rfl, _, SqL.of e2'⟩, .ref r, rfl, .inl ⟨rfl, _, SqL.of e1'⟩, .ref a, rfl, .ref r, rfl, _, rs.length + 1, rfl, .inl ⟨_, SqL.of e1', hlen.symm⟩, a, n + fs.length, _, rfl, h2, by omega, by omega, by omega, fun H3 v sb3 h3 v0 v1 => ?_⟩
        have e1'' := sb3 r _ nra e1'
        have e2'' := sb3 o _ noa e2'
        have hk : v.toNat < (x :: rs).length := by
          rw [List.length_cons]
          omega
        have g : ((x :: rs).map V.str)[v.toNat]? = some (.str (x :: rs)[v.toNat]) := by
          rw [List.getElem?_map, List.getElem?_eq_getElem hk]
          rfl
        refine ⟨r, _, v, v.toNat, _, rfl, rfl, e1'', by omega, by omega, seq_at v0 (by rw [hlen]; omega), g, ?_⟩
        have e2u : (upd H3 r (.lst (((x :: rs).map V.str).eraseIdx v.toNat))) o = some (.lst (fs.map V.str)) := by
          rw [upd_ne nro.symm]
          exact e2''
        have pe : (((x :: rs).map V.str).eraseIdx v.toNat) = ((x :: rs).eraseIdx v.toNat).map V.str := by
          exact er_map V.str _ _
        have pm2 : ((x :: rs).eraseIdx v.toNat ++ (fs ++ [(x :: rs)[v.toNat]])).Perm ns := by
          refine List.Perm.trans ?_ pm
          refine List.Perm.trans ?_ (List.Perm.append_right fs (er_perm hk))
          rw [← List.append_assoc]
          exact List.perm_append_comm
        refine ⟨o, _, _, rfl, rfl, e2u, ?_, ⟨(x :: rs).eraseIdx v.toNat, fs ++ [(x :: rs)[v.toNat]], rfl, ?_, ?_, ?_, ?_, pm2⟩, ?_⟩
        · rw [List.length_map]
          exact small1000 (by omega)
        · exact ((b2.trans sb3).own hrr).own hoH
        · have h4 : Hd H3 a (n + (fs ++ [(x :: rs)[v.toNat]]).length) := by
            rw [List.length_append]
            exact h3
          exact (h4.oth nra).oth noa
        · rw [upd_ne nro, upd_same, pe]
        · rw [upd_same, List.map_append]
          rfl
        · rw [hμ, lenAt_eq (ns := (x :: rs).eraseIdx v.toNat) (by rw [upd_ne nro, upd_same, pe]), List.length_eraseIdx, if_pos hk, List.length_cons]
          omega
    · obtain ⟨v, hv, hz, h⟩ := h
      refine ⟨v, hv, hz, fun p hp => ?_⟩
      obtain ⟨d, e, h1, h2, h3, h4, k, hk, hq'⟩ := h p hp
      exact ⟨d, e, h1, h2, h3, h4, k, hk, hq _ _ hq'⟩
end
end M
namespace M
open PySem PySem.Spec PyProof.Rows L2 Gd
/-! ### hand -/
abbrev sHand : Stmt := topS 13
theorem scHand : FnScope ["_law_script", "_law_k", "_law_cell", "_law_great"] ["_law_script", "_law_k"] (defScope sHand) := ⟨rfl, rfl, rfl, by decide +kernel, rfl, by decide +kernel, by decide +kernel⟩
def spHand (K : PySem.W.Frag) : Sp := fun vs H Q _ => ∃ (a : Addr) (k : Nat) (ns : List Int), vs = [.ref a, .int k] ∧ SqL K H a (ns.map V.int) ∧ k ≤ 1000 ∧ ∀ H' p, Same H H' → H p = none → Hd H' p 0 → Q (.ref p) H'
theorem same_new {H : Hp} {p : Addr} {o : HO} (h : H p = none) : Same H (upd H p o) := fun b x e => by
  rw [upd_ne (ne_of_none e h)]
  exact e
theorem tens : ((10 : Int) ^ (60 : Int).toNat).natAbs < 2 ^ 200 := by decide +kernel
theorem wide3 {i j : Int} {a b c : Nat} (ha : i.natAbs < 2 ^ a) (hb : j.natAbs < 2 ^ b) (hc : c = a + b) : (i * j).natAbs < 2 ^ c := by
  rw [hc]
  exact wide_lt ha hb
theorem tens_pos : (0 : Int) < 10 ^ (60 : Int).toNat * 10 ^ (60 : Int).toNat * 10 ^ (60 : Int).toNat * 10 ^ (60 : Int).toNat := by decide +kernel
theorem bit_ok (b : Bool) : -(2 ^ 64) < (if b = true then (1 : Int) else 0) ∧ (if b = true then (1 : Int) else 0) < 2 ^ 64 := by
  cases b <;> decide
theorem bit_ge (b : Bool) : 0 ≤ (if b = true then (1 : Int) else 0) := by
  cases b <;> decide
theorem w1 : CMulW ((10 : Int) ^ (60 : Int).toNat) ((10 : Int) ^ (60 : Int).toNat) := wide_mul tens tens (by decide) (by decide) (by decide)
theorem w2 : CMulW ((10 : Int) ^ (60 : Int).toNat * (10 : Int) ^ (60 : Int).toNat) ((10 : Int) ^ (60 : Int).toNat) := wide_mul (wide_lt tens tens) tens (by decide) (by decide) (by decide)
theorem w3 : CMulW ((10 : Int) ^ (60 : Int).toNat * (10 : Int) ^ (60 : Int).toNat * (10 : Int) ^ (60 : Int).toNat) ((10 : Int) ^ (60 : Int).toNat) := wide_mul (wide_lt (wide_lt tens tens) tens) tens (by decide) (by decide) (by decide)
section
variable {P : Program} {w : World} {K : PySem.W.Frag} {mg : Str → Option Value} {base : Heap}
theorem ok_hand {f : Addr} {fd : FuncData} {k : Nat} (F : Fun K "_law_hand" "_law_hand" sHand f fd) (ml : mg "len" = none) (ma : mg "abs" = none) (mi : mg "int" = none) :
    FnOk P w K mg base CX0 (k + 1) f fd ["_law_script", "_law_k"] (spHand K) := by
  refine F.ok scHand (fun vs H Q E h => ?_) (fun cdv A outer s H vs Q E hr h => ?_)
  · obtain ⟨a, k, ns, rfl, _⟩ := h
    rfl
  · obtain ⟨a, k, ns, rfl, hS, hk, q⟩ := h
    refine ⟨_, pss_cons (ps_set (i := 2) scHand.nd rfl (.inl rfl) (pe_ifExp (pt_cmpR op_lt (pv 1) (pe_callB call_len (by rfl) ml PySem.boot_len (pa_cons (pv 0) pa_nil)) (nomark _)) (pe_ix ix_list (pv 0) (pv 1) (fun _ _ => rfl)) (pe_op op_add (pe_op op_mul pe_int (pv 1)) pe_int)))
      (pss_cons (ps_set (i := 3) scHand.nd rfl (.inl rfl) (pe_op op_mul (pe_op op_mod (pe_callB call_abs (by rfl) ma (by decide +kernel) (pa_cons (pv 2) pa_nil)) (pe_op op_mulW (pe_op op_mulW (pe_op op_mulW (pe_op op_pow pe_int pe_int) (pe_op op_pow pe_int pe_int)) (pe_op op_pow pe_int pe_int)) (pe_op op_pow pe_int pe_int)))
          (pe_callTy call_int1 (by rfl) mi (by decide +kernel) (pa_cons (pe_cmpR op_ge (pe_callB call_abs (by rfl) ma (by decide +kernel) (pa_cons (pv 2) pa_nil)) (pe_op op_pow pe_int pe_int) (nomark _)) pa_nil))))
      (pss_one (ps_ret (pe_lst (pa_cons (pv 3) (pa_cons (pe_op op_mod (pe_op op_mul (pe_op op_add (pe_op op_add (pe_op op_mod (pv 2) pe_int) (pe_op op_mul (pe_op op_mul pe_int (pv 1)) (pv 1))) pe_int) pe_int) pe_int) (pa_cons pe_int pa_nil))))))), ?_⟩
    refine ⟨_, rfl, .ref a, rfl, _, ns.length, rfl, .inl ⟨_, hS, (List.length_map ..).symm⟩, _, _, rfl, rfl, _, rfl, ite2 (fun e => ?_) (fun e => ?_)⟩
    · have e : (k : Int) < (ns.length : Int) := of_decide_eq_true e
      have hk2 : k < ns.length := by omega
      refine ⟨.ref a, rfl, _, rfl, a, _, k, .int ns[k], rfl, rfl, hS, atI_nat (by rw [List.getElem?_map, List.getElem?_eq_getElem hk2]; rfl), ?_⟩
      generalize ns[k] = cell
      refine ⟨_, rfl, cell, rfl, 10, 60, rfl, rfl, ⟨by decide, by decide, by decide⟩, 10, 60, rfl, rfl, ⟨by decide, by decide, by decide⟩, _, _, rfl, rfl, w1, 10, 60, rfl, rfl, ⟨by decide, by decide, by decide⟩, _, _, rfl, rfl, w2,
        10, 60, rfl, rfl, ⟨by decide, by decide, by decide⟩, _, _, rfl, rfl, w3, _, _, rfl, rfl, tens_pos, _, rfl, cell, rfl, 10, 18, rfl, rfl, ⟨by decide, by decide, by decide⟩, _, _, rfl, rfl, .inr ⟨_, rfl, _, _, rfl, rfl, .inr (bit_ok _), ?_⟩⟩
      refine ⟨_, rfl, _, rfl, cell, 2305843009213693951, rfl, rfl, (by show (0 : Int) < 2305843009213693951; decide), _, rfl, 104729, k, rfl, rfl, .inl ⟨by decide, by decide⟩, _, rfl, _, k, rfl, rfl, .inr ⟨by omega, by omega⟩, _, _, rfl, rfl, _, 29, rfl, rfl, _, 48271, rfl, rfl, .inr ⟨by decide, by decide⟩,
        _, 2305843009213693921, rfl, rfl, (by show (0 : Int) < 2305843009213693921; decide), (by show 3 ≤ sizeLine; decide), fun p hp => ?_⟩
      refine q _ p (same_new hp) hp ⟨_, _, _, upd_same, ?_, Int.emod_nonneg _ (by decide), Int.lt_of_lt_of_le (Int.emod_lt_of_pos _ (by decide)) (by decide), by decide, by decide⟩
      exact Int.mul_nonneg (Int.emod_nonneg _ (Int.ne_of_gt tens_pos)) (bit_ge _)
    · refine ⟨_, rfl, 7, k, rfl, rfl, .inl ⟨by decide, by decide⟩, _, 3, rfl, rfl, ?_⟩
      refine ⟨_, rfl, 7 * (k : Int) + 3, rfl, 10, 60, rfl, rfl, ⟨by decide, by decide, by decide⟩, 10, 60, rfl, rfl, ⟨by decide, by decide, by decide⟩, _, _, rfl, rfl, w1, 10, 60, rfl, rfl, ⟨by decide, by decide, by decide⟩, _, _, rfl, rfl, w2,
        10, 60, rfl, rfl, ⟨by decide, by decide, by decide⟩, _, _, rfl, rfl, w3, _, _, rfl, rfl, tens_pos, _, rfl, 7 * (k : Int) + 3, rfl, 10, 18, rfl, rfl, ⟨by decide, by decide, by decide⟩, _, _, rfl, rfl, .inr ⟨_, rfl, _, _, rfl, rfl, .inr (bit_ok _), ?_⟩⟩
      refine ⟨_, rfl, _, rfl, 7 * (k : Int) + 3, 2305843009213693951, rfl, rfl, (by show (0 : Int) < 2305843009213693951; decide), _, rfl, 104729, k, rfl, rfl, .inl ⟨by decide, by decide⟩, _, rfl, _, k, rfl, rfl, .inr ⟨by omega, by omega⟩, _, _, rfl, rfl, _, 29, rfl, rfl, _, 48271, rfl, rfl, .inr ⟨by decide, by decide⟩,
        _, 2305843009213693921, rfl, rfl, (by show (0 : Int) < 2305843009213693921; decide), (by show 3 ≤ sizeLine; decide), fun p hp => ?_⟩
      refine q _ p (same_new hp) hp ⟨_, _, _, upd_same, ?_, Int.emod_nonneg _ (by decide), Int.lt_of_lt_of_le (Int.emod_lt_of_pos _ (by decide)) (by decide), by decide, by decide⟩
      exact Int.mul_nonneg (Int.emod_nonneg _ (Int.ne_of_gt tens_pos)) (bit_ge _)
end
end M
namespace M
open PySem PySem.Spec PyProof.Rows L2 Gd
theorem inV_strs (x : Str) : ∀ ns : List Str, inV (.str x) (ns.map V.str) = ns.contains x
  | [] => rfl
  | y :: ns => by
    have h := inV_strs x ns
    unfold inV at h ⊢
    rw [List.map_cons, List.any_cons, h, List.contains_cons]
    show ((y == x) || ns.contains x) = _
    rw [show (y == x) = (x == y) from Bool.eq_iff_iff.mpr (by rw [beq_iff_eq, beq_iff_eq]; exact eq_comm)]
theorem flat_strs : ∀ ns : List Str, (ns.map V.str).all flatV = true
  | [] => rfl
  | y :: ns => by
    rw [List.map_cons, List.all_cons, flat_strs ns]
    rfl
theorem cut_to (xs : List V) (c : Nat) : cutV xs none (some (c : Int)) = xs.take c := by
  unfold cutV
  rw [HT.sIx_none, HT.sIx_nat, List.drop_zero, Nat.sub_zero]
  by_cases h : c ≤ xs.length
  · rw [Nat.min_eq_left h]
  · rw [Nat.min_eq_right (by omega), List.take_length, List.take_of_length_le (by omega)]
theorem cut_from (xs : List V) (c : Nat) : cutV xs (some (c : Int)) none = xs.drop c := by
  unfold cutV
  rw [HT.sIx_none, HT.sIx_nat]
  by_cases h : c ≤ xs.length
  · rw [Nat.min_eq_left h, List.take_of_length_le (by rw [List.length_drop]; omega)]
  · rw [Nat.min_eq_right (by omega), List.drop_of_length_le (l := xs) (by omega), List.drop_of_length_le (l := xs) (by omega), List.take_nil]
theorem same_t {K : PySem.W.Frag} {H H' : Hp} {a : Addr} {xs : List V} (e : Same H H') (h : SqT K H a xs) : SqT K H' a xs := by
  rcases h with (h | ⟨o, h⟩) | h
  · exact .inl (.inl (e _ _ h))
  · exact .inl (.inr ⟨o, e _ _ h⟩)
  · exact .inr h
theorem same_own {H H' : Hp} {p : Addr} {o : HO} (e : Same H H') (h : H p = none) : Same H (upd H' p o) := fun b x q => by
  rw [upd_ne (ne_of_none q h)]
  exact e b x q
/-! ### what texts show -/
theorem shown_strs : ∀ ns : List Str, PyData.shownAll (ns.map PyData.str) = ns.map reprText
  | [] => rfl
  | x :: ns => by
    show reprText x :: PyData.shownAll (ns.map PyData.str) = _
    rw [shown_strs ns]
    rfl
theorem showable_strs : ∀ ns : List Str, PyData.showableAll (ns.map PyData.str) = true
  | [] => rfl
  | x :: ns => by
    show (true && PyData.showableAll (ns.map PyData.str)) = true
    rw [showable_strs ns]
    rfl
theorem noDict_strs : ∀ ns : List Str, PyData.hasDictAll (ns.map PyData.str) = false
  | [] => rfl
  | x :: ns => by
    show (false || PyData.hasDictAll (ns.map PyData.str)) = false
    rw [noDict_strs ns]
    rfl
theorem sum_row : ∀ ns : List Str, (∀ z ∈ ns, RowS z) → ((ns.map reprText).map (·.length)).sum ≤ 82 * ns.length
  | [], _ => Nat.le_refl _
  | x :: ns, h => by
    have h1 := sum_row ns fun z hz => h z (List.mem_cons_of_mem _ hz)
    have h2 := StrLaws.reprText_len x (fun c hc => by
      have := (h x List.mem_cons_self).2.2 c hc
      omega)
    have h3 := (h x List.mem_cons_self).2.1
    simp only [List.map_cons, List.sum_cons, List.length_cons] at h1 ⊢
    omega
theorem shown_tup {ns : List Str} (h : ∀ z ∈ ns, RowS z) : (PyData.shown (.tuple (ns.map PyData.str))).length ≤ 84 * ns.length + 3 := by
  show (tupleText (PyData.shownAll (ns.map PyData.str))).length ≤ _
  rw [shown_strs]
  have h1 := tupleText_len_le (ns.map reprText)
  have h2 := sum_row ns h
  rw [List.length_map] at h1
  omega
theorem show_tup {K : PySem.W.Frag} {H : Hp} {p : Addr} {ns : List Str} {Q : VK} (hp : SqT K H p (ns.map V.str)) (h : ∀ z ∈ ns, RowS z) (hl : ns.length ≤ 1000) (q : Q (.str (PyData.shown (.tuple (ns.map PyData.str)))) H) : rShow K [.ref p] H Q := by
  refine ⟨.ref p, .tuple (ns.map PyData.str), rfl, .tup hp (dp_strs ns), showable_strs ns, noDict_strs ns, ?_, ?_, q⟩
  · show PyData.depthAll (ns.map PyData.str) + 1 ≤ 60
    rw [deep_strs]
    decide
  · have := shown_tup h
    have e : sizeLine = 16777216 := by decide
    omega
def two (xs ys : List Str) : PyData := .tuple [.tuple (xs.map PyData.str), .tuple (ys.map PyData.str)]
theorem show_two {K : PySem.W.Frag} {H : Hp} {p a b : Addr} {xs ys : List Str} {Q : VK} (hp : SqT K H p [.ref a, .ref b]) (ha : SqT K H a (xs.map V.str)) (hb : SqT K H b (ys.map V.str)) (h : ∀ z ∈ xs, RowS z) (h' : ∀ z ∈ ys, RowS z) (hl : xs.length ≤ 1000) (hl' : ys.length ≤ 1000)
    (q : Q (.str (two xs ys).shown) H) : rShow K [.ref p] H Q := by
  refine ⟨.ref p, two xs ys, rfl, .tup hp (.cons (.tup ha (dp_strs xs)) (.cons (.tup hb (dp_strs ys)) .nil)), ?_, ?_, ?_, ?_, q⟩
  · show (PyData.showableAll (xs.map PyData.str) && (PyData.showableAll (ys.map PyData.str) && true)) = true
    rw [showable_strs, showable_strs]
    rfl
  · show (PyData.hasDictAll (xs.map PyData.str) || (PyData.hasDictAll (ys.map PyData.str) || false)) = false
    rw [noDict_strs, noDict_strs]
    rfl
  · show max (PyData.depthAll (xs.map PyData.str) + 1) (max (PyData.depthAll (ys.map PyData.str) + 1) 0) + 1 ≤ 60
    rw [deep_strs, deep_strs]
    decide
  · have h1 := shown_tup h
    have h2 := shown_tup h'
    have h3 := tupleText_len_le [PyData.shown (.tuple (xs.map PyData.str)), PyData.shown (.tuple (ys.map PyData.str))]
    have e : sizeLine = 16777216 := by decide
    show (tupleText [PyData.shown (.tuple (xs.map PyData.str)), PyData.shown (.tuple (ys.map PyData.str))]).length ≤ _
    simp only [List.map_cons, List.map_nil, List.sum_cons, List.sum_nil, List.length_cons, List.length_nil] at h3
    omega
theorem catA_of {K : PySem.W.Frag} {H : Hp} {Q : VK} {a b : Addr} {xs ys : List Str} (ha : SqT K H a (xs.map V.str)) (hb : SqT K H b (ys.map V.str)) (hz : xs.length + ys.length ≤ 1000) (q : ∀ H' p, Same H H' → SqT K H' p ((xs ++ ys).map V.str) → Q (.ref p) H') : rCatA K (.ref a) (.ref b) H Q := by
  refine ⟨a, b, _, _, rfl, rfl, ha, hb, by rw [List.length_map, List.length_map]; exact sz1000 hz, fun e => ?_, fun _ e => ?_, fun _ _ p hp => ?_⟩
  · refine q H b (Same.refl H) ?_
    rw [List.map_append, e, List.nil_append]
    exact hb
  · refine q H a (Same.refl H) ?_
    rw [List.map_append, e, List.append_nil]
    exact ha
  · refine q _ p (same_new hp) ?_
    rw [List.map_append]
    exact SqT.of upd_same
theorem but_t {K : PySem.W.Frag} {H H' : Hp} {a v : Addr} {n : Nat} {xs : List V} (b : But a H H') (h : Hd H a n) (hv : SqT K H v xs) : SqT K H' v xs := by
  obtain ⟨ys, e⟩ := h.some
  rcases hv with (hv | ⟨o, hv⟩) | hv
  · exact .inl (.inl (b v _ (fun z => by rw [z, e] at hv; cases hv) hv))
  · exact .inl (.inr ⟨o, b v _ (fun z => by rw [z, e] at hv; cases hv) hv⟩)
  · exact .inr hv
theorem same_but {H H' : Hp} {a : Addr} (h : Same H H') : But a H H' := fun b o _ e => h b o e
theorem same_hd {H H' : Hp} {a : Addr} {n : Nat} (h : Same H H') (hd : Hd H a n) : Hd H' a n := by
  obtain ⟨g, s, t, e, r⟩ := hd
  exact ⟨g, s, t, h _ _ e, r⟩
theorem eqv_strs {ns : List Str} (h : ∀ z ∈ ns, RowS z) : PyData.eqv (.tuple (ns.map PyData.str)) (.tuple (ns.map PyData.str)) = true := SeqAt.eqv_refl _ (lay_strs ns fun z hz => (h z hz).ok)
theorem ins_map0 (xs : List Str) (i : Nat) (x : Str) : (xs.map V.str).take i ++ [V.str x] ++ (xs.map V.str).drop i = (xs.take i ++ [x] ++ xs.drop i).map V.str := by
  rw [List.map_append, List.map_append, List.map_take, List.map_drop]
  rfl
theorem ins_perm0 (xs : List Str) (i : Nat) (x : Str) : (xs.take i ++ [x] ++ xs.drop i).Perm (x :: xs) := by
  have h : (xs.take i ++ x :: xs.drop i).Perm (x :: (xs.take i ++ xs.drop i)) := List.perm_middle
  rw [List.take_append_drop] at h
  rw [List.append_assoc]
  exact h
end M
namespace M
open PySem PySem.Spec PyProof.Rows L2 Gd
/-! ### changed -/
def elseOf (s : Stmt) : List Stmt := match s with
  | .If _ _ e _ => e
  | _ => []
abbrev sChg : Stmt := topS 18
abbrev nChg : List Str := ["_law_hand_here", "_law_version", "_law_fresh", "_law_way", "_law_rows", "_law_row"]
theorem scChg : FnScope nChg ["_law_hand_here", "_law_version", "_law_fresh"] (defScope sChg) := ⟨rfl, rfl, rfl, by decide +kernel, rfl, by decide +kernel, by decide +kernel⟩
/-- all but what stands at a and at c is as it was -/
def But2 (a c : Addr) (H H' : Hp) : Prop := ∀ b o, b ≠ a → b ≠ c → H b = some o → H' b = some o
theorem But.two {a c : Addr} {H H' : Hp} (h : But a H H') : But2 a c H H' := fun b o n _ e => h b o n e
theorem But2.trans {a c : Addr} {H H1 H2 : Hp} (x : But2 a c H H1) (y : But2 a c H1 H2) : But2 a c H H2 := fun b o n m h => y b o n m (x b o n m h)
theorem But2.put {a c : Addr} {H H1 : Hp} {o : HO} (x : But2 a c H H1) : But2 a c H (upd H1 c o) := fun b u n m e => by
  rw [upd_ne m]
  exact x b u n m e
theorem But2.own {a c p : Addr} {H H1 : Hp} {o : HO} (x : But2 a c H H1) (h : H p = none) : But2 a c H (upd H1 p o) := fun b u n m e => by
  rw [upd_ne (ne_of_none e h)]
  exact x b u n m e
/-- what a change does: a fresh row comes, or a row may leave -/
def Chg (rows fresh rows' fresh' : List Str) : Prop := rows'.length ≤ 24 ∧ ((∃ x, fresh = x :: fresh' ∧ rows'.Perm (x :: rows)) ∨ (fresh' = fresh ∧ ∃ l, l.Sublist rows ∧ rows'.Perm l))
def spChg (K : PySem.W.Frag) : Sp := fun vs H Q _ => ∃ (a v c : Addr) (n : Nat) (rows fresh : List Str), vs = [.ref a, .ref v, .ref c] ∧ Hd H a n ∧ n < 900000 ∧ SqT K H v (rows.map V.str) ∧ c ≠ a ∧ H c = some (.lst (fresh.map V.str)) ∧ rows.length ≤ 24 ∧ fresh.length ≤ 30 ∧
  (∀ z ∈ rows, RowS z) ∧ (∀ z ∈ fresh, RowS z) ∧ ∀ H' p (rows' fresh' : List Str), But2 a c H H' → Hd H' a (n + 4) → H p = none → H' p = some (.tup (rows'.map V.str)) → H' c = some (.lst (fresh'.map V.str)) → Chg rows fresh rows' fresh' → Q (.ref p) H'
/-- what is known between two statements of the change: rows stands at r, fresh at c -/
structure Mid (H : Hp) (a c : Addr) (n : Nat) (H1 : Hp) (r : Addr) (rows fresh : List Str) : Prop where
  but : But2 a c H H1
  hd : Hd H1 a n
  new : H r = none
  ra : r ≠ a
  rc : r ≠ c
  ar : H1 r = some (.lst (rows.map V.str))
  ac : H1 c = some (.lst (fresh.map V.str))
theorem Mid.up {H H1 : Hp} {a c r : Addr} {n m : Nat} {rows fresh : List Str} (M : Mid H a c n H1 r rows fresh) (h : n ≤ m) : Mid H a c m H1 r rows fresh := ⟨M.but, M.hd.up h, M.new, M.ra, M.rc, M.ar, M.ac⟩
theorem Mid.laid {H H1 : Hp} {a c r p : Addr} {n : Nat} {o : HO} {rows fresh : List Str} (M : Mid H a c n H1 r rows fresh) (hp : H1 p = none) : Mid H a c n (upd H1 p o) r rows fresh :=
  ⟨fun b u x y e => by
    have z := M.but b u x y e
    rw [upd_ne (ne_of_none z hp)]
    exact z, M.hd.new hp, M.new, M.ra, M.rc, by rw [upd_ne (ne_of_none M.ar hp)]; exact M.ar, by rw [upd_ne (ne_of_none M.ac hp)]; exact M.ac⟩
theorem Mid.took {H H1 H2 : Hp} {a c r : Addr} {n m : Nat} {rows fresh : List Str} (M : Mid H a c n H1 r rows fresh) (nca : c ≠ a) (b : But a H1 H2) (h : Hd H2 a m) : Mid H a c m H2 r rows fresh :=
  ⟨M.but.trans b.two, h, M.new, M.ra, M.rc, b _ _ M.ra M.ar, b _ _ nca M.ac⟩
theorem Mid.row {H H1 : Hp} {a c r : Addr} {n : Nat} {rows rows' fresh : List Str} (M : Mid H a c n H1 r rows fresh) : Mid H a c n (upd H1 r (.lst (rows'.map V.str))) r rows' fresh :=
  ⟨M.but.own M.new, M.hd.oth M.ra, M.new, M.ra, M.rc, upd_same, by rw [upd_ne M.rc.symm]; exact M.ac⟩
theorem Mid.frs {H H1 : Hp} {a c r : Addr} {n : Nat} {rows fresh fresh' : List Str} (M : Mid H a c n H1 r rows fresh) (nca : c ≠ a) : Mid H a c n (upd H1 c (.lst (fresh'.map V.str))) r rows fresh' :=
  ⟨M.but.put, M.hd.oth nca, M.new, M.ra, M.rc, by rw [upd_ne M.rc]; exact M.ar, upd_same⟩
theorem Mid.free {H H1 : Hp} {a c r t : Addr} {n : Nat} {rows fresh fr0 : List Str} (M : Mid H a c n H1 r rows fresh) (hc : H c = some (.lst (fr0.map V.str))) (ht : H1 t = none) (hh : ∃ m, Hd H a m) : H t = none := by
  cases e : H t with
  | none => rfl
  | some o =>
    have z := M.but t o (M.hd.ne ht) (fun q => by rw [q, M.ac] at ht; cases ht) e
    rw [z] at ht
    cases ht
/-- fresh != [], rows != [] -/
theorem ne_nil {K : PySem.W.Frag} {H : Hp} {r : Addr} {rows : List Str} {Q : VK} (e : H r = some (.lst (rows.map V.str))) (h : ∀ z ∈ rows, RowS z) (q : ∀ p, H p = none → Q (.bl (!rows.isEmpty)) (upd H p (.lst []))) :
    ∀ p, H p = none → rNeD K (.ref r) (.ref p) (upd H p (.lst [])) Q := fun p hp => by
  refine ⟨.list (rows.map PyData.str), .list [], .lst (SqL.of (by rw [upd_ne (ne_of_none e hp)]; exact e)) (dp_strs rows), .lst (SqL.of upd_same) .nil, shaped_lst fun z hz => (h z hz).ok, rfl, ?_⟩
  have z := q p hp
  cases rows with
  | nil => exact z
  | cons x l => exact z
theorem ins_map (xs : List Str) (i : Nat) (x : Str) : (xs.map V.str).take i ++ [V.str x] ++ (xs.map V.str).drop i = (xs.take i ++ [x] ++ xs.drop i).map V.str := by
  rw [List.map_append, List.map_append, List.map_take, List.map_drop]
  rfl
theorem ins_perm (xs : List Str) (i : Nat) (x : Str) : (xs.take i ++ [x] ++ xs.drop i).Perm (x :: xs) := by
  have h : (xs.take i ++ x :: xs.drop i).Perm (x :: (xs.take i ++ xs.drop i)) := List.perm_middle
  rw [List.take_append_drop] at h
  rw [List.append_assoc]
  exact h
section
variable {P : Program} {w : World} {K : PySem.W.Frag} {mg : Str → Option Value} {base : Heap}
theorem ok_chg {f fT fP : Addr} {fd fdT fdP : FuncData} {k : Nat} (F : Fun K "_law_changed" "_law_changed" sChg f fd) (FT : Fun K "_law_take" "_law_take" sTake fT fdT) (bT : Binds K fdT ["_law_hand_here", "_law_many"] []) (gT : mg "_law_take" = some (.ref fT))
    (FP : Fun K "_law_pick" "_law_pick" sPick fP fdP) (bP : Binds K fdP ["_law_hand_here", "_law_items"] []) (gP : mg "_law_pick" = some (.ref fP)) (ml : mg "len" = none) (mli : mg "list" = none) (mt : mg "tuple" = none) :
    FnOk P w K mg base CX0 (k + 3) f fd ["_law_hand_here", "_law_version", "_law_fresh"] (spChg K) := by
  have GT : FnOk P w K mg base CX0 (k + 2) fT fdT ["_law_hand_here", "_law_many"] spTake := ok_take FT
  have GP : FnOk P w K mg base CX0 (k + 2) fP fdP ["_law_hand_here", "_law_items"] spPick := ok_pick FP FT bT gT ml
  refine F.ok scChg (fun vs H Q E h => ?_) (fun cdv A outer s H vs Q E hr h => ?_)
  · obtain ⟨a, v, c, n, rows, fresh, rfl, _⟩ := h
    rfl
  · obtain ⟨a, v, c, n, rows, fresh, rfl, hh, hn, hV, nca, hc, l1, l2, r1, r2, q⟩ := h
    -- the elif of way 2, and the last one
    obtain ⟨t2, h2, e2⟩ : ∃ t2, PSs (cxOf CX0 P w K mg base nChg "_law_changed" (defScope sChg) f cdv A outer s H E).nox (elseOf ((elseOf ((defBody sChg).getD 1 (.Pass ⟨0, 0, 0, 0⟩))).getD 0 (.Pass ⟨0, 0, 0, 0⟩))) t2 ∧
        ∀ (D : Ends) (way : Int) (r : Addr) (y : Option V) (H1 : Hp), Mid H a c (n + 1) H1 r rows fresh → (∀ r' y' H2 rows', Mid H a c (n + 4) H2 r' rows' fresh → (∃ l, l.Sublist rows ∧ rows'.Perm l) → D.nx [some (.ref a), some (.ref v), some (.ref c), some (.int way), some (.ref r'), y'] H2) →
          t2 D [some (.ref a), some (.ref v), some (.ref c), some (.int way), some (.ref r), y] H1 := by
      refine ⟨_, pss_one (ps_if (pt_cmpR op_eq (pv 3) pe_int (nomark _)) (pss_one (ps_set (i := 4) scChg.nd rfl (.inl rfl) (pe_revL (pv 4))))
        (pss_one (ps_if (pt_cmpR (op_neD hr.units) (pv 4) (pe_lst pa_nil) (nomark _))
          (pss_cons (ps_set (i := 5) scChg.nd rfl (.inl rfl) (pe_bm PySem.F.plainAttrs_list PySem.F.slot_list_pop PySem.F.type_list_pop mt_popAt (pv 4) (pa_cons (pe_call GT hr (by rfl) gT FT.kp bT .nil pass0 (pa_cons (pv 0) (pa_cons (pe_callB call_len (by rfl) ml PySem.boot_len (pa_cons (pv 4) pa_nil)) pa_nil))) pa_nil)))
          (pss_one (ps_expr (pe_bm PySem.F.plainAttrs_list PySem.F.slot_list_insert PySem.F.type_list_insert mt_insert (pv 4) (pa_cons (pe_call GP hr (by rfl) gP FP.kp bP .nil pass0 (pa_cons (pv 0) (pa_cons (pe_lst (pa_cons pe_int (pa_cons (pe_call GT hr (by rfl) gT FT.kp bT .nil pass0 (pa_cons (pv 0) (pa_cons (pe_op op_add (pe_callB call_len (by rfl) ml PySem.boot_len (pa_cons (pv 4) pa_nil)) pe_int) pa_nil))) (pa_cons (pe_callB call_len (by rfl) ml PySem.boot_len (pa_cons (pv 4) pa_nil)) pa_nil)))) pa_nil))) (pa_cons (pv 5) pa_nil)))))) pss_nil))), ?_⟩
      intro D way r y H1 M fin
      refine ⟨_, rfl, rfl, _, rfl, ite2 (fun h0 => ?_) (fun h0 => ?_)⟩
      · refine ⟨.ref r, rfl, r, _, rfl, SqL.of M.ar, fun p hp => ?_⟩
        have M2 := (M.laid (o := .lst (rows.map V.str).reverse) hp).up (show n + 1 ≤ n + 4 by omega)
        have npH := M.free hc hp ⟨n, hh⟩
        refine fin p y _ rows.reverse ⟨M2.but, M2.hd, npH, M.hd.ne hp, fun z => ?_, ?_, M2.ac⟩ ⟨rows, List.Sublist.refl _, List.reverse_perm rows⟩
        · rw [z, M.ac] at hp
          cases hp
        · rw [upd_same, List.map_reverse]
      · refine ⟨.ref r, rfl, Nat.zero_le _, fun p hp => ?_⟩
        refine ne_nil (K := K) M.ar r1 (fun p hp => ?_) p hp
        have M2 := M.laid (o := .lst []) hp
        generalize upd H1 p (.lst []) = H2 at M2 ⊢
        refine ⟨_, rfl, ?_⟩
        cases rows with
        | nil => exact iteF (fin r y H2 [] (M2.up (by omega)) ⟨[], List.Sublist.refl _, List.Perm.refl _⟩)
        | cons x xs =>
          refine iteT ?_
          have hlen : ((x :: xs).map V.str).length = xs.length + 1 := by rw [List.length_map, List.length_cons]
          have l1' : xs.length + 1 ≤ 24 := l1
          -- row = rows.pop(..)
          refine ⟨.ref r, rfl, .inl ⟨rfl, _, SqL.of M2.ar⟩, .ref a, rfl, .ref r, rfl, _, xs.length + 1, rfl, .inl ⟨_, SqL.of M2.ar, hlen.symm⟩, a, n + 1, _, rfl, M2.hd, by omega, by omega, by omega, fun H3 i sb3 h3 i0 i1 => ?_⟩
          have M3 := M2.took nca sb3 h3
          have hk : i.toNat < (x :: xs).length := by rw [List.length_cons]; omega
          have g : ((x :: xs).map V.str)[i.toNat]? = some (.str (x :: xs)[i.toNat]) := by
            rw [List.getElem?_map, List.getElem?_eq_getElem hk]
            rfl
          refine ⟨r, _, i, i.toNat, _, rfl, rfl, M3.ar, by omega, by omega, seq_at i0 (by rw [hlen]; omega), g, ?_⟩
          rw [er_map]
          have M4 := M3.row (rows' := (x :: xs).eraseIdx i.toNat)
          generalize upd H3 r (.lst (((x :: xs).eraseIdx i.toNat).map V.str)) = H4 at M4 ⊢
          have le : ((x :: xs).eraseIdx i.toNat).length = xs.length := by
            rw [List.length_eraseIdx, if_pos hk, List.length_cons]
            omega
          -- rows.insert(..)
          refine ⟨.ref r, rfl, .inl ⟨rfl, _, SqL.of M4.ar⟩, .ref a, rfl, .ref a, rfl, .ref r, rfl, _, xs.length, rfl, .inl ⟨_, SqL.of M4.ar, by rw [List.length_map, le]⟩, _, 1, rfl, rfl, a, n + 2, _, rfl, M4.hd, by omega, by omega, by omega, fun H5 j sb5 h5 j0 j1 => ?_⟩
          have M5 := M4.took nca sb5 h5
          refine ⟨.ref r, rfl, _, xs.length, rfl, .inl ⟨_, SqL.of M5.ar, by rw [List.length_map, le]⟩, (by show 3 ≤ sizeLine; decide), fun l6 hl6 => ?_⟩
          refine ⟨a, n + 3, .ref l6, rfl, M5.hd.new hl6, by omega, .inl ⟨l6, _, rfl, M5.hd.ne hl6, .inl upd_same, (by show 0 < 3; decide), (by show 3 ≤ 1000; decide), fun H7 v7 sb7 h7 hv7 => ?_⟩⟩
          have M7 := (M5.laid hl6).took nca sb7 h7
          obtain ⟨m, rfl, hm⟩ : ∃ m : Nat, v7 = .int m ∧ m ≤ 24 := by
            simp only [List.mem_cons, List.not_mem_nil, or_false] at hv7
            rcases hv7 with rfl | rfl | rfl
            · exact ⟨0, rfl, by omega⟩
            · obtain ⟨j', rfl⟩ := Int.eq_ofNat_of_zero_le j0
              exact ⟨j', rfl, by omega⟩
            · exact ⟨xs.length, rfl, by omega⟩
          refine ⟨_, rfl, r, _, m, _, rfl, rfl, M7.ar, ?_, by omega, by omega, ?_⟩
          · rw [List.length_map, le]
            exact small1000 (by omega)
          · rw [Int.toNat_natCast, ins_map]
            refine fin r _ _ _ M7.row ⟨(x :: xs), List.Sublist.refl _, ?_⟩
            exact (ins_perm _ _ _).trans (er_perm hk)
    -- the elif of way 1
    obtain ⟨t1, h1, e1⟩ : ∃ t1, PSs (cxOf CX0 P w K mg base nChg "_law_changed" (defScope sChg) f cdv A outer s H E).nox (elseOf ((defBody sChg).getD 1 (.Pass ⟨0, 0, 0, 0⟩))) t1 ∧
        ∀ (D : Ends) (way : Int) (r : Addr) (y : Option V) (H1 : Hp), Mid H a c (n + 1) H1 r rows fresh → (∀ r' y' H2 rows', Mid H a c (n + 4) H2 r' rows' fresh → (∃ l, l.Sublist rows ∧ rows'.Perm l) → D.nx [some (.ref a), some (.ref v), some (.ref c), some (.int way), some (.ref r'), y'] H2) →
          t1 D [some (.ref a), some (.ref v), some (.ref c), some (.int way), some (.ref r), y] H1 := by
      refine ⟨_, pss_one (ps_if (PW.pt (pw_and (pt_cmpR op_eq (pv 3) pe_int (nomark _)) (pw_and1 (pt_cmpR (op_neD hr.units) (pv 4) (pe_lst pa_nil) (nomark _)))))
        (pss_one (ps_expr (pe_bm PySem.F.plainAttrs_list PySem.F.slot_list_pop PySem.F.type_list_pop mt_popAt (pv 4) (pa_cons (pe_call GT hr (by rfl) gT FT.kp bT .nil pass0 (pa_cons (pv 0) (pa_cons (pe_callB call_len (by rfl) ml PySem.boot_len (pa_cons (pv 4) pa_nil)) pa_nil))) pa_nil)))) h2), ?_⟩
      intro D way r y H1 M fin
      refine ⟨_, rfl, rfl, _, rfl, ite2 (fun h0 => ?_) (fun h0 => iteF (e2 D way r y H1 M fin))⟩
      refine ⟨.ref r, rfl, Nat.zero_le _, fun p hp => ?_⟩
      refine ne_nil (K := K) M.ar r1 (fun p hp => ?_) p hp
      have M2 := M.laid (o := .lst []) hp
      generalize upd H1 p (.lst []) = H2 at M2 ⊢
      refine ⟨_, rfl, ?_⟩
      cases hrows : rows with
      | nil => exact iteF (e2 D way r y H2 M2 fin)
      | cons x xs =>
        refine iteT ?_
        rw [hrows] at M2 l1 fin
        have hlen : ((x :: xs).map V.str).length = xs.length + 1 := by rw [List.length_map, List.length_cons]
        have l1' : xs.length + 1 ≤ 24 := l1
        refine ⟨.ref r, rfl, .inl ⟨rfl, _, SqL.of M2.ar⟩, .ref a, rfl, .ref r, rfl, _, xs.length + 1, rfl, .inl ⟨_, SqL.of M2.ar, hlen.symm⟩, a, n + 1, _, rfl, M2.hd, by omega, by omega, by omega, fun H3 i sb3 h3 i0 i1 => ?_⟩
        have M3 := M2.took nca sb3 h3
        have hk : i.toNat < (x :: xs).length := by rw [List.length_cons]; omega
        have g : ((x :: xs).map V.str)[i.toNat]? = some (.str (x :: xs)[i.toNat]) := by
          rw [List.getElem?_map, List.getElem?_eq_getElem hk]
          rfl
        refine ⟨r, _, i, i.toNat, _, rfl, rfl, M3.ar, by omega, by omega, seq_at i0 (by rw [hlen]; omega), g, ?_⟩
        rw [er_map]
        exact fin r y _ _ (M3.row.up (by omega)) ⟨_, List.eraseIdx_sublist _ _, List.Perm.refl _⟩
    refine ⟨_, pss_cons (ps_par (i := 3) (j := 4) (by rfl) scChg.nd rfl rfl (by decide) rfl rfl (pa_cons (pe_call GT hr (by rfl) gT FT.kp bT .nil pass0 (pa_cons (pv 0) (pa_cons pe_int pa_nil))) (pa_cons (pe_callTy call_list_of (by rfl) mli (by decide +kernel) (pa_cons (pv 1) pa_nil)) pa_nil)) (by rfl))
      (pss_cons (ps_if (PW.pt (pw_and (pt_cmpR op_eq (pv 3) pe_int (nomark _)) (pw_and (pt_cmpR (op_neD hr.units) (pv 2) (pe_lst pa_nil) (nomark _)) (pw_and1 (pt_cmpR op_lt (pe_callB call_len (by rfl) ml PySem.boot_len (pa_cons (pv 4) pa_nil)) pe_int (nomark _))))))
        (pss_one (ps_expr (pe_bm PySem.F.plainAttrs_list PySem.F.slot_list_insert PySem.F.type_list_insert mt_insert (pv 4) (pa_cons (pe_call GT hr (by rfl) gT FT.kp bT .nil pass0 (pa_cons (pv 0) (pa_cons (pe_op op_add (pe_callB call_len (by rfl) ml PySem.boot_len (pa_cons (pv 4) pa_nil)) pe_int) pa_nil)))
          (pa_cons (pe_bm PySem.F.plainAttrs_list PySem.F.slot_list_pop PySem.F.type_list_pop mt_popAt (pv 2) (pa_cons pe_int pa_nil)) pa_nil))))) h1)
      (pss_one (ps_ret (pe_callTy call_tuple_of (by rfl) mt (by decide +kernel) (pa_cons (pv 4) pa_nil))))), ?_⟩
    -- way, rows
    refine ⟨.ref a, rfl, a, n, 10, rfl, hh, by omega, by decide, by decide, fun H1 way sb1 hd1 _ _ => ?_⟩
    refine ⟨.ref v, rfl, v, _, rfl, .inr (but_t sb1 hh hV), fun r hrr => ?_⟩
    refine ⟨_, _, rfl, ?_⟩
    have nra : r ≠ a := hd1.ne hrr
    have hc1 := sb1 c _ nca hc
    have nrc : r ≠ c := fun z => by
      rw [z, hc1] at hrr
      cases hrr
    have M0 : Mid H a c (n + 1) (upd H1 r (.lst (rows.map V.str))) r rows fresh := ⟨(sb1.new hrr).two, hd1.new hrr, fr sb1 hh hd1 hrr, nra, nrc, upd_same, by rw [upd_ne nrc.symm]; exact hc1⟩
    generalize upd H1 r (.lst (rows.map V.str)) = H2 at M0 ⊢
    have fin : ∀ (r' : Addr) (y' : Option V) (H2 : Hp) (rows' fresh' : List Str), Mid H a c (n + 4) H2 r' rows' fresh' → Chg rows fresh rows' fresh' → ∃ x, ([some (.ref a), some (.ref v), some (.ref c), some (.int way), some (.ref r'), y'] : L2.St)[4]? = some (some x) ∧ ∃ p ys, [x] = [V.ref p] ∧ ((SqL K H2 p ys ∧ ∀ l, H2 l = none → Q (.ref l) (upd H2 l (.tup ys))) ∨ (SqT K H2 p ys ∧ Q (.ref p) H2)) := by
      intro r' y' H3 rows' fresh' M3 ch
      refine ⟨.ref r', rfl, r', _, rfl, .inl ⟨SqL.of M3.ar, fun t ht => ?_⟩⟩
      have htH := M3.free hc ht ⟨n, hh⟩
      have M4 := M3.laid (o := .tup (rows'.map V.str)) ht
      exact q _ t rows' fresh' M4.but M4.hd htH upd_same M4.ac ch
    have fin1 : ∀ r' y' H2 rows', Mid H a c (n + 4) H2 r' rows' fresh → (∃ l, l.Sublist rows ∧ rows'.Perm l) → ∃ x, ([some (.ref a), some (.ref v), some (.ref c), some (.int way), some (.ref r'), y'] : L2.St)[4]? = some (some x) ∧ ∃ p ys, [x] = [V.ref p] ∧ ((SqL K H2 p ys ∧ ∀ l, H2 l = none → Q (.ref l) (upd H2 l (.tup ys))) ∨ (SqT K H2 p ys ∧ Q (.ref p) H2)) := by
      rintro r' y' H3 rows' M3 ⟨l, hl, pl⟩
      refine fin r' y' H3 rows' fresh M3 ⟨?_, .inr ⟨rfl, l, hl, pl⟩⟩
      rw [pl.length_eq]
      exact Nat.le_trans hl.length_le l1
    refine ⟨_, rfl, rfl, _, rfl, ite2 (fun h0 => ?_) (fun h0 => iteF (e1 _ way r none H2 M0 fin1))⟩
    refine ⟨.ref c, rfl, Nat.zero_le _, fun p hp => ?_⟩
    refine ne_nil (K := K) M0.ac r2 (fun p hp => ?_) p hp
    have M2 := M0.laid (o := .lst []) hp
    generalize upd H2 p (.lst []) = H3 at M2 ⊢
    refine ⟨_, rfl, ?_⟩
    cases hf : fresh with
    | nil => exact iteF (e1 _ way r none H3 M2 fin1)
    | cons x fs =>
      refine iteT ?_
      refine ⟨.ref r, rfl, _, rows.length, rfl, .inl ⟨_, SqL.of M2.ar, (List.length_map ..).symm⟩, _, 24, rfl, rfl, _, rfl, ite2 (fun h1 => ?_) (fun h1 => e1 _ way r none H3 M2 fin1)⟩
      have h1 : (rows.length : Int) < 24 := of_decide_eq_true h1
      refine ⟨.ref r, rfl, .inl ⟨rfl, _, SqL.of M2.ar⟩, .ref a, rfl, .ref r, rfl, _, rows.length, rfl, .inl ⟨_, SqL.of M2.ar, (List.length_map ..).symm⟩, _, 1, rfl, rfl, a, n + 1, _, rfl, M2.hd, by omega, by omega, by omega, fun H4 i sb4 h4 i0 i1 => ?_⟩
      have M4 := M2.took nca sb4 h4
      obtain ⟨m, rfl⟩ := Int.eq_ofNat_of_zero_le i0
      have hac := M4.ac
      rw [hf] at hac
      refine ⟨.ref c, rfl, .inl ⟨rfl, _, SqL.of hac⟩, c, _, 0, 0, .str x, rfl, rfl, hac, by decide, by decide, seq_at (Int.le_refl 0) (by rw [List.length_map, List.length_cons]; omega), rfl, ?_⟩
      have M5 := M4.frs (fresh' := fs) nca
      refine ⟨r, _, m, _, rfl, rfl, M5.ar, ?_, by omega, by omega, ?_⟩
      · rw [List.length_map]
        exact small1000 (by omega)
      · rw [Int.toNat_natCast, ins_map]
        refine fin r none _ _ fs (M5.row.up (by omega)) ⟨?_, .inl ⟨x, hf, ins_perm _ _ _⟩⟩
        rw [(ins_perm rows m x).length_eq, List.length_cons]
        omega
end
end M
namespace M
open PySem PySem.Spec PyProof.Rows L2 Gd
/-! ### histories -/
/-- the versions of a history, as the items of a list or tuple -/
def VsAt (K : PySem.W.Frag) (H : Hp) : List V → List (List Str) → Prop
  | [], [] => True
  | x :: xs, v :: vs => (∃ a, x = .ref a ∧ SqT K H a (v.map V.str)) ∧ VsAt K H xs vs
  | _, _ => False
theorem VsAt.keep {K : PySem.W.Frag} {H H' : Hp} (k : ∀ b ys, SqT K H b ys → SqT K H' b ys) : ∀ {xs : List V} {vs : List (List Str)}, VsAt K H xs vs → VsAt K H' xs vs
  | [], [], _ => trivial
  | _ :: _, _ :: _, ⟨⟨a, e, h⟩, r⟩ => ⟨⟨a, e, k _ _ h⟩, VsAt.keep k r⟩
theorem VsAt.len {K : PySem.W.Frag} {H : Hp} : ∀ {xs : List V} {vs : List (List Str)}, VsAt K H xs vs → xs.length = vs.length
  | [], [], _ => rfl
  | _ :: _, _ :: _, ⟨_, r⟩ => by rw [List.length_cons, List.length_cons, VsAt.len r]
theorem VsAt.get {K : PySem.W.Frag} {H : Hp} : ∀ {xs : List V} {vs : List (List Str)} {i : Nat} {v : List Str}, VsAt K H xs vs → vs[i]? = some v → ∃ a, xs[i]? = some (.ref a) ∧ SqT K H a (v.map V.str)
  | [], [], _, _, _, g => by simp at g
  | x :: _, u :: _, 0, v, ⟨⟨a, e, h⟩, _⟩, g => by
    have g : u = v := Option.some.inj g
    subst g e
    exact ⟨a, rfl, h⟩
  | _ :: xs, _ :: vs, i + 1, v, ⟨_, r⟩, g => VsAt.get (i := i) r g
theorem VsAt.snoc {K : PySem.W.Frag} {H : Hp} {a : Addr} {v : List Str} (h : SqT K H a (v.map V.str)) : ∀ {xs : List V} {vs : List (List Str)}, VsAt K H xs vs → VsAt K H (xs ++ [.ref a]) (vs ++ [v])
  | [], [], _ => ⟨⟨a, rfl, h⟩, trivial⟩
  | _ :: _, _ :: _, ⟨e, r⟩ => ⟨e, VsAt.snoc h r⟩
theorem VsAt.dp {K : PySem.W.Frag} {H : Hp} : ∀ {xs : List V} {vs : List (List Str)}, VsAt K H xs vs → DpAll K H xs (vs.map fun v => PyData.tuple (v.map PyData.str))
  | [], [], _ => .nil
  | _ :: _, v :: _, ⟨⟨a, e, h⟩, r⟩ => by
    subst e
    exact .cons (.tup h (dp_strs v)) (VsAt.dp r)
def HistAt (K : PySem.W.Frag) (H : Hp) (p : Addr) (hs : List (List Str)) : Prop := ∃ xs, SqT K H p xs ∧ VsAt K H xs hs
theorem HistAt.keep {K : PySem.W.Frag} {H H' : Hp} {p : Addr} {hs : List (List Str)} (k : ∀ b ys, SqT K H b ys → SqT K H' b ys) (h : HistAt K H p hs) : HistAt K H' p hs := by
  obtain ⟨xs, h1, h2⟩ := h
  exact ⟨xs, k _ _ h1, h2.keep k⟩
theorem HistAt.same {K : PySem.W.Frag} {H H' : Hp} {p : Addr} {hs : List (List Str)} (s : Same H H') (h : HistAt K H p hs) : HistAt K H' p hs := h.keep fun _ _ => same_t s
theorem HistAt.but {K : PySem.W.Frag} {H H' : Hp} {p a : Addr} {n : Nat} {hs : List (List Str)} (b : But a H H') (hd : Hd H a n) (h : HistAt K H p hs) : HistAt K H' p hs := h.keep fun _ _ => but_t b hd
theorem upd_t {K : PySem.W.Frag} {H : Hp} {l b : Addr} {z ys : List V} {o : HO} (hl : H l = some (.lst z)) (h : SqT K H b ys) : SqT K (upd H l o) b ys := by
  rcases h with (h | ⟨u, h⟩) | h
  · exact .inl (.inl (by rw [upd_ne (fun e => by rw [e, hl] at h; cases h)]; exact h))
  · exact .inl (.inr ⟨u, by rw [upd_ne (fun e => by rw [e, hl] at h; cases h)]; exact h⟩)
  · exact .inr h
theorem but2_t {K : PySem.W.Frag} {H H' : Hp} {a c v : Addr} {n : Nat} {z xs : List V} (b : But2 a c H H') (h : Hd H a n) (hc : H c = some (.lst z)) (hv : SqT K H v xs) : SqT K H' v xs := by
  obtain ⟨ys, e⟩ := h.some
  rcases hv with (hv | ⟨o, hv⟩) | hv
  · exact .inl (.inl (b v _ (fun z => by rw [z, e] at hv; cases hv) (fun z => by rw [z, hc] at hv; cases hv) hv))
  · exact .inl (.inr ⟨o, b v _ (fun z => by rw [z, e] at hv; cases hv) (fun z => by rw [z, hc] at hv; cases hv) hv⟩)
  · exact .inr hv
def NoRet (hs : List (List Str)) : Prop := ∀ (i j k : Nat) (u v w : List Str), i < j → j < k → hs[i]? = some u → hs[j]? = some v → hs[k]? = some w → ∀ x ∈ u, x ∉ v → x ∉ w
structure VerOk (v : List Str) : Prop where
  nd : v.Nodup
  len : v.length ≤ 24
  row : ∀ z ∈ v, RowS z
structure HistOk (hs : List (List Str)) : Prop where
  ne : hs ≠ []
  ver : ∀ v ∈ hs, VerOk v
  ret : NoRet hs
/-- a history that grows, and the rows that have not come yet -/
structure Grow (names : List Str) (hs : List (List Str)) (fresh : List Str) : Prop where
  ok : HistOk hs
  fnd : fresh.Nodup
  off : ∀ v ∈ hs, ∀ z ∈ v, z ∉ fresh
  inn : ∀ v ∈ hs, ∀ z ∈ v, z ∈ names
  fin : ∀ z ∈ fresh, z ∈ names
  row : ∀ z ∈ names, RowS z
theorem snoc_get {α : Type} {l : List α} {x y : α} {i : Nat} (h : (l ++ [x])[i]? = some y) : (i < l.length ∧ l[i]? = some y) ∨ (i = l.length ∧ x = y) := by
  by_cases hi : i < l.length
  · rw [List.getElem?_append_left hi] at h
    exact .inl ⟨hi, h⟩
  · rw [List.getElem?_append_right (by omega)] at h
    by_cases e : i - l.length = 0
    · rw [e] at h
      exact .inr ⟨by omega, Option.some.inj h⟩
    · obtain ⟨d, hd⟩ : ∃ d, i - l.length = d + 1 := ⟨i - l.length - 1, by omega⟩
      rw [hd] at h
      cases h
theorem Grow.step {names : List Str} {hs : List (List Str)} {fresh last rows' fresh' : List Str} (G : Grow names hs fresh) (hl : hs.getLast? = some last) (C : Chg last fresh rows' fresh') : Grow names (hs ++ [rows']) fresh' := by
  have lm : last ∈ hs := List.mem_of_getLast? hl
  have L := G.ok.ver last lm
  obtain ⟨len', C⟩ := C
  -- a row of the new version is a fresh one or one of the last
  have src : ∀ z ∈ rows', (z ∈ fresh ∧ z ∉ fresh') ∨ (z ∈ last ∧ z ∉ fresh') := by
    rcases C with ⟨x, e, pm⟩ | ⟨e, l, sl, pm⟩
    · intro z hz
      have hf := G.fnd
      rw [e] at hf
      rcases List.mem_cons.mp (pm.subset hz) with h | h
      · rw [h, e]
        exact .inl ⟨List.mem_cons_self, (List.nodup_cons.mp hf).1⟩
      · exact .inr ⟨h, fun q => G.off last lm z h (by rw [e]; exact List.mem_cons_of_mem _ q)⟩
    · intro z hz
      have h := sl.subset (pm.subset hz)
      exact .inr ⟨h, fun q => G.off last lm z h (by rw [← e]; exact q)⟩
  have nd' : rows'.Nodup := by
    rcases C with ⟨x, e, pm⟩ | ⟨e, l, sl, pm⟩
    · refine pm.nodup_iff.mpr (List.nodup_cons.mpr ⟨fun q => G.off last lm x q (by rw [e]; exact List.mem_cons_self), L.nd⟩)
    · exact pm.nodup_iff.mpr (L.nd.sublist sl)
  have sub' : ∀ z ∈ fresh', z ∈ fresh := by
    rcases C with ⟨x, e, pm⟩ | ⟨e, l, sl, pm⟩
    · intro z hz
      rw [e]
      exact List.mem_cons_of_mem _ hz
    · intro z hz
      rw [← e]
      exact hz
  have inn' : ∀ z ∈ rows', z ∈ names := fun z hz => (src z hz).elim (fun h => G.fin z h.1) fun h => G.inn last lm z h.1
  refine ⟨⟨?_, ?_, ?_⟩, ?_, ?_, ?_, fun z hz => G.fin z (sub' z hz), G.row⟩
  · intro z
    cases hs <;> cases z
  · intro v hv
    rcases List.mem_append.mp hv with h | h
    · exact G.ok.ver v h
    · rw [List.mem_singleton.mp h]
      exact ⟨nd', len', fun z hz => G.row z (inn' z hz)⟩
  · intro i j k u v w ij jk hu hv hw x xu xv
    rcases snoc_get hw with ⟨hk, ew⟩ | ⟨hk, ew⟩
    · rw [List.getElem?_append_left (by omega)] at hu hv
      exact G.ok.ret i j k u v w ij jk hu hv ew x xu xv
    · rw [List.getElem?_append_left (by omega)] at hu hv
      subst ew
      intro xw
      have um := List.mem_of_getElem? hu
      rcases src x xw with h | h
      · exact G.off u um x xu h.1
      · rw [List.getLast?_eq_getElem?] at hl
        by_cases e : j = hs.length - 1
        · rw [← e, hv] at hl
          cases hl
          exact xv h.1
        · exact G.ok.ret i j (hs.length - 1) u v last ij (by omega) hu hv hl x xu xv h.1
  · rcases C with ⟨x, e, pm⟩ | ⟨e, l, sl, pm⟩
    · have hf := G.fnd
      rw [e] at hf
      exact (List.nodup_cons.mp hf).2
    · rw [e]
      exact G.fnd
  · intro v hv z hz
    rcases List.mem_append.mp hv with h | h
    · exact fun q => G.off v h z hz (sub' z q)
    · rw [List.mem_singleton.mp h] at hz
      exact (src z hz).elim (·.2) (·.2)
  · intro v hv z hz
    rcases List.mem_append.mp hv with h | h
    · exact G.inn v h z hz
    · rw [List.mem_singleton.mp h] at hz
      exact inn' z hz
theorem Grow.first {names rows fresh : List Str} (nd : names.Nodup) (row : ∀ z ∈ names, RowS z) (m : Nat) (pm : rows.Perm (names.take m)) (e : fresh = names.drop m) (l : rows.length ≤ 24) : Grow names [rows] fresh := by
  have nd2 : (names.take m ++ names.drop m).Nodup := by
    rw [List.take_append_drop]
    exact nd
  have x := List.nodup_append.mp nd2
  have one : ∀ v ∈ [rows], v = rows := fun v hv => List.mem_singleton.mp hv
  refine ⟨⟨(by intro z; cases z), ?_, ?_⟩, ?_, ?_, ?_, ?_, row⟩
  · intro v hv
    rw [one v hv]
    exact ⟨pm.nodup_iff.mpr x.1, l, fun z hz => row z (List.mem_of_mem_take (pm.subset hz))⟩
  · intro i j k u v w ij jk hu hv hw
    have hj := (List.getElem?_eq_some_iff.mp hv).1
    have : [rows].length = 1 := rfl
    omega
  · rw [e]
    exact x.2.1
  · intro v hv z hz q
    rw [one v hv] at hz
    rw [e] at q
    exact x.2.2 z (pm.subset hz) z q rfl
  · intro v hv z hz
    rw [one v hv] at hz
    exact List.mem_of_mem_take (pm.subset hz)
  · intro z hz
    rw [e] at hz
    exact List.mem_of_mem_drop hz
abbrev sHist : Stmt := topS 19
abbrev nHist : List Str := ["_law_hand_here", "_law_most_rows", "_law_most_versions", "_law_names_here", "_law_many", "_law_versions", "_law_fresh", "_law_turn"]
theorem scHist : FnScope nHist ["_law_hand_here", "_law_most_rows", "_law_most_versions"] (defScope sHist) := ⟨rfl, rfl, rfl, by decide +kernel, rfl, by decide +kernel, by decide +kernel⟩
def spHist (K : PySem.W.Frag) : Sp := fun vs H Q _ => ∃ (a : Addr) (n r m : Nat), vs = [.ref a, .int r, .int m] ∧ Hd H a n ∧ n < 800000 ∧ r ≤ 24 ∧ 0 < m ∧ m ≤ 100 ∧
  ∀ H' p (hs : List (List Str)) (names : List Str), But a H H' → Hd H' a (n + 500) → H p = none → HistAt K H' p hs → HistOk hs → hs.length ≤ m → names.Nodup → names.length ≤ r + 4 → (∀ v ∈ hs, ∀ z ∈ v, z ∈ names) → Q (.ref p) H'
section
variable {P : Program} {w : World} {K : PySem.W.Frag} {mg : Str → Option Value} {base : Heap}
theorem ok_hist {f fT fN fS fC : Addr} {fd fdT fdN fdS fdC : FuncData} {k : Nat} (F : Fun K "_law_history" "_law_history" sHist f fd) (gT : mg "_law_take" = some (.ref fT)) (FT : Fun K "_law_take" "_law_take" sTake fT fdT) (bT : Binds K fdT ["_law_hand_here", "_law_many"] [])
    (gN : mg "_law_names" = some (.ref fN)) (FN : Fun K "_law_names" "_law_names" sNames fN fdN) (bN : Binds K fdN ["_law_hand_here", "_law_count"] []) (GN : FnOk P w K mg base CX0 (k + 3) fN fdN ["_law_hand_here", "_law_count"] spNames)
    (gS : mg "_law_shuffled" = some (.ref fS)) (FS : Fun K "_law_shuffled" "_law_shuffled" sShuf fS fdS) (bS : Binds K fdS ["_law_hand_here", "_law_items"] []) (GS : FnOk P w K mg base CX0 (k + 3) fS fdS ["_law_hand_here", "_law_items"] spShuf)
    (gC : mg "_law_changed" = some (.ref fC)) (FC : Fun K "_law_changed" "_law_changed" sChg fC fdC) (bC : Binds K fdC ["_law_hand_here", "_law_version", "_law_fresh"] []) (GC : FnOk P w K mg base CX0 (k + 3) fC fdC ["_law_hand_here", "_law_version", "_law_fresh"] (spChg K))
    (mmin : mg "min" = none) (mt : mg "tuple" = none) (mr : mg "range" = none) : FnOk P w K mg base CX0 (k + 4) f fd ["_law_hand_here", "_law_most_rows", "_law_most_versions"] (spHist K) := by
  have GT : FnOk P w K mg base CX0 (k + 3) fT fdT ["_law_hand_here", "_law_many"] spTake := ok_take FT
  refine F.ok scHist (fun vs H Q E h => ?_) (fun cdv A outer s H vs Q E hr h => ?_)
  · obtain ⟨a, n, r, m, rfl, _⟩ := h
    rfl
  · obtain ⟨a, n, r, m, rfl, hh, hn, hrr, m0, m1, q⟩ := h
    refine ⟨_, pss_cons (ps_set (i := 3) scHist.nd rfl (.inl rfl) (pe_call GN hr (by rfl) gN FN.kp bN .nil pass0 (pa_cons (pv 0) (pa_cons (pe_callB (call_min2 rfl) (by rfl) mmin (by decide +kernel) (pa_cons pe_int (pa_cons (pe_op op_add (pv 1) pe_int) pa_nil))) pa_nil))))
      (pss_cons (ps_set (i := 4) scHist.nd rfl (.inl rfl) (pe_call GT hr (by rfl) gT FT.kp bT .nil pass0 (pa_cons (pv 0) (pa_cons (pe_op op_add (pv 1) pe_int) pa_nil))))
      (pss_cons (ps_par (i := 5) (j := 6) (by rfl) scHist.nd rfl rfl (by decide) rfl rfl (pa_cons (pe_lst (pa_cons (pe_callTy call_tuple_of (by rfl) mt (by decide +kernel) (pa_cons (pe_call GS hr (by rfl) gS FS.kp bS .nil pass0 (pa_cons (pv 0) (pa_cons (pe_slice sl_list (pv 3) po_none (po_some (pv 4))) pa_nil))) pa_nil)) pa_nil)) (pa_cons (pe_slice sl_list (pv 3) (po_some (pv 4)) po_none) pa_nil)) (by rfl))
      (pss_cons (ps_for PassesOwn.never rfl (pi_range1 (by rfl) mr (pa_cons (pe_call GT hr (by rfl) gT FT.kp bT .nil pass0 (pa_cons (pv 0) (pa_cons (pv 2) pa_nil))) pa_nil)) (pg_name (i := 7) scHist.nd rfl (.inl rfl))
        (pss_one (ps_expr (pe_bm PySem.F.plainAttrs_list PySem.F.slot_list_append PySem.F.type_list_append mt_append (pv 5) (pa_cons (pe_call GC hr (by rfl) gC FC.kp bC .nil pass0 (pa_cons (pv 0) (pa_cons (pe_ix ix_list (pv 5) (pe_un un_neg pe_int) (fun _ _ => rfl)) (pa_cons (pv 6) pa_nil)))) pa_nil)))))
      (pss_one (ps_ret (pe_callTy call_tuple_of (by rfl) mt (by decide +kernel) (pa_cons (pv 5) pa_nil)))))))  , ?_⟩
    -- names
    obtain ⟨cn, hcn, cn1, cn2⟩ : ∃ cn : Nat, (if (r : Int) + 4 < 24 then (r : Int) + 4 else 24) = (cn : Int) ∧ cn ≤ 24 ∧ cn ≤ r + 4 := by
      by_cases h : (r : Int) + 4 < 24
      · exact ⟨r + 4, by rw [if_pos h]; rfl, by omega, by omega⟩
      · exact ⟨24, by rw [if_neg h]; rfl, by omega, by omega⟩
    refine ⟨.ref a, rfl, _, rfl, _, 4, rfl, rfl, _, _, rfl, a, n, cn, congrArg (fun z => [V.ref a, V.int z]) hcn, hh, by omega, by omega, fun H1 nm nl sb1 hd1 nn1 e1 len1 nd1 row1 => ?_⟩
    -- many
    refine ⟨.ref a, rfl, _, rfl, _, 1, rfl, rfl, a, n + 5, _, rfl, hd1, by omega, by omega, by omega, fun H2 y2 sb2 hd2 y0 y1 => ?_⟩
    obtain ⟨my, rfl⟩ := Int.eq_ofNat_of_zero_le y0
    have nma : nm ≠ a := hh.ne nn1
    have e2 := sb2 nm _ nma e1
    have b2 : But a H H2 := sb1.trans sb2
    -- the first version
    refine ⟨.ref a, rfl, .ref nm, rfl, _, rfl, my, rfl, nm, _, rfl, SqL.of e2, fun l3 hl3 => ?_⟩
    have ec : cutV (nl.map V.str) none (some (my : Int)) = (nl.take my).map V.str := by rw [cut_to, List.map_take]
    refine ⟨a, l3, n + 6, nl.take my, rfl, hd2.new hl3, hd2.ne hl3, .inl (by rw [upd_same, ec]), ?_, ?_, fun z hz => row1 z (List.mem_of_mem_take hz), fun H4 p4 rows sb4 hd4 n4 e4 pm4 => ?_⟩
    · rw [List.length_take]
      omega
    · rw [List.length_take]
      omega
    refine ⟨p4, _, rfl, .inl ⟨SqL.of e4, fun v5 hv5 => ?_⟩⟩
    have b4 : But a H H4 := (b2.new hl3).trans sb4
    have hd4' : Hd H4 a (n + 30) := hd4.up (by rw [List.length_take]; omega)
    have b5 : But a H (upd H4 v5 (.tup (rows.map V.str))) := b4.new hv5
    have hd5 : Hd (upd H4 v5 (.tup (rows.map V.str))) a (n + 30) := hd4'.new hv5
    have e5 : (upd H4 v5 (.tup (rows.map V.str))) v5 = some (.tup (rows.map V.str)) := upd_same
    have e25 : (upd H4 v5 (.tup (rows.map V.str))) nm = some (.lst (nl.map V.str)) := by
      have z : H4 nm = some (.lst (nl.map V.str)) := sb4 nm _ nma (by rw [upd_ne (ne_of_none e2 hl3)]; exact e2)
      rw [upd_ne (ne_of_none z hv5)]
      exact z
    generalize upd H4 v5 (.tup (rows.map V.str)) = H5 at b5 hd5 e5 e25 ⊢
    refine ⟨(by show 1 ≤ sizeLine; decide), fun vl hvl => ?_⟩
    have e256 : (upd H5 vl (.lst [.ref v5])) nm = some (.lst (nl.map V.str)) := by
      rw [upd_ne (ne_of_none e25 hvl)]
      exact e25
    -- fresh
    refine ⟨.ref nm, rfl, _, rfl, my, rfl, nm, _, rfl, SqL.of e256, fun c hc => ?_⟩
    refine ⟨_, _, rfl, ?_⟩
    have vla : vl ≠ a := hd5.ne hvl
    have hd6 := hd5.new (o := .lst [.ref v5]) hvl
    have ca : c ≠ a := hd6.ne hc
    have vlc : vl ≠ c := ne_of_none upd_same hc
    have vlH : H vl = none := fr b5 hh hd5 hvl
    have cH : H c = none := fr (b5.new hvl) hh hd6 hc
    have ef : cutV (nl.map V.str) (some (my : Int)) none = (nl.drop my).map V.str := by rw [cut_from, List.map_drop]
    rw [ef]
    have b7 : But a H (upd (upd H5 vl (.lst [.ref v5])) c (.lst ((nl.drop my).map V.str))) := (b5.new hvl).new hc
    have hd7 : Hd (upd (upd H5 vl (.lst [.ref v5])) c (.lst ((nl.drop my).map V.str))) a (n + 30) := hd6.new hc
    have evl : (upd (upd H5 vl (.lst [.ref v5])) c (.lst ((nl.drop my).map V.str))) vl = some (.lst [.ref v5]) := by
      rw [upd_ne vlc]
      exact upd_same
    have ecc : (upd (upd H5 vl (.lst [.ref v5])) c (.lst ((nl.drop my).map V.str))) c = some (.lst ((nl.drop my).map V.str)) := upd_same
    have ev5 : SqT K (upd (upd H5 vl (.lst [.ref v5])) c (.lst ((nl.drop my).map V.str))) v5 (rows.map V.str) := by
      have z : (upd H5 vl (.lst [.ref v5])) v5 = some (.tup (rows.map V.str)) := by
        rw [upd_ne (ne_of_none e5 hvl)]
        exact e5
      refine SqT.of ?_
      rw [upd_ne (ne_of_none z hc)]
      exact z
    generalize upd (upd H5 vl (.lst [.ref v5])) c (.lst ((nl.drop my).map V.str)) = H7 at b7 hd7 evl ecc ev5 ⊢
    have G7 : Grow nl [rows] (nl.drop my) := Grow.first nd1 row1 my pm4 rfl (by rw [pm4.length_eq, List.length_take]; omega)
    -- the turns
    refine ⟨.ref a, rfl, _, rfl, a, n + 30, m, rfl, hd7, by omega, by omega, by omega, fun H8 tn sb8 hd8 tn0 tn1 => ?_⟩
    obtain ⟨tn, rfl⟩ := Int.eq_ofNat_of_zero_le tn0
    refine ⟨tn, rfl, by omega, by omega, ?_⟩
    refine for_range (lo := 0) (n := tn) (fun i σ H' => ∃ (y : Option V) (xs : List V) (L : List (List Str)) (fresh : List Str), σ = [some (.ref a), some (.int r), some (.int m), some (.ref nm), some (.int my), some (.ref vl), some (.ref c), y] ∧ But a H H' ∧ Hd H' a (n + 31 + 4 * i) ∧ H' vl = some (.lst xs) ∧ VsAt K H' xs L ∧ H' c = some (.lst (fresh.map V.str)) ∧ Grow nl L fresh ∧ L.length = i + 1 ∧ fresh.length ≤ 30)
      ⟨none, [.ref v5], [rows], nl.drop my, rfl, b7.trans sb8, hd8, sb8 _ _ vla evl, ⟨⟨v5, rfl, but_t sb8 hd7 ev5⟩, trivial⟩, sb8 _ _ ca ecc, G7, rfl, ?_⟩ (fun i σ H' hi hP => ?_) (fun σ H' hP => ?_)
    · rw [List.length_drop]
      omega
    · obtain ⟨y, xs, L, fresh, rfl, p1, p2, p3, p4, p5, p6, p7, p8⟩ := hP
      have hlast : ∃ last, L.getLast? = some last := by
        cases L with
        | nil => cases p7
        | cons u L => exact ⟨_, List.getLast?_eq_getLast (List.cons_ne_nil _ _)⟩
      obtain ⟨last, hlast⟩ := hlast
      have lx := p4.len
      have gl : L[L.length - 1]? = some last := by
        rw [← List.getLast?_eq_getElem?]
        exact hlast
      obtain ⟨lv, glv, hlv⟩ := p4.get gl
      have ox := p6.ok.ver last (List.mem_of_getLast? hlast)
      have glx : atI xs (-1) = some (.ref lv) := by
        have ex : xs = xs.dropLast ++ [.ref lv] := by
          rw [← lx, ← List.getLast?_eq_getElem?] at glv
          obtain ⟨ys, rfl⟩ := List.getLast?_eq_some_iff.mp glv
          rw [List.dropLast_concat]
        rw [ex]
        exact atI_last _ _
      refine ⟨.ref vl, rfl, .inl ⟨rfl, _, SqL.of p3⟩, .ref a, rfl, .ref vl, rfl, 1, rfl, vl, _, -1, _, rfl, rfl, SqL.of p3, glx, .ref c, rfl, a, lv, c, n + 31 + 4 * i, last, fresh, rfl, p2, by omega, hlv, ca, p5, ox.len, p8, ox.row, fun z hz => p6.row z (p6.fin z hz), fun H9 p9 rows' fresh' sb9 hd9 n9 e9 ef9 ch9 => ?_⟩
      have evl9 := sb9 vl _ vla vlc p3
      have f8 : fresh'.length ≤ 30 := by
        rcases ch9.2 with ⟨x, e, _⟩ | ⟨e, _⟩
        · rw [e, List.length_cons] at p8
          omega
        · rw [e]
          exact p8
      refine ⟨vl, xs, _, rfl, rfl, evl9, ?_, ?_⟩
      · rw [lx]
        exact small1000 (by omega)
      · have cH' : ∀ b o, H b = some o → b ≠ a → H9 b = some o := fun b o e na => sb9 b o na (ne_of_none e cH) (p1 b o na e)
        refine ⟨_, xs ++ [.ref p9], L ++ [rows'], fresh', rfl, ?_, hd9.oth vla, upd_same, ?_, ?_, p6.step hlast ch9, ?_, f8⟩
        · intro b o na e
          rw [upd_ne (ne_of_none e vlH)]
          exact cH' b o e na
        · refine VsAt.snoc (upd_t evl9 (SqT.of e9)) ((p4.keep fun b ys => but2_t sb9 p2 p5).keep fun b ys => upd_t evl9)
        · rw [upd_ne vlc.symm]
          exact ef9
        · rw [List.length_append, List.length_singleton, p7]
    · obtain ⟨y, xs, L, fresh, rfl, p1, p2, p3, p4, p5, p6, p7, p8⟩ := hP
      refine ⟨.ref vl, rfl, vl, _, rfl, .inl ⟨SqL.of p3, fun t ht => ?_⟩⟩
      have k : ∀ b ys, SqT K H' b ys → SqT K (upd H' t (.tup xs)) b ys := fun b ys => same_t (same_new ht)
      exact q _ t L nl (p1.new ht) ((p2.new ht).up (by omega)) (fr p1 hh p2 ht) ⟨xs, SqT.of upd_same, p4.keep k⟩ p6.ok (by omega) nd1 (by omega) p6.inn
end
end M
namespace M
open PySem PySem.Spec PyProof.Rows L2 Gd
/-! ### values of any kind -/
inductive Kd (K : PySem.W.Frag) (H : Hp) : V → String → Prop
  | non : Kd K H .non "NoneType"
  | bl (b : Bool) : Kd K H (.bl b) "bool"
  | int (i : Int) : Kd K H (.int i) "int"
  | str (z : Str) : Kd K H (.str z) "str"
  | lst {a : Addr} {xs : List V} : SqL K H a xs → Kd K H (.ref a) "list"
  | tup {a : Addr} {xs : List V} : SqT K H a xs → Kd K H (.ref a) "tuple"
  | dct {a : Addr} {kvs : List (Key × V)} : H a = some (.dK kvs) → Kd K H (.ref a) "dict"
theorem Kd.ty {K : PySem.W.Frag} {H : Hp} {x : V} {T : String} (k : Kd K H x T) : TyX K H x (.type T) := by
  cases k with
  | non => exact .base .non
  | bl b => exact .base (.bl b)
  | int i => exact .base (.int i)
  | str z => exact .base (.str z)
  | lst h =>
    rcases h with (h | ⟨o, h⟩) | ⟨o, its, n, h, c, _⟩
    · exact .base (.lst h)
    · exact .base (.frz h)
    · exact .kList h c
  | tup h =>
    rcases h with (h | ⟨o, h⟩) | ⟨o, its, n, h, c, _⟩
    · exact .base (.tup h)
    · exact .fTuple h
    · exact .kTuple h c
  | dct h => exact .base (.dK h)
theorem Kd.kbool {K : PySem.W.Frag} {H : Hp} {x : V} {T : String} (k : Kd K H x T) : kitB T "bool" = some (T == "bool") := by
  cases k <;> decide +kernel
theorem Kd.kint {K : PySem.W.Frag} {H : Hp} {x : V} {T : String} (k : Kd K H x T) : kitB T "int" = some (T == "int" || T == "bool") := by
  cases k <;> decide +kernel
theorem Kd.kstr {K : PySem.W.Frag} {H : Hp} {x : V} {T : String} (k : Kd K H x T) : kitB T "str" = some (T == "str") := by
  cases k <;> decide +kernel
theorem Kd.ktup {K : PySem.W.Frag} {H : Hp} {x : V} {T : String} (k : Kd K H x T) : kitB T "tuple" = some (T == "tuple") := by
  cases k <;> decide +kernel
theorem Kd.same {K : PySem.W.Frag} {H H' : Hp} {x : V} {T : String} (s : Same H H') (k : Kd K H x T) : Kd K H' x T := by
  cases k with
  | non => exact .non
  | bl b => exact .bl b
  | int i => exact .int i
  | str z => exact .str z
  | lst h => exact .lst (s.seq h)
  | tup h => exact .tup (same_t s h)
  | dct h => exact .dct (s _ _ h)
end M
namespace M
open PySem PySem.Spec PyProof.Rows L2 Gd
/-! ### is_row -/
def rowB (x : V) : Bool := match x with
  | .str z => decide (1 ≤ z.length) && decide (z.length ≤ 8) && z.cps.toList.all fun c => decide (97 ≤ c) && decide (c ≤ 122)
  | _ => false
theorem rowB_iff (z : Str) : rowB (.str z) = true ↔ RowS z := by
  unfold rowB RowS
  simp only [Bool.and_eq_true, decide_eq_true_eq, List.all_eq_true]
  exact and_assoc
/-- a walk over a text, whatever a turn asks -/
theorem walk_str {z : Str} {Qd : Hp → Prop} {Step : V → Hp → (Hp → Prop) → Prop} {H0 : Hp} (Pv : Nat → Hp → Prop) (h0 : Pv 0 H0) (hs : ∀ i c H, z.cps.toList[i]? = some c → Pv i H → Step (.str ⟨#[c]⟩) H (Pv (i + 1))) (hd : ∀ H, Pv z.length H → Qd H) :
    ∃ W : Nat → Nat → Hp → Prop, (∃ m, W 0 m H0) ∧ ∀ i m H, W i m H → ((Its z).stop i H ∧ Qd H) ∨ ((Its z).go i H ∧ ∃ Nx : Hp → Prop, (∀ H', Nx H' → ∃ m', m' < m ∧ W (i + 1) m' H') ∧ ∀ x H', (Its z).yld i H x H' → Step x H' Nx) := by
  refine ⟨fun i m H => (m + i = z.length) ∧ Pv i H, ⟨z.length, rfl, h0⟩, fun i m H h => ?_⟩
  obtain ⟨em, p⟩ := h
  rcases Nat.lt_or_ge i z.length with lt | ge
  · refine Or.inr ⟨lt, Pv (i + 1), fun H' p' => ⟨m - 1, by omega, by omega, p'⟩, ?_⟩
    rintro x H' ⟨rfl, c, hc, rfl⟩
    exact hs i c H' (by rw [Array.getElem?_toList]; exact hc) p
  · have ei : i = z.length := by omega
    rw [ei] at p
    exact Or.inl ⟨by show z.length ≤ i; omega, hd H p⟩
abbrev sIsRow : Stmt := topS 4
abbrev nIsRow : List Str := ["value", "letter"]
theorem scIsRow : FnScope nIsRow ["value"] (defScope sIsRow) := ⟨rfl, rfl, rfl, by decide +kernel, rfl, by decide +kernel, by decide +kernel⟩
def spIsRow (K : PySem.W.Frag) : Sp := fun vs H Q _ => ∃ (x : V) (T : String), vs = [x] ∧ Kd K H x T ∧ (∀ z, x = .str z → z.length ≤ 10000000) ∧ ∀ H', Same H H' → Q (.bl (rowB x)) H'
theorem one_lt (c d : Nat) : decide ([c] < [d]) = decide (c < d) := by
  rw [← ltCps_eq]
  show (decide (c < d) || (c == d && false)) = decide (c < d)
  rw [Bool.and_false, Bool.or_false]
theorem lt_a (c : Nat) : (!decide ((⟨#[c]⟩ : Str).cps.toList < ("a" : Str).cps.toList)) = decide (97 ≤ c) := by
  show (!decide ([c] < [97])) = decide (97 ≤ c)
  rw [one_lt]
  by_cases h : 97 ≤ c
  · rw [decide_eq_true h, decide_eq_false (by omega)]
    rfl
  · rw [decide_eq_false h, decide_eq_true (by omega)]
    rfl
theorem gt_z (c : Nat) : (!decide (("z" : Str).cps.toList < (⟨#[c]⟩ : Str).cps.toList)) = decide (c ≤ 122) := by
  show (!decide ([122] < [c])) = decide (c ≤ 122)
  rw [one_lt]
  by_cases h : c ≤ 122
  · rw [decide_eq_true h, decide_eq_false (by omega)]
    rfl
  · rw [decide_eq_false h, decide_eq_true (by omega)]
    rfl
theorem rowB_str (z : Str) : rowB (.str z) = (decide (1 ≤ z.length) && decide (z.length ≤ 8) && z.cps.toList.all fun c => decide (97 ≤ c) && decide (c ≤ 122)) := rfl
section
variable {P : Program} {w : World} {K : PySem.W.Frag} {mg : Str → Option Value} {base : Heap}
theorem ok_isrow {f : Addr} {fd : FuncData} {k : Nat} {tk : Tok} (F : Fun K "is_row" "is_row" sIsRow f fd) (mi : mg "isinstance" = none) (ms : mg "str" = none) (ml : mg "len" = none) (ma : mg "all" = none) (mL : mg "MOST_LETTERS" = some (.int 8 tk)) : FnOk P w K mg base CX0 (k + 1) f fd ["value"] (spIsRow K) := by
  refine F.ok scIsRow (fun vs H Q E h => ?_) (fun cdv A outer s H vs Q E hr h => ?_)
  · obtain ⟨x, T, rfl, _⟩ := h
    rfl
  · obtain ⟨x, T, rfl, kd, hz, q⟩ := h
    refine ⟨_, pss_cons (ps_if (PW.pt (pw_or (pt_not (pt_val (pe_callB call_isi (by rfl) mi (by decide +kernel) (pa_cons (pv 0) (pa_cons (pe_bltn (v := .ty "str") (by rfl) ms (by decide +kernel) rfl) pa_nil)))))
        (pw_or1 (pt_not (pt_chain op_le op_le pe_int (pe_callB call_len (by rfl) ml PySem.boot_len (pa_cons (pv 0) pa_nil)) (pe_glob (v := .int 8) (by rfl) mL ⟨_, rfl⟩))))))
        (pss_one (ps_ret pe_bl)) pss_nil)
      (pss_one (ps_ret (pe_callB (cr_all rfl) (by rfl) ma (by decide +kernel) (pa_cons (pe_lc (own := [("letter", 1)]) (g := gName 1) (tt := tYes) (te := tChain (fun x y H Q => ∃ i j, x = .str i ∧ y = .str j ∧ Q (.bl (!decide (j.cps.toList < i.cps.toList))) H) (fun x y H Q => ∃ i j, x = .str i ∧ y = .str j ∧ Q (.bl (!decide (j.cps.toList < i.cps.toList))) H) (tC (.str "a")) (tVar 1) (tC (.str "z"))) rfl scIsRow.nd (pi_str (pv 0))
        (blkOk_by (own := [("letter", 1)]) (N := nIsRow) (sc := defScope sIsRow) (by decide +kernel)) (fun _ _ _ _ _ => pg_name (i := 1) scIsRow.nd rfl (.inl rfl)) (fun _ _ _ _ _ => pts_nil) (fun _ _ _ _ _ => pe_chain op_le_str op_le_str pe_str (pv 1) pe_str)) pa_nil)))), ?_⟩
    have qH := q H (Same.refl H)
    refine ⟨_, rfl, x, _, _, _, _, rfl, .ty "str", kd.ty, kit_ty kd.kstr, _, rfl, ?_⟩
    cases kd with
    | bl b => exact iteT (iteT qH)
    | int i => exact iteT (iteT qH)
    | non => exact iteT (iteT qH)
    | lst h => exact iteT (iteT qH)
    | tup h => exact iteT (iteT qH)
    | dct h => exact iteT (iteT qH)
    | str z =>
      have lz := hz z rfl
      refine iteF ?_
      refine ⟨_, rfl, _, z.length, rfl, ⟨Nat.le_trans lz (by decide), rfl⟩, _, _, rfl, rfl, _, rfl, ite2 (fun h1 => ?_) (fun h1 => ?_)⟩
      · refine ⟨_, _, rfl, rfl, _, rfl, ?_⟩
        by_cases h2 : (z.length : Int) ≤ 8
        · have h1 : (1 : Int) ≤ z.length := of_decide_eq_true h1
          rw [decide_eq_true h2]
          refine iteF ?_
          refine ⟨_, rfl, z, rfl, fun D hD => walk_str (z := z) (fun i H' => Same H H' ∧ H' D = some (.lst (((z.cps.toList.take i).map fun c => decide (97 ≤ c) && decide (c ≤ 122)).map V.bl))) ⟨same_new hD, upd_same⟩ (fun i c H' hc hP => ?_) (fun H' hP => ?_)⟩
          · obtain ⟨p1, p2⟩ := hP
            have hi : i < z.length := by
              have := (List.getElem?_eq_some_iff.mp hc).1
              rw [len_cps] at this
              exact this
            refine ⟨rfl, lc_yes ?_⟩
            have fin : ∀ b : Bool, b = (decide (97 ≤ c) && decide (c ≤ 122)) → ∃ acc, H' D = some (.lst acc) ∧ acc.length < sizeLine ∧ Same H (upd H' D (.lst (acc ++ [V.bl b]))) ∧ (upd H' D (.lst (acc ++ [V.bl b]))) D = some (.lst (((z.cps.toList.take (i + 1)).map fun c => decide (97 ≤ c) && decide (c ≤ 122)).map V.bl)) := by
              intro b hb
              refine ⟨_, p2, ?_, same_own p1 hD, ?_⟩
              · rw [List.length_map, List.length_map, List.length_take]
                exact Nat.lt_of_le_of_lt (show min i z.cps.toList.length ≤ 8 by omega) (by decide)
              · rw [upd_same, List.take_add_one, hc, hb, List.map_append, List.map_append]
                rfl
            refine ⟨_, rfl, _, _, rfl, rfl, _, rfl, ?_⟩
            rw [lt_a]
            refine ite2 (fun h3 => ?_) (fun h3 => ?_)
            · refine ⟨_, _, rfl, rfl, ?_⟩
              rw [gt_z]
              exact fin _ (by rw [h3, Bool.true_and])
            · exact fin _ (by rw [Bool.eq_false_iff.mpr h3, Bool.false_and])
          · obtain ⟨p1, p2⟩ := hP
            rw [List.take_of_length_le (by rw [len_cps]; exact Nat.le_refl _)] at p2
            refine ⟨D, _, rfl, SqL.of p2, ?_⟩
            have e : rowB (.str z) = (z.cps.toList.map fun c => decide (97 ≤ c) && decide (c ≤ 122)).all id := by
              rw [rowB_str, decide_eq_true (show 1 ≤ z.length by omega), decide_eq_true (show z.length ≤ 8 by omega), List.all_map]
              rfl
            have z1 := q H' p1
            rw [e] at z1
            exact z1
        · rw [decide_eq_false h2]
          refine iteT ?_
          have e : rowB (.str z) = false := by
            rw [rowB_str, decide_eq_false (show ¬ z.length ≤ 8 by omega), Bool.and_false, Bool.false_and]
          rw [e] at qH
          exact qH
      · have h1 : ¬ (1 : Int) ≤ z.length := fun y => h1 (decide_eq_true y)
        refine ⟨_, rfl, iteT ?_⟩
        have e : rowB (.str z) = false := by
          rw [rowB_str, decide_eq_false (show ¬ 1 ≤ z.length by omega), Bool.false_and, Bool.false_and]
        rw [e] at qH
        exact qH
end
end M
namespace M
open PySem PySem.Spec PyProof.Rows L2 Gd
/-! ### what strip leaves of letters -/
theorem tw_all {g : Nat → Bool} : ∀ {l : List Nat}, (∀ c ∈ l, g c = true) → l.takeWhile g = l
  | [], _ => rfl
  | c :: l, h => by
    rw [List.takeWhile_cons, if_pos (h c List.mem_cons_self), tw_all fun d hd => h d (List.mem_cons_of_mem _ hd)]
theorem tw_lt {g : Nat → Bool} : ∀ {l : List Nat}, (∃ c ∈ l, g c = false) → (l.takeWhile g).length < l.length
  | [], h => by
    obtain ⟨c, hc, _⟩ := h
    exact (nomatch hc)
  | c :: l, h => by
    rw [List.takeWhile_cons]
    split
    · rename_i gc
      have : ∃ d ∈ l, g d = false := by
        obtain ⟨d, hd, e⟩ := h
        rcases List.mem_cons.mp hd with z | z
        · rw [z, gc] at e
          cases e
        · exact ⟨d, z, e⟩
      have := tw_lt this
      rw [List.length_cons, List.length_cons]
      omega
    · rw [List.length_nil, List.length_cons]
      omega
theorem tw_drop {g : Nat → Bool} : ∀ {l : List Nat}, (∃ c ∈ l, g c = false) → ∃ c ∈ l.drop (l.takeWhile g).length, g c = false
  | [], h => by
    obtain ⟨c, hc, _⟩ := h
    exact (nomatch hc)
  | c :: l, h => by
    rw [List.takeWhile_cons]
    split
    · rename_i gc
      have : ∃ d ∈ l, g d = false := by
        obtain ⟨d, hd, e⟩ := h
        rcases List.mem_cons.mp hd with z | z
        · rw [z, gc] at e
          cases e
        · exact ⟨d, z, e⟩
      exact tw_drop this
    · exact h
theorem str_empty (z : Str) : (z = ("" : Str)) ↔ z.length = 0 := by
  constructor
  · intro h
    rw [h]
    rfl
  · intro h
    obtain ⟨c⟩ := z
    have : c = #[] := Array.eq_empty_of_size_eq_zero h
    rw [this]
    rfl
theorem strip_empty (x y : Str) : Txt.stripChars x y = ("" : Str) ↔ ∀ c ∈ x.cps.toList, y.cps.contains c = true := by
  rw [str_empty]
  have lx := len_cps x
  unfold Txt.stripChars Txt.stripBy
  constructor
  · intro h
    by_cases hall : ∀ c ∈ x.cps.toList, y.cps.contains c = true
    · exact hall
    · exfalso
      have hex : ∃ c ∈ x.cps.toList, y.cps.contains c = false := by
        apply Classical.byContradiction
        intro hn
        refine hall fun c hc => ?_
        cases e : y.cps.contains c with
        | true => rfl
        | false => exact absurd ⟨c, hc, e⟩ hn
      have h1 := tw_lt hex
      obtain ⟨d, hd, ed⟩ := tw_drop hex
      have h2 := tw_lt (g := y.cps.contains) (l := (x.cps.toList.drop (x.cps.toList.takeWhile y.cps.contains).length).reverse) ⟨d, List.mem_reverse.mpr hd, ed⟩
      rw [List.length_reverse, List.length_drop] at h2
      split at h
      · omega
      · have h : (x.cps.extract (stripLo y.cps.contains true x) (stripHi y.cps.contains true x (stripLo y.cps.contains true x))).size = 0 := h
        have e1 : stripLo y.cps.contains true x = (x.cps.toList.takeWhile y.cps.contains).length := rfl
        have e2 : stripHi y.cps.contains true x (stripLo y.cps.contains true x) = x.length - ((x.cps.toList.drop (x.cps.toList.takeWhile y.cps.contains).length).reverse.takeWhile y.cps.contains).length := rfl
        rw [Array.size_extract, e2, e1] at h
        have e3 : x.cps.size = x.length := rfl
        omega
  · intro h
    have e0 := tw_all h
    have e1 : stripLo y.cps.contains true x = x.length := by
      show (x.cps.toList.takeWhile y.cps.contains).length = _
      rw [e0, lx]
    have e2 : stripHi y.cps.contains true x (stripLo y.cps.contains true x) = x.length := by
      rw [e1]
      show x.length - ((x.cps.toList.drop x.length).reverse.takeWhile y.cps.contains).length = _
      rw [List.drop_of_length_le (by omega)]
      rfl
    split
    · rename_i hs
      have hs : (stripLo y.cps.contains true x == 0 && stripHi y.cps.contains true x (stripLo y.cps.contains true x) == x.length) = true := hs
      rw [Bool.and_eq_true, beq_iff_eq] at hs
      omega
    · show (x.cps.extract (stripLo y.cps.contains true x) (stripHi y.cps.contains true x (stripLo y.cps.contains true x))).size = 0
      rw [Array.size_extract, e2, e1]
      omega
theorem abc_list : ("abcdefghijklmnopqrstuvwxyz" : Str).cps.toList = List.range' 97 26 := by decide +kernel
theorem abc_has (c : Nat) : ("abcdefghijklmnopqrstuvwxyz" : Str).cps.contains c = (decide (97 ≤ c) && decide (c ≤ 122)) := by
  rw [Bool.eq_iff_iff, Array.contains_iff_mem, ← Array.mem_toList_iff, abc_list, List.mem_range', Bool.and_eq_true, decide_eq_true_eq, decide_eq_true_eq]
  constructor
  · rintro ⟨i, h, rfl⟩
    omega
  · intro h
    exact ⟨c - 97, by omega, by omega⟩
theorem cut8_iff (z : Str) : cutS z none (some 8) = z ↔ z.length ≤ 8 := by
  have lz := len_cps z
  have e : (cutS z none (some 8)).cps.toList = z.cps.toList.take 8 := by
    unfold cutS
    rw [HT.sIx_none, show (8 : Int) = ((8 : Nat) : Int) from rfl, HT.sIx_nat, List.drop_zero, Nat.sub_zero]
    show z.cps.toList.take (min 8 z.length) = _
    by_cases h : 8 ≤ z.length
    · rw [Nat.min_eq_left h]
    · rw [Nat.min_eq_right (by omega), List.take_of_length_le (by omega), List.take_of_length_le (by omega)]
  constructor
  · intro h
    have := congrArg (fun s : Str => s.cps.toList.length) h
    have this : (cutS z none (some 8)).cps.toList.length = z.cps.toList.length := this
    rw [e, List.length_take] at this
    omega
  · intro h
    rw [List.take_of_length_le (by omega)] at e
    obtain ⟨c⟩ := z
    have e2 := congrArg List.toArray e
    have e2 : (cutS ⟨c⟩ none (some 8)).cps = c := by simpa using e2
    cases hz : cutS ⟨c⟩ none (some 8) with
    | mk d =>
      rw [hz] at e2
      rw [show d = c from e2]
/-! ### is_row of a law -/
abbrev sLRow : Stmt := topS 21
theorem scLRow : FnScope ["_law_item"] ["_law_item"] (defScope sLRow) := ⟨rfl, rfl, rfl, by decide +kernel, rfl, by decide +kernel, by decide +kernel⟩
def spLRow (K : PySem.W.Frag) : Sp := fun vs H Q _ => ∃ (x : V) (T : String), vs = [x] ∧ Kd K H x T ∧ (∀ z, x = .str z → z.length ≤ 10000000) ∧ Q (.bl (rowB x)) H
theorem rowB_law (z : Str) : rowB (.str z) = (decide ¬ (z = ("" : Str)) && (decide (cutS z none (some 8) = z) && decide (Txt.stripChars z "abcdefghijklmnopqrstuvwxyz" = ("" : Str)))) := by
  rw [rowB_str, Bool.eq_iff_iff]
  simp only [Bool.and_eq_true, decide_eq_true_eq, List.all_eq_true, strip_empty, cut8_iff, abc_has]
  have e := str_empty z
  exact ⟨fun h => ⟨fun y => by have := e.mp y; omega, h.1.2, h.2⟩, fun h => ⟨⟨Nat.pos_of_ne_zero fun y => h.1 (e.mpr y), h.2.1⟩, h.2.2⟩⟩
section
variable {P : Program} {w : World} {K : PySem.W.Frag} {mg : Str → Option Value} {base : Heap}
theorem ok_lrow {f : Addr} {fd : FuncData} {k : Nat} (F : Fun K "_law_is_row" "_law_is_row" sLRow f fd) (mi : mg "isinstance" = none) (ms : mg "str" = none) : FnOk P w K mg base CX0 (k + 1) f fd ["_law_item"] (spLRow K) := by
  refine F.ok scLRow (fun vs H Q E h => ?_) (fun cdv A outer s H vs Q E hr h => ?_)
  · obtain ⟨x, T, rfl, _⟩ := h
    rfl
  · obtain ⟨x, T, rfl, kd, hz, q⟩ := h
    refine ⟨_, pss_cons (ps_if (pt_not (pt_val (pe_callB call_isi (by rfl) mi (by decide +kernel) (pa_cons (pv 0) (pa_cons (pe_bltn (v := .ty "str") (by rfl) ms (by decide +kernel) rfl) pa_nil)))))
        (pss_one (ps_ret pe_bl)) pss_nil)
      (pss_one (ps_ret (pe_and (pe_cmpR op_ne (pv 0) pe_str (nomark _)) (pe_and (pe_cmpR op_eq (pe_slice sl_str (pv 0) po_none (po_some pe_int)) (pv 0) (nomark _)) (pe_one (pe_cmpR op_eq (pe_m1 PySem.F.slot_str_strip PySem.F.type_str_strip mt_stripChars (pv 0) pe_str) pe_str (nomark _))))))), ?_⟩
    refine ⟨_, rfl, x, _, _, _, _, rfl, .ty "str", kd.ty, kit_ty kd.kstr, _, rfl, ?_⟩
    cases kd with
    | bl b => exact iteT q
    | int i => exact iteT q
    | non => exact iteT q
    | lst h => exact iteT q
    | tup h => exact iteT q
    | dct h => exact iteT q
    | str z =>
      have lz : z.length ≤ sizeLine := Nat.le_trans (hz z rfl) (by decide)
      refine iteF ?_
      rw [rowB_law] at q
      refine ⟨_, rfl, rfl, _, rfl, ?_⟩
      by_cases h1 : z = ("" : Str)
      · have e1 : (!decide (V.str z = V.str "")) = false := by rw [h1]; rfl
        rw [e1]
        rw [decide_eq_false (show ¬ ¬ (z = ("" : Str)) from fun n => n h1), Bool.false_and] at q
        exact iteF q
      · have e1 : (!decide (V.str z = V.str "")) = true := by
          rw [decide_eq_false (fun y => h1 (V.str.inj y))]
          rfl
        rw [e1]
        rw [decide_eq_true (show ¬ (z = ("" : Str)) from h1), Bool.true_and] at q
        refine iteT ?_
        refine ⟨_, rfl, 8, rfl, z, rfl, lz, _, rfl, rfl, _, rfl, ?_⟩
        have e2 : decide (V.str (cutS z none (some 8)) = V.str z) = decide (cutS z none (some 8) = z) := by
          rw [decide_eq_decide]
          exact ⟨fun y => V.str.inj y, fun y => by rw [y]⟩
        rw [e2]
        refine ite2 (fun h2 => ?_) (fun h2 => ?_)
        · rw [h2, Bool.true_and] at q
          refine ⟨_, rfl, ⟨_, rfl⟩, z, _, rfl, rfl, lz, rfl, ?_⟩
          have e3 : decide (V.str (Txt.stripChars z "abcdefghijklmnopqrstuvwxyz") = V.str "") = decide (Txt.stripChars z "abcdefghijklmnopqrstuvwxyz" = ("" : Str)) := by
            rw [decide_eq_decide]
            exact ⟨fun y => V.str.inj y, fun y => by rw [y]⟩
          rw [e3]
          exact q
        · rw [Bool.eq_false_iff.mpr h2, Bool.false_and] at q
          exact q
end
end M
namespace M
open PySem PySem.Spec PyProof.Rows L2 Gd
/-! ### ints and bools as numbers -/
def numV : V → Option Int
  | .int i => some i
  | .bl b => some (if b = true then 1 else 0)
  | _ => none
section
variable {X : Cx}
theorem op_addB : OpR X (binaryOp .Add) (fun x y H Q => ∃ i j, numV x = some i ∧ y = .int j ∧ Q (.int (i + j)) H) := by
  rintro pins s σ H x y v u Q I rx ry ⟨i, j, ex, rfl, q⟩
  obtain ⟨t, rfl⟩ := ry
  cases x with
  | int k =>
    obtain ⟨t2, rfl⟩ := rx
    cases ex
    exact add_int ⟨.int _, H, I.tok _, ⟨_, rfl⟩, q⟩
  | bl b =>
    cases (show v = Value.bool b from rx)
    cases ex
    exact PySem.IntBool.add_bool_int ⟨.int _, H, I.tok _, ⟨_, rfl⟩, q⟩
  | _ => cases ex
theorem op_subB : OpR X (binaryOp .Sub) (fun x y H Q => ∃ i j, numV x = some i ∧ y = .int j ∧ Q (.int (i - j)) H) := by
  rintro pins s σ H x y v u Q I rx ry ⟨i, j, ex, rfl, q⟩
  obtain ⟨t, rfl⟩ := ry
  cases x with
  | int k =>
    obtain ⟨t2, rfl⟩ := rx
    cases ex
    exact sub_int ⟨.int _, H, I.tok _, ⟨_, rfl⟩, q⟩
  | bl b =>
    cases (show v = Value.bool b from rx)
    cases ex
    exact PySem.IntBool.sub_bool_int ⟨.int _, H, I.tok _, ⟨_, rfl⟩, q⟩
  | _ => cases ex
/-- what str(x) is of an int or a bool -/
def numS : V → Option Str
  | .int i => some (toString i : String)
  | .bl b => some (if b then "True" else "False" : String)
  | _ => none
theorem call_strB : CallR X (.type "str") (fun xs H Q => ∃ x z, xs = [x] ∧ numS x = some z ∧ (∀ i, x = .int i → i.natAbs.log2 < 1920) ∧ Q (.str z) H) := by
  rintro pins s σ H xs us Q I r ⟨x, z, rfl, ez, hz, q⟩
  obtain ⟨u, rfl, rx⟩ := vals1 r
  cases x with
  | int k =>
    obtain ⟨t2, rfl⟩ := rx
    cases ez
    exact PySem.P.str_of_int (hz k rfl) ⟨.str _, H, I.tok _, ⟨_, rfl⟩, q⟩
  | bl b =>
    cases (show u = Value.bool b from rx)
    cases ez
    refine PySem.P.str_of_bool ⟨.str _, H, I.tok _, ⟨_, rfl⟩, ?_⟩
    cases b <;> exact q
  | _ => cases ez
/-- t != () -/
theorem op_ne_nil (hu : X.A.units < cLine) : OpR X (compareOp .NotEq) (fun x y H Q => ∃ a b xs, x = .ref a ∧ y = .ref b ∧ SqT X.K H a xs ∧ SqT X.K H b [] ∧ Q (.bl (!xs.isEmpty)) H) := by
  rintro pins s σ H x y v u Q I rx ry ⟨a, b, xs, rfl, rfl, ha, hb, q⟩
  cases rx
  cases ry
  obtain ⟨its, r1, p1, _⟩ := I.tuple ha
  obtain ⟨its2, r2, p2, _⟩ := I.tuple hb
  cases r2
  refine SeqAt.RcNeAt.tuples (e := fun _ => true) p1 p2 hu (fun j h1 h2 => absurd h2 (Nat.not_lt_zero _)) _ _ _ _ ⟨.bl (!xs.isEmpty), H, I, ?_, q⟩
  cases r1 with
  | nil => rfl
  | cons z zs => rfl
end
/-! ### t[::-1] -/
section
variable {prog : Program} {w : World} {A : Around} {E : Value → Shared → Prop} {s : Shared}
theorem rev_pick (xs : Array Value) : ((List.range xs.size).filterMap fun (m : Nat) => xs[(((xs.size : Int) - 1) + (m : Int) * (-1)).toNat]?).toArray = xs.toList.reverse.toArray := by
  congr 1
  apply List.ext_getElem?
  intro i
  have h : (List.range xs.size).filterMap (fun (m : Nat) => xs[(((xs.size : Int) - 1) + (m : Int) * (-1)).toNat]?) = (List.range xs.size).map fun (m : Nat) => (xs[(xs.size - 1 - m)]?).getD default := by
    have go : ∀ l : List Nat, (∀ m ∈ l, m < xs.size) → l.filterMap (fun (m : Nat) => xs[(((xs.size : Int) - 1) + (m : Int) * (-1)).toNat]?) = l.map fun (m : Nat) => (xs[(xs.size - 1 - m)]?).getD default := by
      intro l
      induction l with
      | nil => intro _; rfl
      | cons m l ih =>
        intro hl
        have hm := hl m List.mem_cons_self
        have e : (((xs.size : Int) - 1) + (m : Int) * (-1)).toNat = xs.size - 1 - m := by omega
        have e2 : xs[xs.size - 1 - m]? = some xs[xs.size - 1 - m] := Array.getElem?_eq_getElem (by omega)
        rw [List.filterMap_cons, e, e2, List.map_cons, ih fun x hx => hl x (List.mem_cons_of_mem _ hx), e2]
        rfl
    exact go _ fun m hm => List.mem_range.mp hm
  rw [h, List.getElem?_map]
  by_cases hi : i < xs.size
  · rw [List.getElem?_range hi, List.getElem?_reverse (by rw [Array.length_toList]; exact hi), Array.length_toList, Array.getElem?_toList, Array.getElem?_eq_getElem (show xs.size - 1 - i < xs.size by omega)]
    show some ((xs[xs.size - 1 - i]?).getD default) = _
    rw [Array.getElem?_eq_getElem (show xs.size - 1 - i < xs.size by omega)]
    rfl
  · rw [List.getElem?_eq_none (by rw [List.length_range]; omega), List.getElem?_eq_none (by rw [List.length_reverse, Array.length_toList]; omega)]
    rfl
theorem rev_places (n : Nat) : Builtin.Slice.slicePlaces ((n : Int) - 1) (-1) (-1) = n := by
  unfold Builtin.Slice.slicePlaces
  rw [if_neg (by decide)]
  simp only [Int.neg_neg, Int.ediv_one]
  split <;> omega
theorem getItem_tup_rev {t sl : Addr} {items : Array Value} {vl vu vs : Value} {Q : Value → Shared → Prop} (ht : IsTup s.heap t items) (hs : s.heap.IsSliceOf sl vl vu vs) (pl : IsPart vl none) (pu : IsPart vu none) (ps : IsPart vs (some (-1))) (hsz : items.size ≤ sizeLine)
    (h : Q (.ref s.heap.objs.size) { s with heap := s.heap.push { cls := .type "tuple", data := .seq items.toList.reverse.toArray } }) : wpAny (model prog w) A (getItem (.ref t) (.ref sl)) Q E s := by
  have fits : sizeOk (.seq items.toList.reverse.toArray) := by
    show items.toList.reverse.toArray.size ≤ sizeLine
    rw [List.size_toArray, List.length_reverse, Array.length_toList]
    exact hsz
  obtain ⟨os, hos, hcs, hds⟩ := id hs
  have hTs : s.TypeIs (.ref sl) "slice" := ⟨os, hos, hcs⟩
  unfold getItem
  try with_reducible refine wpAny_holding ?_
  first | refine wpAny_bind (wpAny_pure ?_) | skip
  refine wpAny_bind (wpAny_sequenceKey ht.typeIs (by decide) ?_)
  refine wpAny_bind (wpAny_callSpecial?_slot (name := Str.ofString "__getitem__") ht.typeIs slot_tuple_getitem (wpAny_call_entry slot_tuple_getitem ht.typeIs entry_tuple_getitem ?_ (args_tuple_getitem _ _)))
  show wpAny _ _ (Builtin.Tuple.tupleItemsOf (.ref t) >>= _) _ _ s
  refine wpAny_bind (tupleItemsOf_ ht ?_)
  refine wpAny_bind (wpAny_typeOf hTs ?_)
  rw [if_pos (by decide)]
  have ap : wpAny (model prog w) A.in1 (Builtin.Slice.sliceApplied (.ref sl) (pure (items.size : Int))) (fun r s' => r = ((items.size : Int) - 1, -1, items.size) ∧ s' = s) E s := by
    unfold Builtin.Slice.sliceApplied Builtin.Slice.sliceFields
    refine wpAny_bind (wpAny_bind (wpAny_field hos hds (x := vl) rfl (wpAny_bind (wpAny_field hos hds (x := vu) rfl (wpAny_bind (wpAny_field hos hds (x := vs) rfl (wpAny_pure ?_)))))))
    refine wpAny_bind (HT.slicePart_ ps ?_)
    show wpAny _ _ (if ((-1 : Int) == 0) = true then _ else _) _ _ s
    rw [if_neg (by decide)]
    refine wpAny_bind (HT.slicePart_ pl (wpAny_bind (HT.slicePart_ pu (wpAny_bind (wpAny_pure ?_)))))
    show wpAny _ _ (pure (((items.size : Int) - 1), (-1 : Int), Builtin.Slice.slicePlaces ((items.size : Int) - 1) (-1) (-1))) _ _ s
    rw [rev_places]
    exact wpAny_pure ⟨rfl, rfl⟩
  refine wpAny_bind (wpAny_mono ap ?_ fun _ _ z => z)
  rintro _ _ ⟨rfl, rfl⟩
  have no : ¬ ((((items.size : Int) - 1) == 0 && (-1 : Int) == 1 && items.size == items.size) = true) := by
    rw [show ((-1 : Int) == 1) = false from rfl, Bool.and_false, Bool.false_and]
    exact Bool.false_ne_true
  show wpAny _ _ (if (((items.size : Int) - 1) == 0 && (-1 : Int) == 1 && items.size == items.size) = true then _ else _) _ _ _
  rw [if_neg no, rev_pick]
  first
    | exact wpAny_bind (m := Builtin.Tuple.tupleExact _) (wpAny_newObj_type (wpAny_pure ⟨_, rfl, wpAny_pure h⟩) fits)
    | exact wpAny_bind (m := Builtin.Tuple.tupleExact _) (wpAny_newObj_type (wpAny_bind (wpAny_pure (wpAny_pure ⟨_, rfl, wpAny_pure h⟩))) fits)
    | exact wpAny_bind (wpAny_bind (m := Builtin.Tuple.tupleExact _) (wpAny_newObj_type (wpAny_pure (wpAny_pure ⟨_, rfl, wpAny_pure h⟩)) fits))
    | exact wpAny_bind (wpAny_bind (m := Builtin.Tuple.tupleExact _) (wpAny_newObj_type (wpAny_pure ⟨_, rfl, wpAny_pure h⟩) fits))
end
section
variable {X : Cx}
def tRevT (K : PySem.W.Frag) (te : TE) : TE := fun σ H Q => te σ H fun x H1 => ∃ a xs, x = .ref a ∧ SqT K H1 a xs ∧ ∀ p, H1 p = none → Q (.ref p) (upd H1 p (.tup xs.reverse))
theorem pe_revT {e : Expr} {te : TE} {k : Nat} {p1 p2 p3 pos : Pos} (he : PE X e te) : PE X (.Subscript e (.Slice none none (some (.UnaryOp .USub (.Constant (.int 1) k p1) p2)) p3) pos) (tRevT X.K te) := by
  refine ⟨fun pins s σ H Q I h => ?_⟩
  refine Subscript_ (thn (he.run pins s σ H _ I h) ?_)
  rintro v s1 ⟨x, H1, I1, r1, a, xs, rfl, hx, q⟩
  cases r1
  have step : PO X (some (.UnaryOp .USub (.Constant (.int 1) k p1) p2)) (tPart (tUn (rU fun i => .int (-i)) (tC (.int 1)))) := po_some (pe_un un_neg pe_int)
  refine wpAny_Slice (thn (po_none.run pins s1 σ H1 (fun o H2 => o = none ∧ H2 = H1) I1 ⟨rfl, rfl⟩) ?_)
  rintro vl s2 ⟨l, _, I2, pl, rfl, rfl⟩
  refine thn (po_none.run pins s2 σ _ (fun o H3 => o = none ∧ H3 = _) I2 ⟨rfl, rfl⟩) ?_
  rintro vu s3 ⟨u, _, I3, pu, rfl, rfl⟩
  refine thn (step.run pins s3 σ _ (fun o H4 => o = some (-1) ∧ H4 = _) I3 ⟨1, rfl, -1, rfl, rfl, rfl⟩) ?_
  rintro vs s4 ⟨o, H4, I4, ps, rfl, e4⟩
  subst e4
  have J : Inv X pins σ H4 { s4 with heap := s4.heap.push { cls := .type "slice", data := .fields #[vl, vu, vs] } } := I4.kept (t' := s4.toks) fun b ob q => Heap.get?_push_of_some _ q
  obtain ⟨its, r, tp, hz⟩ := J.tuple hx
  have len := r.length
  show wpAny (model X.prog X.w) X.A (subscriptTail e (.Slice none none (some (.UnaryOp .USub (.Constant (.int 1) k p1) p2)) p3) (.ref a) (.ref s4.heap.objs.size)) (EP X pins σ Q) X.xe _
  refine tail_any (ops := [.ref a, .ref s4.heap.objs.size]) tp.typeIs (slot_tuple_getitem.lookup) ?_ (by with_unfolding_all rfl)
  refine getItem_tup_rev tp (Heap.IsSliceOf.new _ vl vu vs) pl pu ps (by rw [List.size_toArray]; omega) ?_
  refine ⟨.ref _, _, J.laid (t' := s4.toks) (o := .tup xs.reverse) (fun b ob z => Heap.get?_push_of_some _ z) (Nat.le_refl _) ?_, rfl, q _ (J.hok.fresh (Nat.le_refl _))⟩
  exact ⟨by rw [List.length_reverse]; exact hz, its.reverse, r.reverse, ⟨_, Heap.get?_push_size _ rfl, rfl, _, rfl⟩⟩
end
end M
namespace M
open PySem PySem.Spec PyProof.Rows L2 Gd
/-! ### values of any kind, as trees: what lists and dicts hold is left open -/
inductive AD
  | non
  | bl (b : Bool)
  | int (i : Int)
  | str (z : Str)
  | lst
  | dct
  | tup (ds : List AD)
mutual
def AD.deep : AD → Nat
  | .tup ds => AD.deepAll ds + 1
  | .non | .bl _ | .int _ | .str _ | .lst | .dct => 0
def AD.deepAll : List AD → Nat
  | [] => 0
  | d :: ds => max (AD.deep d) (AD.deepAll ds)
end
mutual
def AD.ok (w : Nat) : AD → Prop
  | .int i => i.natAbs ≤ w
  | .str z => z.length ≤ w
  | .tup ds => ds.length ≤ w ∧ AD.okAll w ds
  | .non | .bl _ | .lst | .dct => True
def AD.okAll (w : Nat) : List AD → Prop
  | [] => True
  | d :: ds => AD.ok w d ∧ AD.okAll w ds
end
theorem deepAll_le {n : Nat} : ∀ {ds : List AD}, AD.deepAll ds ≤ n ↔ ∀ d ∈ ds, d.deep ≤ n
  | [] => ⟨fun _ d h => (nomatch h), fun _ => Nat.zero_le _⟩
  | d :: ds => by
    show max d.deep (AD.deepAll ds) ≤ n ↔ _
    rw [Nat.max_le, deepAll_le (ds := ds), List.forall_mem_cons]
theorem okAll_iff {w : Nat} : ∀ {ds : List AD}, AD.okAll w ds ↔ ∀ d ∈ ds, d.ok w
  | [] => ⟨fun _ d h => (nomatch h), fun _ => trivial⟩
  | d :: ds => by
    show d.ok w ∧ AD.okAll w ds ↔ _
    rw [okAll_iff (ds := ds), List.forall_mem_cons]
theorem AD.ok.up {w w' : Nat} (h : w ≤ w') : ∀ {d : AD}, d.ok w → d.ok w'
  | .non, _ => trivial
  | .bl _, _ => trivial
  | .lst, _ => trivial
  | .dct, _ => trivial
  | .int i, x => Nat.le_trans (show i.natAbs ≤ w from x) h
  | .str z, x => Nat.le_trans (show z.length ≤ w from x) h
  | .tup ds, x => by
    have x : ds.length ≤ w ∧ AD.okAll w ds := x
    exact ⟨Nat.le_trans x.1 h, okAll_iff.mpr fun d hd => AD.ok.up h (okAll_iff.mp x.2 d hd)⟩
mutual
inductive Av (K : PySem.W.Frag) (H : Hp) : V → AD → Prop
  | non : Av K H .non .non
  | bl (b : Bool) : Av K H (.bl b) (.bl b)
  | int (i : Int) : Av K H (.int i) (.int i)
  | str (z : Str) : Av K H (.str z) (.str z)
  | lst {a : Addr} {xs : List V} : SqL K H a xs → Av K H (.ref a) .lst
  | dct {a : Addr} {kvs : List (Key × V)} : H a = some (.dK kvs) → Av K H (.ref a) .dct
  | tup {a : Addr} {xs : List V} {ds : List AD} : SqT K H a xs → AvAll K H xs ds → Av K H (.ref a) (.tup ds)
inductive AvAll (K : PySem.W.Frag) (H : Hp) : List V → List AD → Prop
  | nil : AvAll K H [] []
  | cons {x : V} {xs : List V} {d : AD} {ds : List AD} : Av K H x d → AvAll K H xs ds → AvAll K H (x :: xs) (d :: ds)
end
section
variable {K : PySem.W.Frag} {H H' : Hp}
mutual
theorem Av.keep (kl : ∀ b xs, SqL K H b xs → ∃ ys, SqL K H' b ys) (kt : ∀ b xs, SqT K H b xs → SqT K H' b xs) (kd : ∀ b kvs, H b = some (.dK kvs) → H' b = some (.dK kvs)) : ∀ {x : V} (d : AD), Av K H x d → Av K H' x d
  | _, .non, .non => .non
  | _, .bl b, .bl _ => .bl b
  | _, .int i, .int _ => .int i
  | _, .str z, .str _ => .str z
  | _, .lst, .lst h => let ⟨_, z⟩ := kl _ _ h; .lst z
  | _, .dct, .dct h => .dct (kd _ _ h)
  | _, .tup ds, .tup h r => .tup (kt _ _ h) (AvAll.keep kl kt kd ds r)
theorem AvAll.keep (kl : ∀ b xs, SqL K H b xs → ∃ ys, SqL K H' b ys) (kt : ∀ b xs, SqT K H b xs → SqT K H' b xs) (kd : ∀ b kvs, H b = some (.dK kvs) → H' b = some (.dK kvs)) : ∀ {xs : List V} (ds : List AD), AvAll K H xs ds → AvAll K H' xs ds
  | _, [], .nil => .nil
  | _, d :: ds, .cons h r => .cons (Av.keep kl kt kd d h) (AvAll.keep kl kt kd ds r)
end
theorem Av.same (s : Same H H') {x : V} {d : AD} (h : Av K H x d) : Av K H' x d := Av.keep (fun _ xs z => ⟨xs, s.seq z⟩) (fun _ _ => same_t s) (fun b _ z => s b _ z) d h
theorem AvAll.same (s : Same H H') {xs : List V} {ds : List AD} (h : AvAll K H xs ds) : AvAll K H' xs ds := AvAll.keep (fun _ ys z => ⟨ys, s.seq z⟩) (fun _ _ => same_t s) (fun b _ z => s b _ z) ds h
theorem but_l {a b : Addr} {n m : Nat} {xs : List V} (bt : But a H H') (h : Hd H a n) (h' : Hd H' a m) (z : SqL K H b xs) : ∃ ys, SqL K H' b ys := by
  by_cases e : b = a
  · obtain ⟨ys, e2⟩ := h'.some
    rw [e]
    exact ⟨ys, SqL.of e2⟩
  · rcases z with (z | ⟨o, z⟩) | z
    · exact ⟨xs, .inl (.inl (bt b _ e z))⟩
    · exact ⟨xs, .inl (.inr ⟨o, bt b _ e z⟩)⟩
    · exact ⟨xs, .inr z⟩
theorem but_d {a b : Addr} {n : Nat} {kvs : List (Key × V)} (bt : But a H H') (h : Hd H a n) (z : H b = some (.dK kvs)) : H' b = some (.dK kvs) := by
  obtain ⟨ys, e2⟩ := h.some
  exact bt b _ (fun e => by rw [e, e2] at z; cases z) z
theorem Av.but {a : Addr} {n m : Nat} (bt : But a H H') (h : Hd H a n) (h' : Hd H' a m) {x : V} {d : AD} (z : Av K H x d) : Av K H' x d := Av.keep (fun _ _ => but_l bt h h') (fun _ _ => but_t bt h) (fun _ _ => but_d bt h) d z
theorem AvAll.but {a : Addr} {n m : Nat} (bt : But a H H') (h : Hd H a n) (h' : Hd H' a m) {xs : List V} {ds : List AD} (z : AvAll K H xs ds) : AvAll K H' xs ds := AvAll.keep (fun _ _ => but_l bt h h') (fun _ _ => but_t bt h) (fun _ _ => but_d bt h) ds z
theorem AvAll.len : ∀ {xs : List V} {ds : List AD}, AvAll K H xs ds → xs.length = ds.length
  | _, _, .nil => rfl
  | _, _, .cons _ r => by rw [List.length_cons, List.length_cons, AvAll.len r]
theorem AvAll.append : ∀ {xs ys : List V} {ds es : List AD}, AvAll K H xs ds → AvAll K H ys es → AvAll K H (xs ++ ys) (ds ++ es)
  | _, _, _, _, .nil, z => z
  | _, _, _, _, .cons h r, z => .cons h (AvAll.append r z)
theorem AvAll.take : ∀ {xs : List V} {ds : List AD} (n : Nat), AvAll K H xs ds → AvAll K H (xs.take n) (ds.take n)
  | _, _, 0, _ => by rw [List.take_zero, List.take_zero]; exact .nil
  | _, _, n + 1, .nil => by rw [List.take_nil, List.take_nil]; exact .nil
  | _, _, n + 1, .cons h r => .cons h (AvAll.take n r)
theorem AvAll.drop : ∀ {xs : List V} {ds : List AD} (n : Nat), AvAll K H xs ds → AvAll K H (xs.drop n) (ds.drop n)
  | _, _, 0, r => r
  | _, _, n + 1, .nil => .nil
  | _, _, n + 1, .cons h r => AvAll.drop n r
theorem AvAll.reverse : ∀ {xs : List V} {ds : List AD}, AvAll K H xs ds → AvAll K H xs.reverse ds.reverse
  | _, _, .nil => .nil
  | _, _, .cons h r => by
    rw [List.reverse_cons, List.reverse_cons]
    exact AvAll.append (AvAll.reverse r) (.cons h .nil)
theorem AvAll.get : ∀ {xs : List V} {ds : List AD} {i : Nat} {x : V}, AvAll K H xs ds → xs[i]? = some x → ∃ d, ds[i]? = some d ∧ Av K H x d
  | _, _, _, _, .nil, g => by simp at g
  | _, _, 0, _, .cons h r, g => by
    cases Option.some.inj g
    exact ⟨_, rfl, h⟩
  | _, _, i + 1, _, .cons h r, g => AvAll.get (i := i) r g
theorem Av.kd {x : V} {d : AD} (h : Av K H x d) : ∃ T, Kd K H x T := by
  cases h with
  | non => exact ⟨_, .non⟩
  | bl b => exact ⟨_, .bl b⟩
  | int i => exact ⟨_, .int i⟩
  | str z => exact ⟨_, .str z⟩
  | lst h => exact ⟨_, .lst h⟩
  | dct h => exact ⟨_, .dct h⟩
  | tup h _ => exact ⟨_, .tup h⟩
def AD.isTup : AD → Bool
  | .tup _ => true
  | _ => false
def AD.isStr : AD → Bool
  | .str _ => true
  | _ => false
def AD.isBl : AD → Bool
  | .bl _ => true
  | _ => false
def AD.isNum : AD → Bool
  | .bl _ => true
  | .int _ => true
  | _ => false
theorem Av.kd2 {x : V} {d : AD} (h : Av K H x d) : ∃ T, Kd K H x T ∧ kitB T "tuple" = some d.isTup ∧ kitB T "str" = some d.isStr ∧ kitB T "bool" = some d.isBl ∧ kitB T "int" = some d.isNum := by
  cases h with
  | non => exact ⟨_, .non, by decide +kernel, by decide +kernel, by decide +kernel, by decide +kernel⟩
  | bl b => exact ⟨_, .bl b, (Kd.bl (K := K) (H := H) b).ktup, (Kd.bl (K := K) (H := H) b).kstr, (Kd.bl (K := K) (H := H) b).kbool, (Kd.bl (K := K) (H := H) b).kint⟩
  | int i => exact ⟨_, .int i, (Kd.int (K := K) (H := H) i).ktup, (Kd.int (K := K) (H := H) i).kstr, (Kd.int (K := K) (H := H) i).kbool, (Kd.int (K := K) (H := H) i).kint⟩
  | str z => exact ⟨_, .str z, (Kd.str (K := K) (H := H) z).ktup, (Kd.str (K := K) (H := H) z).kstr, (Kd.str (K := K) (H := H) z).kbool, (Kd.str (K := K) (H := H) z).kint⟩
  | lst h => exact ⟨_, .lst h, (Kd.lst h).ktup, (Kd.lst h).kstr, (Kd.lst h).kbool, (Kd.lst h).kint⟩
  | dct h => exact ⟨_, .dct h, (Kd.dct (K := K) h).ktup, (Kd.dct (K := K) h).kstr, (Kd.dct (K := K) h).kbool, (Kd.dct (K := K) h).kint⟩
  | tup h _ => exact ⟨_, .tup h, (Kd.tup h).ktup, (Kd.tup h).kstr, (Kd.tup h).kbool, (Kd.tup h).kint⟩
end
/-! ### slices and sums of tuples of anything -/
theorem slV_to {K : PySem.W.Frag} {H : Hp} {Q : VK} {a : Addr} {xs : List V} {c : Nat} (ha : SqT K H a xs) (q : ∀ H' p, Same H H' → SqT K H' p (xs.take c) → Q (.ref p) H') : rSlA K (.ref a) none (some (c : Int)) H Q := by
  refine ⟨a, _, rfl, ha, fun e => ?_, fun _ p hp => ?_⟩
  · refine q H a (Same.refl H) ?_
    rw [HT.sIx_nat] at e
    rw [List.take_of_length_le (by omega)]
    exact ha
  · refine q _ p (same_new hp) (SqT.of ?_)
    rw [upd_same, cut_to]
theorem slV_from {K : PySem.W.Frag} {H : Hp} {Q : VK} {a : Addr} {xs : List V} {c : Nat} (ha : SqT K H a xs) (q : ∀ H' p, Same H H' → SqT K H' p (xs.drop c) → Q (.ref p) H') : rSlA K (.ref a) (some (c : Int)) none H Q := by
  refine ⟨a, _, rfl, ha, fun e => ?_, fun _ p hp => ?_⟩
  · refine q H a (Same.refl H) ?_
    rw [HT.sIx_nat] at e
    have z : xs.drop c = xs := by
      rcases Nat.lt_or_ge 0 c with h | h
      · have : xs.length = 0 := by omega
        rw [List.length_eq_zero_iff.mp this, List.drop_nil]
      · rw [Nat.le_zero.mp h, List.drop_zero]
    rw [z]
    exact ha
  · refine q _ p (same_new hp) (SqT.of ?_)
    rw [upd_same, cut_from]
theorem catV_of {K : PySem.W.Frag} {H : Hp} {Q : VK} {a b : Addr} {xs ys : List V} (ha : SqT K H a xs) (hb : SqT K H b ys) (hz : xs.length + ys.length ≤ sizeLine) (q : ∀ H' p, Same H H' → SqT K H' p (xs ++ ys) → Q (.ref p) H') : rCatA K (.ref a) (.ref b) H Q := by
  refine ⟨a, b, _, _, rfl, rfl, ha, hb, hz, fun e => ?_, fun _ e => ?_, fun _ _ p hp => ?_⟩
  · refine q H b (Same.refl H) ?_
    rw [e, List.nil_append]
    exact hb
  · refine q H a (Same.refl H) ?_
    rw [e, List.append_nil]
    exact ha
  · exact q _ p (same_new hp) (SqT.of upd_same)
end M
namespace M
open PySem PySem.Spec PyProof.Rows L2 Gd
/-! ### bent -/
abbrev sBent : Stmt := topS 20
abbrev nBent : List Str := ["_law_hand_here", "_law_item", "_law_at", "_law_some"]
theorem scBent : FnScope nBent ["_law_hand_here", "_law_item"] (defScope sBent) := ⟨rfl, rfl, rfl, by decide +kernel, rfl, by decide +kernel, by decide +kernel⟩
def spBent (K : PySem.W.Frag) (n : Nat) : Sp := fun vs H Q _ => ∃ (a : Addr) (x : V) (t m : Nat) (d : AD), vs = [.ref a, x] ∧ Hd H a t ∧ t + 2 * n + 10 < 1000000 ∧ Av K H x d ∧ d.deep < n ∧ d.ok m ∧ m ≤ 1000000 ∧
  ∀ H' y d', But a H H' → Hd H' a (t + 2 * n + 3) → Av K H' y d' → d'.deep ≤ n + 1 → d'.ok (3 * m + 2000) → Q y H'
/-- the items that may be picked -/
def GoodL (K : PySem.W.Frag) (H : Hp) (n w : Nat) (xs : List V) : Prop := ∀ y ∈ xs, ∃ d, Av K H y d ∧ d.deep ≤ n ∧ d.ok w
theorem GoodL.same {K : PySem.W.Frag} {H H' : Hp} {n w : Nat} {xs : List V} (s : Same H H') (h : GoodL K H n w xs) : GoodL K H' n w xs := fun y hy => by
  obtain ⟨d, h1, h2, h3⟩ := h y hy
  exact ⟨d, h1.same s, h2, h3⟩
theorem GoodL.nil {K : PySem.W.Frag} {H : Hp} {n w : Nat} : GoodL K H n w [] := fun y hy => (nomatch hy)
theorem GoodL.cons {K : PySem.W.Frag} {H : Hp} {n w : Nat} {x : V} {xs : List V} {d : AD} (h : Av K H x d) (h2 : d.deep ≤ n) (h3 : d.ok w) (r : GoodL K H n w xs) : GoodL K H n w (x :: xs) := fun y hy => by
  rcases List.mem_cons.mp hy with e | e
  · rw [e]
    exact ⟨d, h, h2, h3⟩
  · exact r y e
theorem GoodL.append {K : PySem.W.Frag} {H : Hp} {n w : Nat} {xs ys : List V} (h : GoodL K H n w xs) (r : GoodL K H n w ys) : GoodL K H n w (xs ++ ys) := fun y hy => (List.mem_append.mp hy).elim (h y) (r y)
theorem deep_str (z : Str) : (AD.str z).deep = 0 := rfl
theorem one_deep (d : AD) : (AD.tup [d]).deep = d.deep + 1 := by
  show max d.deep 0 + 1 = _
  rw [Nat.max_zero]
theorem szM {n : Nat} (h : n ≤ 10000000) : n ≤ sizeLine := Nat.le_trans h (by decide)
section
variable {P : Program} {w : World} {K : PySem.W.Frag} {mg : Str → Option Value} {base : Heap}
structure BentTxt (K : PySem.W.Frag) (mg : Str → Option Value) (f fT fP : Addr) (fd fdT fdP : FuncData) : Prop where
  B : Fun K "_law_bent" "_law_bent" sBent f fd
  bB : Binds K fd ["_law_hand_here", "_law_item"] []
  gB : mg "_law_bent" = some (.ref f)
  T : Fun K "_law_take" "_law_take" sTake fT fdT
  bT : Binds K fdT ["_law_hand_here", "_law_many"] []
  gT : mg "_law_take" = some (.ref fT)
  P : Fun K "_law_pick" "_law_pick" sPick fP fdP
  bP : Binds K fdP ["_law_hand_here", "_law_items"] []
  gP : mg "_law_pick" = some (.ref fP)
  len : mg "len" = none
  isi : mg "isinstance" = none
  tup : mg "tuple" = none
  lst : mg "list" = none
  str : mg "str" = none
  int : mg "int" = none
theorem ok_bent {f fT fP : Addr} {fd fdT fdP : FuncData} (T : BentTxt K mg f fT fP fd fdT fdP) : ∀ n : Nat, FnOk P w K mg base CX0 (n + 3) f fd ["_law_hand_here", "_law_item"] (spBent K n)
  | 0 => ⟨fun vs H Q E h => by obtain ⟨a, x, t, m, d, rfl, _⟩ := h; rfl, fun A outer s H args us vs Q E _ _ _ _ h => by
      obtain ⟨a, x, t, m, d, _, _, _, _, hd, _⟩ := h
      exact absurd hd (Nat.not_lt_zero _)⟩
  | n + 1 => by
    have GB : FnOk P w K mg base CX0 (n + 3) f fd ["_law_hand_here", "_law_item"] (spBent K n) := ok_bent T n
    have GT : FnOk P w K mg base CX0 (n + 3) fT fdT ["_law_hand_here", "_law_many"] spTake := ok_take T.T
    have GP : FnOk P w K mg base CX0 (n + 3) fP fdP ["_law_hand_here", "_law_items"] spPick := (ok_pick (k := 0) T.P T.T T.bT T.gT T.len).mono (by omega)
    refine T.B.ok scBent (fun vs H Q E h => ?_) (fun cdv A outer s H vs Q E hr h => ?_)
    · obtain ⟨a, x, t, m, d, rfl, _⟩ := h
      rfl
    · obtain ⟨a, x, t, m, d, rfl, hh, ht, av, dp, ok, hm, q⟩ := h
      -- return pick(hand, some)
      obtain ⟨t5, h5, e5⟩ : ∃ t5, PSs (cxOf CX0 P w K mg base nBent "_law_bent" (defScope sBent) f cdv A outer s H E).nox ((defBody sBent).drop 5) t5 ∧ ∀ (y2 : Option V) (l : Addr) (xs : List V) (H1 : Hp), But a H H1 → Hd H1 a (t + 1) → H1 l = some (.lst xs) → l ≠ a → GoodL K H1 (n + 2) (3 * m + 2000) xs → 0 < xs.length → xs.length ≤ 100 →
          t5 { nx := fun _ H' => Q .non H', rt := Q } [some (.ref a), some x, y2, some (.ref l)] H1 := by
        refine ⟨_, pss_one (ps_ret (pe_call GP hr (by rfl) T.gP T.P.kp T.bP .nil pass0 (pa_cons (pv 0) (pa_cons (pv 3) pa_nil)))), ?_⟩
        intro y2 l xs H1 b1 hd1 el nl good l0 l1
        refine ⟨.ref a, rfl, .ref l, rfl, a, t + 1, .ref l, rfl, hd1, by omega, .inl ⟨l, xs, rfl, nl, .inl el, l0, by omega, fun H2 y b2 hd2 hy => ?_⟩⟩
        obtain ⟨d', h1, h2, h3⟩ := good y hy
        exact q H2 y d' (b1.trans b2) (hd2.up (by omega)) (h1.but b2 hd1 hd2) (by omega) h3
      -- if isinstance(item, int)
      obtain ⟨t4, h4, e4⟩ : ∃ t4, PSs (cxOf CX0 P w K mg base nBent "_law_bent" (defScope sBent) f cdv A outer s H E).nox ((defBody sBent).drop 4) t4 ∧ ∀ (y2 : Option V) (l : Addr) (xs : List V) (H1 : Hp), But a H H1 → Hd H1 a (t + 1) → H1 l = some (.lst xs) → l ≠ a → GoodL K H1 (n + 2) (3 * m + 2000) xs → 0 < xs.length → xs.length ≤ 80 → Av K H1 x d →
          t4 { nx := fun _ H' => Q .non H', rt := Q } [some (.ref a), some x, y2, some (.ref l)] H1 := by
        refine ⟨_, pss_cons (ps_if (pt_val (pe_callB call_isi (by rfl) T.isi (by decide +kernel) (pa_cons (pv 1) (pa_cons (pe_bltn (v := .ty "int") (by rfl) T.int (by decide +kernel) rfl) pa_nil))))
          (pss_one (ps_set (i := 3) scBent.nd rfl (.inl rfl) (pe_op op_cat (pv 3) (pe_lst (pa_cons (pe_op op_addB (pv 1) pe_int) (pa_cons (pe_op op_subB (pv 1) pe_int) (pa_cons (pe_callTy call_strB (by rfl) T.str (by decide +kernel) (pa_cons (pv 1) pa_nil)) (pa_cons (pe_tup (pa_cons (pv 1) pa_nil)) (pa_cons (pe_cmpR (op_eqD hr.units) (pv 1) pe_int (nomark _)) pa_nil)))))))))
          pss_nil) h5, ?_⟩
        intro y2 l xs H1 b1 hd1 el nl good l0 l1 av1
        obtain ⟨T0, kd⟩ := av1.kd
        refine ⟨_, rfl, x, _, _, _, _, rfl, .ty "int", kd.ty, kit_ty kd.kint, _, rfl, ?_⟩
        have key : ∀ (i : Int) (z : Str) (dd : PyData), numV x = some i → numS x = some z → i.natAbs ≤ m + 1 → z.length ≤ 2000 → (∀ j, x = .int j → j.natAbs.log2 < 1920) → (∀ H2, Dp K H2 x dd) → SeqAt.shaped dd = true →
            (∃ v1, ([some (.ref a), some x, y2, some (.ref l)] : L2.St)[3]? = some (some v1) ∧ ∃ v2, ([some (.ref a), some x, y2, some (.ref l)] : L2.St)[1]? = some (some v2) ∧ ∃ i2 j2, numV v2 = some i2 ∧ V.int 1 = .int j2 ∧
              ∃ v3, ([some (.ref a), some x, y2, some (.ref l)] : L2.St)[1]? = some (some v3) ∧ ∃ i3 j3, numV v3 = some i3 ∧ V.int 1 = .int j3 ∧
              ∃ v4, ([some (.ref a), some x, y2, some (.ref l)] : L2.St)[1]? = some (some v4) ∧ ∃ x4 z4, [v4] = [x4] ∧ numS x4 = some z4 ∧ (∀ j, x4 = .int j → j.natAbs.log2 < 1920) ∧
              ∃ v5, ([some (.ref a), some x, y2, some (.ref l)] : L2.St)[1]? = some (some v5) ∧ [v5].length ≤ sizeLine ∧ ∀ p, H1 p = none →
              ∃ v6, ([some (.ref a), some x, y2, some (.ref l)] : L2.St)[1]? = some (some v6) ∧ ∃ d6 e6, Dp K (upd H1 p (.tup [v5])) v6 d6 ∧ Dp K (upd H1 p (.tup [v5])) (.int 1) e6 ∧ SeqAt.shaped d6 = true ∧ SeqAt.shaped e6 = true ∧
              [V.int (i2 + j2), V.int (i3 - j3), V.str z4, V.ref p, V.bl (PyData.eqv d6 e6)].length ≤ sizeLine ∧ ∀ p2, (upd H1 p (.tup [v5])) p2 = none →
              rCat v1 (.ref p2) (upd (upd H1 p (.tup [v5])) p2 (.lst [V.int (i2 + j2), V.int (i3 - j3), V.str z4, V.ref p, V.bl (PyData.eqv d6 e6)])) fun y H9 => t5 { nx := fun _ H' => Q .non H', rt := Q } [some (.ref a), some x, y2, some y] H9) := by
          intro i z dd e1 e2 b2 lz hl hdp hsh
          refine ⟨.ref l, rfl, x, rfl, i, 1, e1, rfl, x, rfl, i, 1, e1, rfl, x, rfl, x, z, rfl, e2, hl, x, rfl, (by show 1 ≤ sizeLine; decide), fun p hp => ?_⟩
          refine ⟨x, rfl, dd, .int 1, hdp _, .int 1, hsh, rfl, (by show 5 ≤ sizeLine; decide), fun p2 hp2 => ?_⟩
          have s1 : Same H1 (upd H1 p (.tup [x])) := same_new hp
          have s2 := s1.trans (same_new hp2 (o := .lst [V.int (i + 1), V.int (i - 1), V.str z, V.ref p, V.bl (PyData.eqv dd (.int 1))]))
          refine ⟨l, p2, xs, _, rfl, rfl, s2 _ _ el, upd_same, szM (by show xs.length + 5 ≤ _; omega), fun p3 hp3 => ?_⟩
          have s3 := s2.trans (same_new hp3 (o := .lst (xs ++ [V.int (i + 1), V.int (i - 1), V.str z, V.ref p, V.bl (PyData.eqv dd (.int 1))])))
          have hdx : Hd (upd (upd H1 p (.tup [x])) p2 (.lst [V.int (i + 1), V.int (i - 1), V.str z, V.ref p, V.bl (PyData.eqv dd (.int 1))])) a (t + 1) := same_hd s2 hd1
          refine e5 y2 p3 _ _ (b1.trans (same_but s3)) (same_hd s3 hd1) upd_same (hdx.ne hp3) ?_ ?_ ?_
          · refine (good.same s3).append ?_
            have sp : Same (upd H1 p (.tup [x])) (upd (upd (upd H1 p (.tup [x])) p2 (.lst [V.int (i + 1), V.int (i - 1), V.str z, V.ref p, V.bl (PyData.eqv dd (.int 1))])) p3 (.lst (xs ++ [V.int (i + 1), V.int (i - 1), V.str z, V.ref p, V.bl (PyData.eqv dd (.int 1))]))) := (same_new hp2).trans (same_new hp3)
            have avp : Av K (upd H1 p (.tup [x])) (.ref p) (.tup [d]) := .tup (SqT.of upd_same) (.cons (av1.same s1) .nil)
            refine .cons (.int (i + 1)) (Nat.zero_le _) ?_ (.cons (.int (i - 1)) (Nat.zero_le _) ?_ (.cons (.str z) (Nat.zero_le _) ?_ (.cons (avp.same sp) ?_ ?_ (.cons (.bl _) (Nat.zero_le _) trivial .nil))))
            · show (i + 1).natAbs ≤ 3 * m + 2000
              omega
            · show (i - 1).natAbs ≤ 3 * m + 2000
              omega
            · show z.length ≤ 3 * m + 2000
              omega
            · rw [one_deep]
              omega
            · exact ⟨by show 1 ≤ 3 * m + 2000; omega, ok.up (by omega), trivial⟩
          · rw [List.length_append]
            omega
          · rw [List.length_append]
            show xs.length + 5 ≤ 100
            omega
        cases av1 with
        | non => cases kd; exact iteF (e5 y2 l xs H1 b1 hd1 el nl good l0 (by omega))
        | str z => cases kd; exact iteF (e5 y2 l xs H1 b1 hd1 el nl good l0 (by omega))
        | lst h =>
          have eT : (T0 == "int" || T0 == "bool") = false := by cases kd <;> rfl
          rw [eT]
          exact iteF (e5 y2 l xs H1 b1 hd1 el nl good l0 (by omega))
        | dct h =>
          have eT : (T0 == "int" || T0 == "bool") = false := by cases kd <;> rfl
          rw [eT]
          exact iteF (e5 y2 l xs H1 b1 hd1 el nl good l0 (by omega))
        | tup h r =>
          have eT : (T0 == "int" || T0 == "bool") = false := by cases kd <;> rfl
          rw [eT]
          exact iteF (e5 y2 l xs H1 b1 hd1 el nl good l0 (by omega))
        | bl b =>
          cases kd
          refine iteT ?_
          refine key (if b = true then 1 else 0) (if b then "True" else "False" : String) (.bool b) rfl rfl ?_ ?_ (fun j e => by cases e) (fun H2 => .bl b) rfl
          · cases b
            · show 0 ≤ m + 1
              omega
            · show 1 ≤ m + 1
              omega
          · cases b <;> decide +kernel
        | int i =>
          cases kd
          have oi : i.natAbs ≤ m := ok
          refine iteT ?_
          have lt : i.natAbs < 10 ^ 7 := by
            have : (10 : Nat) ^ 7 = 10000000 := by decide
            omega
          refine key i (toString i : String) (.int i) rfl rfl (by omega) ?_ (fun j e => ?_) (fun H2 => .int i) rfl
          · have h1 := int_text_length_le10 (k := 7) (by decide) lt
            rw [PySem.ofString_length]
            omega
          · cases e
            refine Nat.lt_of_lt_of_le (PySem.Flt.log2_lt_of (k := 24) (by decide) ?_) (by decide)
            have : (2 : Nat) ^ 24 = 16777216 := by decide
            omega
      -- if isinstance(item, str)
      obtain ⟨t3, h3, e3⟩ : ∃ t3, PSs (cxOf CX0 P w K mg base nBent "_law_bent" (defScope sBent) f cdv A outer s H E).nox ((defBody sBent).drop 3) t3 ∧ ∀ (y2 : Option V) (l : Addr) (xs : List V) (H1 : Hp), But a H H1 → Hd H1 a (t + 1) → H1 l = some (.lst xs) → l ≠ a → GoodL K H1 (n + 2) (3 * m + 2000) xs → 0 < xs.length → xs.length ≤ 60 → Av K H1 x d →
          t3 { nx := fun _ H' => Q .non H', rt := Q } [some (.ref a), some x, y2, some (.ref l)] H1 := by
        refine ⟨_, pss_cons (ps_if (pt_val (pe_callB call_isi (by rfl) T.isi (by decide +kernel) (pa_cons (pv 1) (pa_cons (pe_bltn (v := .ty "str") (by rfl) T.str (by decide +kernel) rfl) pa_nil))))
          (pss_one (ps_set (i := 3) scBent.nd rfl (.inl rfl) (pe_op op_cat (pv 3) (pe_lst (pa_cons (pe_op op_add_str (pv 1) pe_str) (pa_cons (pe_slice sl_str (pv 1) (po_some pe_int) po_none) (pa_cons (pe_lst (pa_cons (pv 1) pa_nil)) (pa_cons (pe_tup (pa_cons (pv 1) pa_nil)) (pa_cons (pe_upper (pv 1)) pa_nil)))))))))
          pss_nil) h4, ?_⟩
        intro y2 l xs H1 b1 hd1 el nl good l0 l1 av1
        obtain ⟨T0, kd⟩ := av1.kd
        refine ⟨_, rfl, x, _, _, _, _, rfl, .ty "str", kd.ty, kit_ty kd.kstr, _, rfl, ?_⟩
        by_cases hstr : ∃ z, x = .str z
        · obtain ⟨z, rfl⟩ := hstr
          cases kd
          cases av1
          have oz : z.length ≤ m := ok
          refine iteT ?_
          refine ⟨.ref l, rfl, _, rfl, z, "b", rfl, rfl, szM (by show z.length + 1 ≤ _; omega), _, rfl, 1, rfl, z, rfl, szM (by omega), _, rfl, (by show 1 ≤ sizeLine; decide), fun p hp => ?_⟩
          refine ⟨_, rfl, (by show 1 ≤ sizeLine; decide), fun p1 hp1 => ?_⟩
          refine ⟨_, rfl, ⟨_, rfl⟩, z, rfl, rfl, by omega, (by show 5 ≤ sizeLine; decide), fun p2 hp2 => ?_⟩
          have s1 : Same H1 (upd H1 p (.lst [.str z])) := same_new hp
          have s2 := s1.trans (same_new hp1 (o := .tup [.str z]))
          have s3 := s2.trans (same_new hp2 (o := .lst [V.str (z ++ "b"), V.str (cutS z (some 1) none), V.ref p, V.ref p1, V.str (Txt.upper z)]))
          refine ⟨l, p2, xs, _, rfl, rfl, s3 _ _ el, upd_same, szM (by show xs.length + 5 ≤ _; omega), fun p3 hp3 => ?_⟩
          have s4 := s3.trans (same_new hp3 (o := .lst (xs ++ [V.str (z ++ "b"), V.str (cutS z (some 1) none), V.ref p, V.ref p1, V.str (Txt.upper z)])))
          refine e4 y2 p3 _ _ (b1.trans (same_but s4)) (same_hd s4 hd1) upd_same ((same_hd s3 hd1).ne hp3) ?_ ?_ ?_ (.str z)
          · refine (good.same s4).append ?_
            have k2 := (same_new hp1 (o := .tup [.str z])).trans ((same_new hp2 (o := .lst [V.str (z ++ "b"), V.str (cutS z (some 1) none), V.ref p, V.ref p1, V.str (Txt.upper z)])).trans (same_new hp3 (o := .lst (xs ++ [V.str (z ++ "b"), V.str (cutS z (some 1) none), V.ref p, V.ref p1, V.str (Txt.upper z)]))))
            have k3 := (same_new hp2 (o := .lst [V.str (z ++ "b"), V.str (cutS z (some 1) none), V.ref p, V.ref p1, V.str (Txt.upper z)])).trans (same_new hp3 (o := .lst (xs ++ [V.str (z ++ "b"), V.str (cutS z (some 1) none), V.ref p, V.ref p1, V.str (Txt.upper z)])))
            refine .cons (.str _) (Nat.zero_le _) ?_ (.cons (.str _) (Nat.zero_le _) ?_ (.cons (.lst (k2.seq (SqL.of upd_same))) (Nat.zero_le _) trivial (.cons (d := .tup [.str z]) (.tup (same_t k3 (SqT.of upd_same)) (.cons (.str z) .nil)) ?_ ?_ (.cons (.str _) (Nat.zero_le _) ?_ .nil))))
            · show (z ++ ("b" : Str)).length ≤ _
              rw [← len_cps, PySem.W.KT.app_list, List.length_append, len_cps, len_cps]
              show z.length + 1 ≤ _
              omega
            · exact Nat.le_trans (cutS_length z _ _) (by omega)
            · rw [one_deep]
              show 0 + 1 ≤ n + 2
              omega
            · exact ⟨by show 1 ≤ 3 * m + 2000; omega, Nat.le_trans oz (by omega), trivial⟩
            · exact Nat.le_trans (PyProof.Rows.len_upper z) (by omega)
          · rw [List.length_append]
            omega
          · rw [List.length_append]
            show xs.length + 5 ≤ 80
            omega
        · have eT : (T0 == "str") = false := by
            cases kd with
            | str z => exact absurd ⟨z, rfl⟩ hstr
            | _ => rfl
          rw [eT]
          exact iteF (e4 y2 l xs H1 b1 hd1 el nl good l0 (by omega) av1)
      -- if isinstance(item, tuple)
      obtain ⟨t2, h2, e2⟩ : ∃ t2, PSs (cxOf CX0 P w K mg base nBent "_law_bent" (defScope sBent) f cdv A outer s H E).nox ((defBody sBent).drop 2) t2 ∧ ∀ (y2 : Option V) (l : Addr) (xs : List V) (H1 : Hp), But a H H1 → Hd H1 a (t + 1) → H1 l = some (.lst xs) → l ≠ a → GoodL K H1 (n + 2) (3 * m + 2000) xs → 0 < xs.length → xs.length ≤ 40 → Av K H1 x d →
          t2 { nx := fun _ H' => Q .non H', rt := Q } [some (.ref a), some x, y2, some (.ref l)] H1 := by
        refine ⟨_, pss_cons (ps_if (pt_val (pe_callB call_isi (by rfl) T.isi (by decide +kernel) (pa_cons (pv 1) (pa_cons (pe_bltn (v := .ty "tuple") (by rfl) T.tup (by decide +kernel) rfl) pa_nil))))
          (pss_one (ps_set (i := 3) scBent.nd rfl (.inl rfl) (pe_op op_cat (pv 3) (pe_lst (pa_cons (pe_callTy call_list_of (by rfl) T.lst (by decide +kernel) (pa_cons (pv 1) pa_nil)) (pa_cons (pe_op op_catA (pv 1) (pe_slice sl_tupA (pv 1) po_none (po_some pe_int))) (pa_cons (pe_slice sl_tupA (pv 1) (po_some pe_int) po_none) (pa_cons (pe_revT (pv 1)) (pa_cons (pe_op op_catA (pv 1) (pe_tup (pa_cons pe_str pa_nil))) (pa_cons (pe_tup (pa_cons (pv 1) pa_nil)) pa_nil))))))))))
          pss_nil) h3, ?_⟩
        intro y2 l xs H1 b1 hd1 el nl good l0 l1 av1
        cases av1 with
        | non => exact ⟨_, rfl, _, _, _, _, _, rfl, .ty "tuple", (Kd.non (K := K) (H := H1)).ty, kit_ty (Kd.non (K := K) (H := H1)).ktup, _, rfl, iteF (e3 y2 l xs H1 b1 hd1 el nl good l0 (by omega) .non)⟩
        | bl b => exact ⟨_, rfl, _, _, _, _, _, rfl, .ty "tuple", (Kd.bl (K := K) (H := H1) b).ty, kit_ty (Kd.bl (K := K) (H := H1) b).ktup, _, rfl, iteF (e3 y2 l xs H1 b1 hd1 el nl good l0 (by omega) (.bl b))⟩
        | int i => exact ⟨_, rfl, _, _, _, _, _, rfl, .ty "tuple", (Kd.int (K := K) (H := H1) i).ty, kit_ty (Kd.int (K := K) (H := H1) i).ktup, _, rfl, iteF (e3 y2 l xs H1 b1 hd1 el nl good l0 (by omega) (.int i))⟩
        | str z => exact ⟨_, rfl, _, _, _, _, _, rfl, .ty "tuple", (Kd.str (K := K) (H := H1) z).ty, kit_ty (Kd.str (K := K) (H := H1) z).ktup, _, rfl, iteF (e3 y2 l xs H1 b1 hd1 el nl good l0 (by omega) (.str z))⟩
        | lst h => exact ⟨_, rfl, _, _, _, _, _, rfl, .ty "tuple", (Kd.lst h).ty, kit_ty (Kd.lst h).ktup, _, rfl, iteF (e3 y2 l xs H1 b1 hd1 el nl good l0 (by omega) (.lst h))⟩
        | dct h => exact ⟨_, rfl, _, _, _, _, _, rfl, .ty "tuple", (Kd.dct (K := K) h).ty, kit_ty (Kd.dct (K := K) h).ktup, _, rfl, iteF (e3 y2 l xs H1 b1 hd1 el nl good l0 (by omega) (.dct h))⟩
        | @tup b ys ds h r =>
          refine ⟨_, rfl, _, _, _, _, _, rfl, .ty "tuple", (Kd.tup h).ty, kit_ty (Kd.tup h).ktup, _, rfl, iteT ?_⟩
          have okt : ds.length ≤ m ∧ AD.okAll m ds := ok
          have lys : ys.length ≤ m := by rw [r.len]; exact okt.1
          have dpt : AD.deepAll ds + 1 < n + 1 := dp
          have dpe : ∀ d ∈ ds, d.deep ≤ n := deepAll_le.mp (by omega)
          have oke := okAll_iff.mp okt.2
          -- what a tuple of such items is
          have good1 : ∀ {H9 : Hp} {p : Addr} {zs : List V} {es : List AD}, SqT K H9 p zs → AvAll K H9 zs es → es.length ≤ m + 1 → (∀ e ∈ es, e.deep ≤ n + 1 ∧ e.ok (m + 5)) → ∃ d', Av K H9 (.ref p) d' ∧ d'.deep ≤ n + 2 ∧ d'.ok (3 * m + 2000) := by
            intro H9 p zs es z1 z2 z3 z4
            refine ⟨.tup es, .tup z1 z2, ?_, ⟨by omega, okAll_iff.mpr fun e he => (z4 e he).2.up (by omega)⟩⟩
            show AD.deepAll es + 1 ≤ n + 2
            have := deepAll_le (n := n + 1) (ds := es) |>.mpr fun e he => (z4 e he).1
            omega
          have base1 : ∀ e ∈ ds, e.deep ≤ n + 1 ∧ e.ok (m + 5) := fun e he => ⟨by have := dpe e he; omega, (oke e he).up (by omega)⟩
          refine ⟨.ref l, rfl, .ref b, rfl, b, ys, rfl, .inr h, fun p1 hp1 => ?_⟩
          have s1 : Same H1 (upd H1 p1 (.lst ys)) := same_new hp1
          refine ⟨.ref b, rfl, .ref b, rfl, 1, rfl, ?_⟩
          dsimp only
          refine slV_to (c := 1) (same_t s1 h) fun H2 p2 s2 e2' => ?_
          refine catV_of (same_t (s1.trans s2) h) e2' (szM (by rw [List.length_take]; omega)) fun H3 p3 s3 e3' => ?_
          have s13 := s1.trans (s2.trans s3)
          refine ⟨.ref b, rfl, 1, rfl, ?_⟩
          dsimp only [tNoPart]
          refine slV_from (c := 1) (same_t s13 h) fun H4 p4 s4 e4' => ?_
          have s14 := s13.trans s4
          refine ⟨.ref b, rfl, b, ys, rfl, same_t s14 h, fun p5 hp5 => ?_⟩
          have s45 : Same H4 (upd H4 p5 (.tup ys.reverse)) := same_new hp5
          have s15 := s14.trans s45
          refine ⟨.ref b, rfl, (by show 1 ≤ sizeLine; decide), fun p6 hp6 => ?_⟩
          have s56 := same_new hp6 (o := .tup [.str "zz"])
          have s16 := s15.trans s56
          dsimp only
          refine catV_of (same_t s16 h) (SqT.of upd_same) (szM (by show ys.length + 1 ≤ _; omega)) fun H7 p7 s7 e7' => ?_
          have s17 := s16.trans s7
          refine ⟨.ref b, rfl, (by show 1 ≤ sizeLine; decide), fun p8 hp8 => ?_⟩
          have s78 := same_new hp8 (o := .tup [.ref b])
          have s18 := s17.trans s78
          refine ⟨(by show 6 ≤ sizeLine; decide), fun p9 hp9 => ?_⟩
          have s89 := same_new hp9 (o := .lst [.ref p1, .ref p3, .ref p4, .ref p5, .ref p7, .ref p8])
          have s19 := s18.trans s89
          refine ⟨l, p9, xs, _, rfl, rfl, s19 _ _ el, upd_same, szM (by show xs.length + 6 ≤ _; omega), fun p10 hp10 => ?_⟩
          have s90 := same_new hp10 (o := .lst (xs ++ [.ref p1, .ref p3, .ref p4, .ref p5, .ref p7, .ref p8]))
          have sA := s19.trans s90
          have hd9 := same_hd s19 hd1
          refine e3 y2 p10 _ _ (b1.trans (same_but sA)) (same_hd sA hd1) upd_same (hd9.ne hp10) ?_ ?_ ?_ (Av.same sA (.tup h r))
          · refine (good.same sA).append fun y hy => ?_
            have rA := r.same sA
            simp only [List.mem_cons, List.not_mem_nil, or_false] at hy
            rcases hy with rfl | rfl | rfl | rfl | rfl | rfl
            · exact ⟨.lst, .lst ((s2.trans (s3.trans (s4.trans (s45.trans (s56.trans (s7.trans (s78.trans (s89.trans s90)))))))).seq (SqL.of upd_same)), Nat.zero_le _, trivial⟩
            · refine good1 (same_t (s4.trans (s45.trans (s56.trans (s7.trans (s78.trans (s89.trans s90)))))) e3') (rA.append (rA.take 1)) (by rw [List.length_append, List.length_take]; omega) fun e he => ?_
              exact base1 e ((List.mem_append.mp he).elim id List.mem_of_mem_take)
            · exact good1 (same_t (s45.trans (s56.trans (s7.trans (s78.trans (s89.trans s90))))) e4') (rA.drop 1) (by rw [List.length_drop]; omega) fun e he => base1 e (List.mem_of_mem_drop he)
            · exact good1 (same_t (s56.trans (s7.trans (s78.trans (s89.trans s90)))) (SqT.of upd_same)) rA.reverse (by rw [List.length_reverse]; omega) fun e he => base1 e (List.mem_reverse.mp he)
            · refine good1 (same_t (s78.trans (s89.trans s90)) e7') (rA.append (.cons (.str "zz") .nil)) (by rw [List.length_append]; show ds.length + 1 ≤ _; omega) fun e he => ?_
              rcases List.mem_append.mp he with he | he
              · exact base1 e he
              · rw [List.mem_singleton.mp he]
                exact ⟨Nat.zero_le _, (show 2 ≤ m + 5 by omega)⟩
            · refine good1 (same_t (s89.trans s90) (SqT.of upd_same)) (.cons (Av.same sA (.tup h r)) .nil) (by show 1 ≤ m + 1; omega) fun e he => ?_
              rw [List.mem_singleton.mp he]
              refine ⟨by show AD.deepAll ds + 1 ≤ n + 1; omega, AD.ok.up (w := m) (by omega) ⟨okt.1, okt.2⟩⟩
          · rw [List.length_append]
            omega
          · rw [List.length_append]
            show xs.length + 6 ≤ 60
            omega
      -- some = [..]
      obtain ⟨t1, h1, e1⟩ : ∃ t1, PSs (cxOf CX0 P w K mg base nBent "_law_bent" (defScope sBent) f cdv A outer s H E).nox ((defBody sBent).drop 1) t1 ∧ ∀ (y2 y3 : Option V) (H1 : Hp), But a H H1 → Hd H1 a (t + 1) → Av K H1 x d →
          t1 { nx := fun _ H' => Q .non H', rt := Q } [some (.ref a), some x, y2, y3] H1 := by
        refine ⟨_, pss_cons (ps_set (i := 3) scBent.nd rfl (.inl rfl) (pe_lst (pa_cons pe_non (pa_cons pe_bl (pa_cons pe_bl (pa_cons (pe_un un_neg pe_int) (pa_cons pe_int (pa_cons pe_int (pa_cons pe_int (pa_cons pe_int (pa_cons pe_str (pa_cons pe_str (pa_cons pe_str (pa_cons pe_str (pa_cons pe_str (pa_cons (pe_tup pa_nil) (pa_cons (pe_tup (pa_cons pe_str pa_nil)) (pa_cons (pe_lst (pa_cons pe_str pa_nil)) (pa_cons pe_dnewK (pa_cons (pe_tup (pa_cons (pe_tup pa_nil) pa_nil)) pa_nil)))))))))))))))))))) h2, ?_⟩
        intro y2 y3 H1 b1 hd1 av1
        refine ⟨1, rfl, Nat.zero_le _, fun p1 hp1 => ?_⟩
        have s1 := same_new hp1 (o := .tup [])
        refine ⟨(by show 1 ≤ sizeLine; decide), fun p2 hp2 => ?_⟩
        have s2 := same_new hp2 (o := .tup [.str "a"])
        refine ⟨(by show 1 ≤ sizeLine; decide), fun p3 hp3 => ?_⟩
        have s3 := same_new hp3 (o := .lst [.str "a"])
        refine fun p4 hp4 => ?_
        have s4 := same_new hp4 (o := .dK [])
        refine ⟨Nat.zero_le _, fun p5 hp5 => ?_⟩
        have s5 := same_new hp5 (o := .tup [])
        refine ⟨(by show 1 ≤ sizeLine; decide), fun p6 hp6 => ?_⟩
        have s6 := same_new hp6 (o := .tup [.ref p5])
        refine ⟨(by show 18 ≤ sizeLine; decide), fun l hl => ?_⟩
        have s7 := same_new hl (o := .lst [.non, .bl true, .bl false, .int (-1), .int 0, .int 1, .int 2, .int 1001, .str "", .str "a", .str "A", .str "a b", .str "abcdefghi", .ref p1, .ref p2, .ref p3, .ref p4, .ref p6])
        have s16 := s1.trans (s2.trans (s3.trans (s4.trans (s5.trans s6))))
        have sA := s16.trans s7
        refine e2 y2 l _ _ (b1.trans (same_but sA)) (same_hd sA hd1) upd_same ((same_hd s16 hd1).ne hl) ?_ (by show 0 < 18; decide) (by show 18 ≤ 40; decide) (av1.same sA)
        have i : ∀ z : Int, z.natAbs ≤ 1001 → (AD.int z).ok (3 * m + 2000) := fun z h => Nat.le_trans h (by omega)
        have st : ∀ z : Str, z.length ≤ 9 → (AD.str z).ok (3 * m + 2000) := fun z h => Nat.le_trans h (by omega)
        refine .cons .non (Nat.zero_le _) trivial (.cons (.bl _) (Nat.zero_le _) trivial (.cons (.bl _) (Nat.zero_le _) trivial (.cons (.int _) (Nat.zero_le _) (i _ (by decide)) (.cons (.int _) (Nat.zero_le _) (i _ (by decide)) (.cons (.int _) (Nat.zero_le _) (i _ (by decide)) (.cons (.int _) (Nat.zero_le _) (i _ (by decide)) (.cons (.int _) (Nat.zero_le _) (i _ (by decide))
          (.cons (.str _) (Nat.zero_le _) (st _ (by decide +kernel)) (.cons (.str _) (Nat.zero_le _) (st _ (by decide +kernel)) (.cons (.str _) (Nat.zero_le _) (st _ (by decide +kernel)) (.cons (.str _) (Nat.zero_le _) (st _ (by decide +kernel)) (.cons (.str _) (Nat.zero_le _) (st _ (by decide +kernel)) ?_))))))))))))
        have n1 : (AD.tup []).deep ≤ n + 2 := by show 0 + 1 ≤ n + 2; omega
        have n2 : (AD.tup [.str "a"]).deep ≤ n + 2 := by rw [one_deep]; show 0 + 1 ≤ n + 2; omega
        have n3 : (AD.tup [.tup []]).deep ≤ n + 2 := by rw [one_deep]; show 0 + 1 + 1 ≤ n + 2; omega
        refine .cons (.tup (same_t (s2.trans (s3.trans (s4.trans (s5.trans (s6.trans s7))))) (SqT.of upd_same)) .nil) n1 ⟨Nat.zero_le _, trivial⟩
          (.cons (.tup (same_t (s3.trans (s4.trans (s5.trans (s6.trans s7)))) (SqT.of upd_same)) (.cons (.str "a") .nil)) n2 ⟨by show 1 ≤ 3 * m + 2000; omega, st _ (by decide +kernel), trivial⟩
          (.cons (.lst ((s4.trans (s5.trans (s6.trans s7))).seq (SqL.of upd_same))) (Nat.zero_le _) trivial
          (.cons (.dct ((s5.trans (s6.trans s7)) _ _ upd_same)) (Nat.zero_le _) trivial
          (.cons (.tup (same_t s7 (SqT.of upd_same)) (.cons (.tup (same_t (s6.trans s7) (SqT.of upd_same)) .nil) .nil)) n3 ⟨by show 1 ≤ 3 * m + 2000; omega, ⟨Nat.zero_le _, trivial⟩, trivial⟩ .nil))))
      -- the first if
      refine ⟨_, pss_cons (ps_if (PW.pt (pw_and (pt_val (pe_callB call_isi (by rfl) T.isi (by decide +kernel) (pa_cons (pv 1) (pa_cons (pe_bltn (v := .ty "tuple") (by rfl) T.tup (by decide +kernel) rfl) pa_nil))))
            (pw_and (pt_cmpR (op_ne_nil hr.units0) (pv 1) (pe_tup pa_nil) (nomark _)) (pw_and1 (pt_cmpR op_gt (pe_call GT hr (by rfl) T.gT T.T.kp T.bT .nil pass0 (pa_cons (pv 0) (pa_cons pe_int pa_nil))) pe_int (nomark _))))))
          (pss_cons (ps_set (i := 2) scBent.nd rfl (.inl rfl) (pe_call GT hr (by rfl) T.gT T.T.kp T.bT .nil pass0 (pa_cons (pv 0) (pa_cons (pe_callB call_len (by rfl) T.len PySem.boot_len (pa_cons (pv 1) pa_nil)) pa_nil))))
          (pss_one (ps_ret (pe_op op_catA (pe_op op_catA (pe_slice sl_tupA (pv 1) po_none (po_some (pv 2))) (pe_tup (pa_cons (pe_call GB hr (by rfl) T.gB T.B.kp T.bB .nil pass0 (pa_cons (pv 0) (pa_cons (pe_ix ix_tup (pv 1) (pv 2) (fun _ _ => rfl)) pa_nil))) pa_nil))) (pe_slice sl_tupA (pv 1) (po_some (pe_op op_add (pv 2) pe_int)) po_none)))))
          pss_nil) h1, ?_⟩
      have b0 := But.refl a H
      have hd0 := hh.up (show t ≤ t + 1 by omega)
      cases av with
      | non => exact ⟨_, rfl, _, _, _, _, _, rfl, .ty "tuple", (Kd.non (K := K) (H := H)).ty, kit_ty (Kd.non (K := K) (H := H)).ktup, _, rfl, iteF (iteF (e1 none none H b0 hd0 .non))⟩
      | bl b => exact ⟨_, rfl, _, _, _, _, _, rfl, .ty "tuple", (Kd.bl (K := K) (H := H) b).ty, kit_ty (Kd.bl (K := K) (H := H) b).ktup, _, rfl, iteF (iteF (e1 none none H b0 hd0 (.bl b)))⟩
      | int i => exact ⟨_, rfl, _, _, _, _, _, rfl, .ty "tuple", (Kd.int (K := K) (H := H) i).ty, kit_ty (Kd.int (K := K) (H := H) i).ktup, _, rfl, iteF (iteF (e1 none none H b0 hd0 (.int i)))⟩
      | str z => exact ⟨_, rfl, _, _, _, _, _, rfl, .ty "tuple", (Kd.str (K := K) (H := H) z).ty, kit_ty (Kd.str (K := K) (H := H) z).ktup, _, rfl, iteF (iteF (e1 none none H b0 hd0 (.str z)))⟩
      | lst h => exact ⟨_, rfl, _, _, _, _, _, rfl, .ty "tuple", (Kd.lst h).ty, kit_ty (Kd.lst h).ktup, _, rfl, iteF (iteF (e1 none none H b0 hd0 (.lst h)))⟩
      | dct h => exact ⟨_, rfl, _, _, _, _, _, rfl, .ty "tuple", (Kd.dct (K := K) h).ty, kit_ty (Kd.dct (K := K) h).ktup, _, rfl, iteF (iteF (e1 none none H b0 hd0 (.dct h)))⟩
      | @tup b ys ds h r =>
        refine ⟨_, rfl, _, _, _, _, _, rfl, .ty "tuple", (Kd.tup h).ty, kit_ty (Kd.tup h).ktup, _, rfl, iteT ?_⟩
        refine ⟨.ref b, rfl, Nat.zero_le _, fun p hp => ?_⟩
        have s1 : Same H (upd H p (.tup [])) := same_new hp
        refine ⟨b, p, ys, rfl, rfl, same_t s1 h, SqT.of upd_same, _, rfl, ?_⟩
        have b1 := same_but (a := a) s1
        have hd1 := same_hd s1 hh
        have av1 := Av.same s1 (Av.tup h r)
        have hq1 := same_t s1 h
        generalize upd H p (.tup []) = H1 at b1 hd1 av1 hq1 s1 ⊢
        by_cases hy : ys = []
        · subst hy
          exact iteF (iteF (e1 none none H1 b1 (hd1.up (by omega)) av1))
        · have e0 : (!ys.isEmpty) = true := by
            cases ys with
            | nil => exact absurd rfl hy
            | cons _ _ => rfl
          rw [e0]
          refine iteT ?_
          refine ⟨.ref a, rfl, a, t, 4, rfl, hd1, by omega, by decide, by decide, fun H2 v2 sb2 hd2 _ _ => ?_⟩
          refine ⟨_, _, rfl, rfl, _, rfl, ite2 (fun h1 => ?_) (fun h1 => ?_)⟩
          · have okt : ds.length ≤ m ∧ AD.okAll m ds := ok
            have lys : ys.length ≤ m := by rw [r.len]; exact okt.1
            have l0 : 0 < ys.length := List.length_pos_iff.mpr hy
            have dpt : AD.deepAll ds + 1 < n + 1 := dp
            have dpe : ∀ d ∈ ds, d.deep ≤ AD.deepAll ds := deepAll_le.mp (Nat.le_refl _)
            have oke := okAll_iff.mp okt.2
            have h2 := but_t sb2 hd1 hq1
            refine ⟨.ref a, rfl, .ref b, rfl, _, ys.length, rfl, .inr ⟨_, h2, rfl⟩, a, t + 1, _, rfl, hd2, by omega, by omega, by omega, fun H3 v3 sb3 hd3 v0 v1 => ?_⟩
            obtain ⟨at', rfl⟩ := Int.eq_ofNat_of_zero_le v0
            have hat : at' < ys.length := by omega
            have h3 := but_t sb3 hd2 h2
            have gy : ys[at']? = some ys[at'] := List.getElem?_eq_getElem hat
            obtain ⟨de, gd, ave⟩ := r.get gy
            have dem := List.mem_of_getElem? gd
            refine ⟨.ref b, rfl, _, rfl, at', rfl, ?_⟩
            dsimp only
            refine slV_to h3 fun H4 p4 s4 e4' => ?_
            have b04 : But a H H4 := (b1.trans sb2).trans (sb3.trans (same_but s4))
            have hd4 := same_hd s4 hd3
            refine ⟨.ref a, rfl, .ref b, rfl, _, rfl, b, ys, at', _, rfl, rfl, same_t s4 h3, atI_nat gy, a, _, t + 2, m, de, rfl, hd4, by omega, ave.but b04 hh hd4, ?_, oke de dem, hm, fun H5 y5 d5 sb5 hd5 av5 dp5 ok5 => ?_⟩
            · have := dpe de dem
              omega
            refine ⟨(by show 1 ≤ sizeLine; decide), fun t6 ht6 => ?_⟩
            have s6 := same_new ht6 (o := .tup [y5])
            dsimp only
            refine catV_of (same_t s6 (but_t sb5 hd4 e4')) (SqT.of upd_same) (szM (by rw [List.length_take]; show _ + 1 ≤ _; omega)) fun H7 p7 s7 e7' => ?_
            have h5 := but_t sb5 hd4 (same_t s4 h3)
            refine ⟨.ref b, rfl, _, rfl, _, 1, rfl, rfl, ((at' + 1 : Nat) : Int), rfl, ?_⟩
            dsimp only [tNoPart]
            refine slV_from (same_t (s6.trans s7) h5) fun H8 p8 s8 e8' => ?_
            refine catV_of (same_t s8 e7') e8' (szM (by rw [List.length_append, List.length_take, List.length_drop]; show _ + 1 + _ ≤ _; omega)) fun H9 p9 s9 e9' => ?_
            have s59 := s6.trans (s7.trans (s8.trans s9))
            have b09 : But a H H9 := (b04.trans sb5).trans (same_but s59)
            have hd9 := same_hd s59 hd5
            have r9 := r.but b09 hh hd9
            refine q H9 (.ref p9) (.tup (ds.take at' ++ [d5] ++ ds.drop (at' + 1))) b09 (hd9.up (by omega)) (.tup e9' (((r9.take at').append (.cons (av5.same s59) .nil)).append (r9.drop (at' + 1)))) ?_ ?_
            · show AD.deepAll _ + 1 ≤ n + 1 + 1
              have : AD.deepAll (ds.take at' ++ [d5] ++ ds.drop (at' + 1)) ≤ n + 1 := deepAll_le.mpr fun e he => by
                rcases List.mem_append.mp he with he | he
                · rcases List.mem_append.mp he with he | he
                  · have := dpe e (List.mem_of_mem_take he)
                    omega
                  · rw [List.mem_singleton.mp he]
                    exact dp5
                · have := dpe e (List.mem_of_mem_drop he)
                  omega
              omega
            · refine ⟨?_, okAll_iff.mpr fun e he => ?_⟩
              · rw [List.length_append, List.length_append, List.length_take, List.length_drop]
                show _ + 1 + _ ≤ _
                omega
              · rcases List.mem_append.mp he with he | he
                · rcases List.mem_append.mp he with he | he
                  · exact (oke e (List.mem_of_mem_take he)).up (by omega)
                  · rw [List.mem_singleton.mp he]
                    exact ok5
                · exact (oke e (List.mem_of_mem_drop he)).up (by omega)
          · exact e1 none none H2 (b1.trans sb2) hd2 (av1.but sb2 hd1 hd2)
end
end M
namespace M
open PySem PySem.Spec PyProof.Rows L2 Gd RZ
/-- a walk over a tuple, whatever a turn asks -/
theorem walk_tup {K : PySem.W.Frag} {a : Addr} {xs : List V} {Qd : Hp → Prop} {Step : V → Hp → (Hp → Prop) → Prop} {H0 : Hp} (Pv : Nat → Hp → Prop) (h0 : Pv 0 H0) (hl : ∀ i H, i ≤ xs.length → Pv i H → SqT K H a xs)
    (hs : ∀ i x H, xs[i]? = some x → Pv i H → Step x H (Pv (i + 1))) (hd : ∀ H, Pv xs.length H → Qd H) :
    ∃ W : Nat → Nat → Hp → Prop, (∃ m, W 0 m H0) ∧ ∀ i m H, W i m H → ((Itt K a).stop i H ∧ Qd H) ∨ ((Itt K a).go i H ∧ ∃ Nx : Hp → Prop, (∀ H', Nx H' → ∃ m', m' < m ∧ W (i + 1) m' H') ∧ ∀ x H', (Itt K a).yld i H x H' → Step x H' Nx) := by
  refine ⟨fun i m H => (m + i = xs.length) ∧ Pv i H, ⟨xs.length, rfl, h0⟩, fun i m H h => ?_⟩
  obtain ⟨em, p⟩ := h
  have sq := hl i H (by omega) p
  rcases Nat.lt_or_ge i xs.length with lt | ge
  · refine Or.inr ⟨⟨xs, xs[i], sq, List.getElem?_eq_getElem lt⟩, Pv (i + 1), fun H' p' => ⟨m - 1, by omega, by omega, p'⟩, ?_⟩
    rintro x H' ⟨rfl, y⟩
    exact hs i x H' (y xs sq) p
  · have ei : i = xs.length := by omega
    rw [ei] at p
    exact Or.inl ⟨⟨xs, sq, by omega⟩, hd H p⟩
/-- a walk over two tuples at once, up to the end of the shorter -/
theorem walk_zip {K : PySem.W.Frag} {a b : Addr} {xs ys : List V} {n : Nat} {Qd : Hp → Prop} {Step : V → Hp → (Hp → Prop) → Prop} {H0 : Hp} (hn : n = min xs.length ys.length) (Pv : Nat → Hp → Prop) (h0 : Pv 0 H0) (hl : ∀ i H, Pv i H → SqT K H a xs ∧ SqT K H b ys)
    (hs : ∀ i x y H t, xs[i]? = some x → ys[i]? = some y → Pv i H → H t = none → Step (.ref t) (upd H t (.tup [x, y])) (Pv (i + 1))) (hd : ∀ H, Pv n H → Qd H) :
    ∃ W : Nat → Nat → Hp → Prop, (∃ m, W 0 m H0) ∧ ∀ i m H, W i m H → ((ItzT K a b).stop i H ∧ Qd H) ∨ ((ItzT K a b).go i H ∧ ∃ Nx : Hp → Prop, (∀ H', Nx H' → ∃ m', m' < m ∧ W (i + 1) m' H') ∧ ∀ x H', (ItzT K a b).yld i H x H' → Step x H' Nx) := by
  refine ⟨fun i m H => (m + i = n) ∧ Pv i H, ⟨n, rfl, h0⟩, fun i m H h => ?_⟩
  obtain ⟨em, p⟩ := h
  obtain ⟨sa, sb⟩ := hl i H p
  rcases Nat.lt_or_ge i n with lt | ge
  · have l1 : i < xs.length := by omega
    have l2 : i < ys.length := by omega
    refine Or.inr ⟨⟨xs, ys, xs[i], ys[i], sa, sb, List.getElem?_eq_getElem l1, List.getElem?_eq_getElem l2⟩, Pv (i + 1), fun H' p' => ⟨m - 1, by omega, by omega, p'⟩, ?_⟩
    rintro v H' ⟨t, x, y, rfl, ht, rfl, h1, h2⟩
    exact hs i x y H t (h1 xs sa) (h2 ys sb) p ht
  · have ei : i = n := by omega
    rw [ei] at p
    refine Or.inl ⟨⟨xs, ys, sa, sb, by omega⟩, hd H p⟩
theorem flat_take_le {α : Type} (l : List (List α)) (i : Nat) : (l.take i).flatten.length ≤ l.flatten.length := by
  have e : l.flatten = (l.take i).flatten ++ (l.drop i).flatten := by
    rw [← List.flatten_append, List.take_append_drop]
  rw [e, List.length_append]
  exact Nat.le_add_right _ _
theorem VsAt.item {K : PySem.W.Frag} {H : Hp} : ∀ {xs : List V} {vs : List (List Str)} {i : Nat} {x : V}, VsAt K H xs vs → xs[i]? = some x → ∃ a v, x = .ref a ∧ vs[i]? = some v ∧ SqT K H a (v.map V.str)
  | [], [], _, _, _, g => by simp at g
  | y :: _, u :: _, 0, x, ⟨⟨a, e, h⟩, _⟩, g => by
    have g : y = x := Option.some.inj g
    subst g
    exact ⟨a, u, e, rfl, h⟩
  | _ :: xs, _ :: vs, i + 1, x, ⟨_, r⟩, g => VsAt.item (i := i) r g
end M
namespace M
open PySem PySem.Spec PyProof.Rows L2 Gd
/-! ### len(set(t)), t a tuple of texts -/
/-- how many different texts there are, some seen before -/
def dcount : List Str → List Str → Nat
  | _, [] => 0
  | seen, x :: xs => (if seen.contains x = true then 0 else 1) + dcount (seen ++ [x]) xs
theorem dcount_le : ∀ (xs seen : List Str), dcount seen xs ≤ xs.length
  | [], _ => Nat.le_refl _
  | x :: xs, seen => by
    have h := dcount_le xs (seen ++ [x])
    show (if seen.contains x = true then 0 else 1) + dcount (seen ++ [x]) xs ≤ xs.length + 1
    split <;> omega
theorem dcount_snoc : ∀ (xs seen : List Str) (y : Str), dcount seen (xs ++ [y]) = dcount seen xs + (if (seen ++ xs).contains y = true then 0 else 1)
  | [], seen, y => by
    show (if seen.contains y = true then 0 else 1) + 0 = 0 + _
    rw [List.append_nil, Nat.zero_add, Nat.add_zero]
  | x :: xs, seen, y => by
    show (if seen.contains x = true then 0 else 1) + dcount (seen ++ [x]) (xs ++ [y]) = (if seen.contains x = true then 0 else 1) + dcount (seen ++ [x]) xs + _
    rw [dcount_snoc xs (seen ++ [x]) y, List.append_assoc]
    show _ = _ + (if (seen ++ ([x] ++ xs)).contains y = true then 0 else 1)
    omega
theorem dcount_iff : ∀ (xs seen : List Str), dcount seen xs = xs.length ↔ xs.Nodup ∧ ∀ x ∈ xs, x ∉ seen
  | [], _ => ⟨fun _ => ⟨List.nodup_nil, fun x hx => (nomatch hx)⟩, fun _ => rfl⟩
  | x :: xs, seen => by
    have h := dcount_iff xs (seen ++ [x])
    have l := dcount_le xs (seen ++ [x])
    show (if seen.contains x = true then 0 else 1) + dcount (seen ++ [x]) xs = xs.length + 1 ↔ _
    rw [List.nodup_cons, List.forall_mem_cons]
    constructor
    · intro e
      split at e
      · omega
      · rename_i n
        have n : x ∉ seen := fun z => n (List.contains_iff_mem.mpr z)
        obtain ⟨h1, h2⟩ := h.mp (by omega)
        refine ⟨⟨fun z => ?_, h1⟩, n, fun y hy z => h2 y hy (List.mem_append_left _ z)⟩
        exact h2 x z (List.mem_append_right _ (List.mem_singleton.mpr rfl))
    · rintro ⟨⟨h1, h2⟩, h3, h4⟩
      rw [if_neg (fun z => h3 (List.contains_iff_mem.mp z))]
      rw [h.mpr ⟨h2, fun y hy z => ?_⟩]
      · omega
      · rcases List.mem_append.mp z with z | z
        · exact h4 y hy z
        · rw [List.mem_singleton.mp z] at hy
          exact h1 hy
theorem dcount_all (xs : List Str) : decide (dcount [] xs = xs.length) = decide xs.Nodup := by
  rw [decide_eq_decide, dcount_iff]
  exact ⟨fun h => h.1, fun h => ⟨h, fun x _ z => (nomatch z)⟩⟩
section
variable {prog : Program} {w : World} {A : Around} {R : Result → Shared → Prop} {I : Addr} {fp wr : List Addr} {G : Array GenState → Array GenState → Prop} {n : Nat} {P : Nat → Value → Prop} {St : Nat → Shared → Prop}
theorem any_contains (l : List Str) (y : Str) : (l.any fun x => x == y) = l.contains y := by
  rw [Bool.eq_iff_iff, List.any_eq_true, List.contains_iff_mem]
  exact ⟨fun ⟨x, hx, e⟩ => by rw [← beq_iff_eq.mp e]; exact hx, fun h => ⟨y, h, beq_self_eq_true y⟩⟩
theorem loop_txt (W : WalksS prog w A.in1 I fp wr G n P St) (S : Addr) (hSf : S ∉ fp) (xs : List Str) (hsz : xs.length = n) (hb : n + 1 < scanBound)
    (hval : ∀ i v, P i v → ∃ t, v = .str (xs.getD i Str.empty) t) :
    ∀ (k i : Nat) (s : Shared), n - i = k → i ≤ n → St i s →
      s.heap.SetOf (PySem.strKind prog w) S (fun k' => (xs.take i).any (· == k')) (dcount [] (xs.take i)) →
      (∀ s', Moved (S :: wr) G s s' → s'.heap.SetOf (PySem.strKind prog w) S (fun k' => xs.any (· == k')) (dcount [] xs) → R (.ok (.ret .none)) s') →
      codeAny (model prog w) A (.builtin "set.update.loop" ⟨[.ref S, .ref I], []⟩) R s := by
  have hSw : S ∉ wr := fun h => hSf (W.sub _ h)
  have hsub : ∀ b ∈ wr, b ∈ S :: wr := fun b hb => List.mem_cons_of_mem _ hb
  intro k
  induction k with
  | zero =>
    intro i s hk hi hst hS hR
    have hin : i = n := by omega
    have et : xs.take i = xs := List.take_of_length_le (by omega)
    rw [et] at hS
    subst hin
    refine codeAny_builtin PyProof.Rows.F.entry_set_update_loop ?_
    rw [Around.under_plainId PyProof.Rows.F.plain_set_update_loop _]
    show wpAny _ A.in1 (pyNext (.ref I) >>= _) _ _ s
    refine wpAny_bind (W.done s _ _ hst fun s' hm => ?_)
    show wpAny _ A.in1 (ret Value.none) _ _ s'
    exact wpAny_pure (hR s' (hm.mono hsub) (by
      obtain ⟨o, es, ep, t, ho, rest⟩ := hS
      exact ⟨o, es, ep, t, hm.heap S _ hSw ho, rest⟩))
  | succ k ih =>
    intro i s hk hi hst hS hR
    have hlt : i < n := by omega
    refine codeAny_builtin PyProof.Rows.F.entry_set_update_loop ?_
    rw [Around.under_plainId PyProof.Rows.F.plain_set_update_loop _]
    show wpAny _ A.in1 (pyNext (.ref I) >>= _) _ _ s
    refine wpAny_bind (W.item i s _ _ hlt hst fun v s' hP hst' hm => ?_)
    obtain ⟨t, rfl⟩ := hval i v hP
    have hS' : s'.heap.SetOf (PySem.strKind prog w) S (fun k' => (xs.take i).any (· == k')) (dcount [] (xs.take i)) := by
      obtain ⟨o, es, ep, tb, ho, rest⟩ := hS
      exact ⟨o, es, ep, tb, hm.heap S _ hSw ho, rest⟩
    have hg : xs[i]? = some (xs.getD i Str.empty) := by
      rw [List.getD_eq_getElem?_getD, List.getElem?_eq_getElem (show i < xs.length by omega)]
      rfl
    generalize xs.getD i Str.empty = y at hg ⊢
    have et : xs.take (i + 1) = xs.take i ++ [y] := by
      rw [List.take_add_one, hg]
      rfl
    show wpAny _ A.in1 (holding [Value.str y t] (setAdd S (.str y t)) >>= _) _ _ s'
    refine wpAny_bind (wpAny_holding ?_)
    unfold setAdd
    refine wpAny_holding ?_
    refine wpAny_bind ((PySem.strKind prog w).pyHash (k := y) (strKind_is _ _ _ _) ?_)
    refine wpAny_setAddHashed_of (knd := PySem.strKind prog w) (s := { s' with toks := s'.toks + 1 }) (strKind_is _ _ _ _) rfl hS' (by
      have := dcount_le (xs.take i) []
      rw [List.length_take] at this
      omega) fun h' hsb hS2 => ?_
    have hSi : h'.SetOf (PySem.strKind prog w) S (fun k' => (xs.take (i + 1)).any (· == k')) (dcount [] (xs.take (i + 1))) := by
      refine SetOf_congr hS2 (fun k' => ?_) ?_
      · show ((xs.take i).any (· == k') || decide (k' = y)) = (xs.take (i + 1)).any (· == k')
        rw [et, List.any_append]
        congr 1
        show decide (k' = y) = ((y == k') || false)
        rw [Bool.or_false, Bool.eq_iff_iff, decide_eq_true_eq, beq_iff_eq]
        exact eq_comm
      · rw [et, dcount_snoc, List.nil_append]
        show (if ((xs.take i).any fun x => x == y) = true then _ else _) = _
        rw [any_contains]
        split <;> omega
    refine wpAny_pure ⟨plainId_quiet PyProof.Rows.F.plain_set_update_loop _, ih (i + 1) _ (by omega) hlt (W.frame _ s' _ _ hst' (Nat.le_succ _) fun b hb o e => ?_) hSi fun s'' hm'' hS'' => ?_⟩
    · rw [hsb.2 b (fun h : b = S => hSf (by rw [← h]; exact hb))]; exact e
    · refine hR s'' (Moved.trans W.gtrans ((hm.mono hsub).then_heap (Nat.le_succ _) fun b o hb e => ?_) hm'') hS''
      rw [hsb.2 b (fun h : b = S => hb (by rw [h]; exact List.mem_cons_self))]; exact e
end
section
variable {prog : Program} {w : World} {A : Around} {E : Value → Shared → Prop} {s : Shared}
set_option maxHeartbeats 3200000 in
theorem call_set_txt {l : Addr} {items : Array Value} {xs : List Str} {Q : Value → Shared → Prop}
    (hh : A.handled = none) (hl : s.heap.IsTuple l items) (hi : PyProof.Rows.StrsAre items.toList xs) (hb : xs.length + 1 < scanBound)
    (h : ∀ (h' : Heap) (tk : Nat), h'.SetOf (PySem.strKind prog w) s.heap.objs.size (fun k' => xs.any (· == k')) (dcount [] xs) →
      (∀ b o, s.heap.get? b = some o → h'.get? b = some o) → Q (.ref s.heap.objs.size) { s with heap := h', toks := tk }) :
    wpAny (model prog w) A (call (.type "set") [.ref l]) Q E s := by
  obtain ⟨c, tl, hmro⟩ := PySem.F.called_set.mro
  have hmade := PySem.F.called_set.made
  have hsub := PySem.F.called_set.sub
  refine wpAny_call (codeAny_of_tree ?_)
  show wpAny _ _ (callAny (.type "set") _) _ _ _
  refine wpAny_pure ⟨Code.quiet_builtin _ (by decide +kernel), codeAny_builtin PySem.F.entry_type_call ?_⟩
  rw [Around.under_plain (weight_type_call_type "set" [.ref l] []) rfl]
  have h1 := PySem.F.called_set.notType
  have h2 := PySem.F.called_set.canCreate
  have hct := PySem.F.typeCall_set_1 (.ref l)
  repeat (any_goals (first | assumption | wp_step))
  refine codeAny_mono (code_set_led1 (.ref l) (E := E) (Q₁ := fun obj s₁ => ∃ led : Bool, obj = .ref s.heap.objs.size ∧ s₁ = { s with heap := s.heap.push { cls := .type "set", dict := none, data := .set #[] 0 (.fresh 0 0 led) } }) ⟨_, rfl, rfl⟩) fun r s₁ hr => ?_
  cases r with
  | error e => exact hr
  | ok fl =>
    cases fl with
    | ret obj =>
      obtain ⟨led, rfl, rfl⟩ := hr
      have hS : (s.heap.push { cls := .type "set", dict := none, data := .set #[] 0 (.fresh 0 0 led) }).get? s.heap.objs.size = some { cls := .type "set", dict := none, data := .set #[] 0 (.fresh 0 0 led) } := Heap.get?_push_size _ rfl
      have hT : Shared.TypeIs { s with heap := s.heap.push { cls := .type "set", dict := none, data := .set #[] 0 (.fresh 0 0 led) } } (.ref s.heap.objs.size) "set" := ⟨_, hS, rfl⟩
      have hli := PySem.F.called_set.init.lookup
      have hbi := PySem.F.called_set.init.bind (.ref s.heap.objs.size)
      repeat (any_goals (first | assumption | wp_step))
      refine codeAny_mono (codeAny_call_builtin (R := wants (fun r s₂ => r = .none ∧ ∃ h' tk, s₂ = { s with heap := h', toks := tk } ∧
          h'.SetOf (PySem.strKind prog w) s.heap.objs.size (fun k' => xs.any (· == k')) (dcount [] xs) ∧
          (∀ b o, s.heap.get? b = some o → h'.get? b = some o)) E) PySem.F.called_set.init.plain PySem.F.entry_set_init (check_set_init_1 hT ?_)) fun r₂ s₂ hr₂ => ?_
      · obtain ⟨ol, hol, hcl, nl, hdl⟩ := hl
        obtain ⟨ocls, odict, odata, oslots⟩ := ol
        simp only at hcl hdl
        subst hcl; subst hdl
        have hol' : (s.heap.push { cls := .type "set", dict := none, data := .set #[] 0 (.fresh 0 0 led) }).get? l = some { cls := .type "tuple", dict := odict, data := .seq items nl, slots := oslots } := Heap.get?_push_of_some _ hol
        have hsls := PySem.F.sub_tuple_set
        have hslf := PySem.F.sub_tuple_frozenset
        have hne : (Value.type "tuple" == Value.type "dict") = false := by decide
        have hl1 : (s.heap.push { cls := .type "set", dict := none, data := .set #[] 0 (.fresh 0 0 led) }).IsTuple l items := ⟨_, hol', rfl, nl, rfl⟩
        unfold Builtin.«set.__init__» noKeywords Builtin.Frozenset.updateFrom
        generalize hPI : pyIter = PI
        wp_walk
        subst hPI
        refine wpAny_pyIter_tuple hl1 ?_
        refine wpAny_bind (wpAny_runValue ?_)
        have hlS : l < s.heap.objs.size := Heap.lt_size hol
        have hh3 : A.in1.in1.in1.handled = none := by simp [hh]
        have hneI : l ≠ (s.heap.push { cls := .type "set", dict := none, data := .set #[] 0 (.fresh 0 0 led) }).objs.size := by
          rw [Heap.size_push]; exact Nat.ne_of_lt (Nat.lt_succ_of_lt hlS)
        have hSf : s.heap.objs.size ∉ [(s.heap.push { cls := .type "set", dict := none, data := .set #[] 0 (.fresh 0 0 led) }).objs.size, l] := by
          rw [Heap.size_push]; simp only [List.mem_cons, List.mem_singleton, List.not_mem_nil, or_false, not_or]
          exact ⟨Nat.ne_of_lt (Nat.lt_succ_self _), Nat.ne_of_gt hlS⟩
        have hsz : xs.length = items.size := by rw [← StrsAre.len_eq hi, Array.length_toList]
        have hval : ∀ (i : Nat) (v : Value), items[i]? = some v → ∃ t, v = .str (xs.getD i Str.empty) t := fun i v hv => SS.strs_at hi i v (by rw [Array.getElem?_toList]; exact hv)
        refine loop_txt ((Walks.tuple hh3 _ l hneI items).toS) s.heap.objs.size
          hSf xs hsz (by rw [← hsz]; exact hb) hval (items.size - 0) 0 _ (by omega) (Nat.zero_le _)
          ⟨⟨_, Heap.get?_push_size _ rfl, rfl, rfl⟩, (hl1.push _)⟩ ?hS0 ?hR
        case hS0 =>
          have hget : ((s.heap.push { cls := .type "set", dict := none, data := .set #[] 0 (.fresh 0 0 led) }).push { cls := .type "tuple_iterator", data := .fields #[.ref l, .int 0 0] }).get? s.heap.objs.size
              = some { cls := .type "set", dict := none, data := .set #[] 0 (.fresh 0 0 led) } := Heap.get?_push_of_some _ hS
          exact PyProof.Rows.SetOf_congr ((PyProof.Rows.setObjOf_fresh (knd := PySem.strKind prog w) led).setOf hget (by unfold scanBound; omega)) (fun _ => rfl) rfl
        case hR =>
          intro s' hm hS'
          obtain ⟨h', g', d', tk', os'⟩ := s'
          have eg : g' = s.gens := hm.gens
          have ed : d' = s.drawn := hm.drawn
          have eo : os' = s.os := hm.os
          subst eg; subst ed; subst eo
          show wpAny _ _ _ _ _ _
          refine wpAny_pure ?_
          show wpAny _ _ (ret Value.none) _ _ _
          refine wpAny_pure ⟨rfl, h', tk', rfl, hS', fun b o e => ?_⟩
          have hb0 : b < s.heap.objs.size := Heap.lt_size e
          have hb1 : b ≠ s.heap.objs.size := Nat.ne_of_lt hb0
          have hb2 : b ≠ (s.heap.push { cls := .type "set", dict := none, data := .set #[] 0 (.fresh 0 0 led) }).objs.size := by
            rw [Heap.size_push]; exact Nat.ne_of_lt (Nat.lt_succ_of_lt hb0)
          exact hm.heap b o (by simp only [List.mem_cons, List.mem_singleton, List.not_mem_nil, or_false, not_or]; exact ⟨hb1, hb2⟩) (Heap.get?_push_of_some _ (Heap.get?_push_of_some _ e))
      · cases r₂ with
        | error e => exact hr₂
        | ok fl₂ =>
          cases fl₂ with
          | ret r =>
            obtain ⟨rfl, h', tk, rfl, hS', hk'⟩ := hr₂
            repeat (any_goals (first | assumption | wp_step))
            exact h _ _ hS' hk'
          | _ => exact hr₂.elim
    | _ => exact hr.elim
end
section
variable {X : Cx}
/-- len(set(t)), t a tuple of texts -/
def tLenSetT (K : PySem.W.Frag) (ta : TE) : TE := fun σ H Q => ta σ H fun x H1 => ∃ l, ∃ xs : List Str, x = .ref l ∧ SqT K H1 l (xs.map V.str) ∧ xs.length ≤ 1000 ∧ Q (.int (dcount [] xs)) H1
theorem pe_lenSetT {a : Expr} {ta : TE} {p p2 q pos : Pos} (hc : X.calm = true) (hg : Gl X "len") (hm : X.mg "len" = none) (hg2 : Gl X "set") (hm2 : X.mg "set" = none) (ha : PE X a ta)
    (na : starEach [a] X.env = (false, eval a X.env) :: starEach [] X.env := by rfl) : PE X (.Call (.Name "len" p) [.Call (.Name "set" p2) [a] [] q] [] pos) (tLenSetT X.K ta) := by
  refine ⟨fun pins s σ H Q I h => ?_⟩
  refine Call_ (ld_blt I hg hm boot_len ?_)
  refine PyProof.Rows.callWith_builtin1 (PyProof.Rows.args_cons ?_ rfl) rfl rfl
  refine Call_ (ld_blt I hg2 hm2 boot_set ?_)
  refine PyProof.Rows.callWith_type1 (PyProof.Rows.args_cons (thn (ha.run pins s σ H _ I h) fun v s1 ⟨x, H1, I1, r1, q1⟩ => PyProof.Rows.args_nil ?_) na) na rfl
  obtain ⟨l, xs, rfl, hq, h1, q1⟩ := q1
  cases r1
  obtain ⟨its, r, pl, hz⟩ := I1.tuple hq
  refine call_set_txt (I1.ok.hd hc) pl (by simpa using strsAre_of r) (by show xs.length + 1 < 4096; omega) fun h' tk hS hk => ?_
  refine PyProof.Rows.args_nil ?_
  obtain ⟨o, es, ep, t, ho, hex, hd, _, _, _, hf, hn⟩ := hS
  have I2 : Inv X pins σ H1 { s1 with heap := h', toks := tk } := I1.kept fun b o e => hk b o e
  have dl := dcount_le xs []
  refine call_len_set ho hex hd hf (by rw [hn]; have : scanBound = 4096 := rfl; omega) ⟨.int (dcount [] xs), H1, I2.tok _, ⟨_, by rw [hn]⟩, q1⟩
end
end M
namespace M
open PySem PySem.Spec PyProof.Rows L2 Gd RZ
/-! ### versions, of trees -/
def rowD : AD → Bool
  | .str z => rowB (.str z)
  | _ => false
def strD : AD → Str
  | .str z => z
  | _ => ""
def strsD (ds : List AD) : List Str := ds.map strD
def verD : AD → Bool
  | .tup ds => decide (ds.length ≤ 24) && (ds.all rowD && decide (strsD ds).Nodup)
  | _ => false
theorem row_av {K : PySem.W.Frag} {H : Hp} {x : V} {d : AD} (h : Av K H x d) : rowB x = rowD d := by
  cases h <;> rfl
theorem rowD_str {d : AD} (h : rowD d = true) : d = .str (strD d) ∧ RowS (strD d) := by
  cases d with
  | str z => exact ⟨rfl, (rowB_iff z).mp h⟩
  | _ => exact absurd h Bool.false_ne_true
theorem rows_all {ds : List AD} (h : ds.all rowD = true) : ds = (strsD ds).map AD.str := by
  unfold strsD
  rw [List.map_map]
  have : ∀ d ∈ ds, rowD d = true := List.all_eq_true.mp h
  clear h
  induction ds with
  | nil => rfl
  | cons d ds ih =>
    rw [List.map_cons, ← ih fun e he => this e (List.mem_cons_of_mem _ he)]
    congr 1
    exact (rowD_str (this d List.mem_cons_self)).1
theorem av_strs {K : PySem.W.Frag} {H : Hp} : ∀ {xs : List V} {ns : List Str}, AvAll K H xs (ns.map AD.str) → xs = ns.map V.str
  | [], [], _ => rfl
  | x :: xs, n :: ns, .cons a r => by
    cases a
    rw [av_strs (ns := ns) r]
    rfl
theorem rows_vals {K : PySem.W.Frag} {H : Hp} {xs : List V} {ds : List AD} (r : AvAll K H xs ds) (h : ds.all rowD = true) : xs = (strsD ds).map V.str := by
  rw [rows_all h] at r
  exact av_strs r
theorem rows_row {ds : List AD} (h : ds.all rowD = true) : ∀ z ∈ strsD ds, RowS z := fun z hz => by
  obtain ⟨d, hd, rfl⟩ := List.mem_map.mp hz
  exact (rowD_str (List.all_eq_true.mp h d hd)).2
theorem strsD_len (ds : List AD) : (strsD ds).length = ds.length := List.length_map ..
theorem Av.small {K : PySem.W.Frag} {H : Hp} {x : V} {d : AD} {w : Nat} (h : Av K H x d) (ok : d.ok w) (hw : w ≤ 10000000) : ∀ z, x = .str z → z.length ≤ 10000000 := by
  intro z e
  subst e
  cases h
  exact Nat.le_trans ok hw
/-! ### is_version -/
abbrev sVer : Stmt := topS 5
abbrev nVer : List Str := ["value", "row"]
theorem scVer : FnScope nVer ["value"] (defScope sVer) := ⟨rfl, rfl, rfl, by decide +kernel, rfl, by decide +kernel, by decide +kernel⟩
def spVer (K : PySem.W.Frag) : Sp := fun vs H Q _ => ∃ (x : V) (d : AD) (w : Nat), vs = [x] ∧ Av K H x d ∧ d.ok w ∧ w ≤ 10000000 ∧ ∀ H', Same H H' → Q (.bl (verD d)) H'
section
variable {P : Program} {w : World} {K : PySem.W.Frag} {mg : Str → Option Value} {base : Heap}
theorem ok_ver {f fR : Addr} {fd fdR : FuncData} {k : Nat} {tk tk2 : Tok} (F : Fun K "is_version" "is_version" sVer f fd) (FR : Fun K "is_row" "is_row" sIsRow fR fdR) (bR : Binds K fdR ["value"] []) (gR : mg "is_row" = some (.ref fR))
    (mi : mg "isinstance" = none) (ms : mg "str" = none) (mt : mg "tuple" = none) (ml : mg "len" = none) (ma : mg "all" = none) (mset : mg "set" = none) (mL : mg "MOST_LETTERS" = some (.int 8 tk)) (mR : mg "MOST_ROWS" = some (.int 24 tk2)) : FnOk P w K mg base CX0 (k + 2) f fd ["value"] (spVer K) := by
  have GR : FnOk P w K mg base CX0 (k + 1) fR fdR ["value"] (spIsRow K) := ok_isrow FR mi ms ml ma mL
  refine F.ok scVer (fun vs H Q E h => ?_) (fun cdv A outer s H vs Q E hr h => ?_)
  · obtain ⟨x, d, w, rfl, _⟩ := h
    rfl
  · obtain ⟨x, d, w, rfl, av, ok, hw, q⟩ := h
    refine ⟨_, pss_cons (ps_if (PW.pt (pw_or (pt_not (pt_val (pe_callB call_isi (by rfl) mi (by decide +kernel) (pa_cons (pv 0) (pa_cons (pe_bltn (v := .ty "tuple") (by rfl) mt (by decide +kernel) rfl) pa_nil)))))
        (pw_or1 (pt_cmpR op_gt (pe_callB call_len (by rfl) ml PySem.boot_len (pa_cons (pv 0) pa_nil)) (pe_glob (v := .int 24) (by rfl) mR ⟨_, rfl⟩) (nomark _)))))
        (pss_one (ps_ret pe_bl)) pss_nil)
      (pss_one (ps_ret (pe_and (pe_callB (cr_all rfl) (by rfl) ma (by decide +kernel) (pa_cons (pe_lc (own := [("row", 1)]) (g := gName 1) (tt := tYes) (te := tCall (spIsRow K) [] E0 (tCons (tVar 1) tNil)) rfl scVer.nd (pi_tup (pv 0))
          (blkOk_by (own := [("row", 1)]) (N := nVer) (sc := defScope sVer) (by decide +kernel)) (fun _ _ _ _ _ => pg_name (i := 1) scVer.nd rfl (.inl rfl)) (fun _ _ _ _ _ => pts_nil) (fun _ _ _ _ _ => pe_call GR hr (by rfl) gR FR.kp bR .nil pass0 (pa_cons (pv 1) pa_nil))) pa_nil))
        (pe_one (pe_cmpR op_eq (pe_lenSetT rfl (by rfl) ml (by rfl) mset (pv 0)) (pe_callB call_len (by rfl) ml PySem.boot_len (pa_cons (pv 0) pa_nil)) (nomark _)))))), ?_⟩
    have qH := q H (Same.refl H)
    obtain ⟨T, kd, kt, _⟩ := av.kd2
    refine ⟨_, rfl, x, _, _, _, _, rfl, .ty "tuple", kd.ty, kit_ty kt, _, rfl, ?_⟩
    cases av with
    | non => exact iteT (iteT qH)
    | bl b => exact iteT (iteT qH)
    | int i => exact iteT (iteT qH)
    | str z => exact iteT (iteT qH)
    | lst hl => exact iteT (iteT qH)
    | dct hl => exact iteT (iteT qH)
    | @tup b ys ds hb r =>
      refine iteF ?_
      have okd : ds.length ≤ w ∧ AD.okAll w ds := ok
      have oke := okAll_iff.mp okd.2
      have ln := r.len
      have ev : verD (.tup ds) = (decide (ds.length ≤ 24) && (ds.all rowD && decide (strsD ds).Nodup)) := rfl
      refine ⟨_, rfl, _, ys.length, rfl, .inr ⟨_, hb, rfl⟩, _, _, rfl, rfl, _, rfl, ?_⟩
      by_cases h1 : ds.length ≤ 24
      · rw [decide_eq_false (show ¬ ((24 : Int) < (ys.length : Nat)) by omega)]
        refine iteF ?_
        rw [decide_eq_true h1, Bool.true_and] at ev
        refine ⟨.ref b, rfl, b, rfl, ⟨_, hb⟩, fun D hD => walk_tup (xs := ys) (fun i H' => Same H H' ∧ H' D = some (.lst (((ds.take i).map rowD).map V.bl))) ⟨same_new hD, upd_same⟩ (fun i H' _ hP => same_t hP.1 hb) (fun i x H' hx hP => ?_) (fun H' hP => ?_)⟩
        · obtain ⟨p1, p2⟩ := hP
          obtain ⟨dx, gx, ax⟩ := r.get hx
          have hi : i < ds.length := (List.getElem?_eq_some_iff.mp gx).1
          obtain ⟨T1, k1⟩ := (ax.same p1).kd
          refine ⟨rfl, lc_yes ?_⟩
          refine ⟨_, rfl, x, T1, rfl, k1, ax.small (oke dx (List.mem_of_getElem? gx)) hw, fun H2 s2 => ?_⟩
          refine ⟨_, s2 _ _ p2, ?_, same_own (p1.trans s2) hD, ?_⟩
          · rw [List.length_map, List.length_map, List.length_take]
            exact small1000 (by omega)
          · rw [upd_same, List.take_add_one, gx, List.map_append, List.map_append, row_av ax]
            rfl
        · obtain ⟨p1, p2⟩ := hP
          rw [ln, List.take_length] at p2
          refine ⟨D, _, rfl, SqL.of p2, _, rfl, ?_⟩
          rw [List.all_map]
          show if (ds.all rowD) = true then _ else _
          refine ite2 (fun ha => ?_) (fun ha => ?_)
          · rw [ha, Bool.true_and] at ev
            have ey := rows_vals r ha
            have hb' := same_t p1 hb
            refine ⟨.ref b, rfl, b, strsD ds, rfl, by rw [← ey]; exact hb', by rw [strsD_len]; omega, _, rfl, _, ys.length, rfl, .inr ⟨_, hb', rfl⟩, rfl, ?_⟩
            have z := q H' p1
            rw [ev, ← dcount_all] at z
            have e : decide (V.int (dcount [] (strsD ds) : Nat) = V.int (ys.length : Nat)) = decide (dcount [] (strsD ds) = (strsD ds).length) := by
              rw [decide_eq_decide, strsD_len, ← ln]
              exact ⟨fun y => by injection y with y; omega, fun y => by rw [y]⟩
            rw [e]
            exact z
          · rw [Bool.eq_false_iff.mpr ha, Bool.false_and] at ev
            have z := q H' p1
            rw [ev] at z
            exact z
      · rw [decide_eq_true (show ((24 : Int) < (ys.length : Nat)) by omega)]
        refine iteT ?_
        rw [decide_eq_false h1, Bool.false_and] at ev
        rw [ev] at qH
        exact qH
end
end M
namespace M
open PySem PySem.Spec PyProof.Rows L2 Gd
/-! ### dict([(x, True) for x in texts]) -/
def ent (r : Str) : Key × V := ((Sum.inr r : Key), V.bl true)
def ddL (acc ns : List Str) : List Str := ns.foldl (fun acc x => if acc.contains x = true then acc else acc ++ [x]) acc
theorem ddL_cons (acc : List Str) (x : Str) (ns : List Str) : ddL acc (x :: ns) = ddL (if acc.contains x = true then acc else acc ++ [x]) ns := rfl
theorem put_ent (l : List Str) (x : Str) : putK (l.map ent) (Sum.inr x) (.bl true) = (if l.contains x = true then l else l ++ [x]).map ent := by
  have a : ((l.map ent).any fun kv => decide (kv.1 = Sum.inr x)) = l.contains x := by
    rw [List.any_map, Bool.eq_iff_iff, List.any_eq_true, List.contains_iff_mem]
    constructor
    · rintro ⟨y, hy, e⟩
      have e : (Sum.inr y : Key) = Sum.inr x := of_decide_eq_true e
      rw [← Sum.inr.inj e]
      exact hy
    · intro h
      exact ⟨x, h, decide_eq_true rfl⟩
  unfold putK
  rw [a]
  split
  · conv => rhs; rw [← List.map_id (l.map ent)]
    refine List.map_congr_left fun kv hkv => ?_
    obtain ⟨y, _, rfl⟩ := List.mem_map.mp hkv
    split <;> rfl
  · rw [List.map_append]
    rfl
theorem merge_ent : ∀ (ns acc : List Str), mergeK (acc.map ent) (ns.map ent) = (ddL acc ns).map ent
  | [], _ => rfl
  | x :: ns, acc => by
    show mergeK (putK (acc.map ent) (Sum.inr x) (.bl true)) (ns.map ent) = _
    rw [put_ent, merge_ent ns, ddL_cons]
theorem ddL_mem : ∀ (ns acc : List Str) (y : Str), y ∈ ddL acc ns ↔ y ∈ acc ∨ y ∈ ns
  | [], acc, y => ⟨fun h => .inl h, fun h => h.elim id fun z => (nomatch z)⟩
  | x :: ns, acc, y => by
    rw [ddL_cons, ddL_mem ns]
    split
    · rename_i c
      have c := List.contains_iff_mem.mp c
      rw [List.mem_cons]
      exact ⟨fun h => h.elim .inl fun h => .inr (.inr h), fun h => h.elim .inl fun h => h.elim (fun e => .inl (by rw [e]; exact c)) .inr⟩
    · rw [List.mem_append, List.mem_singleton, List.mem_cons, or_assoc]
theorem ddL_nodup : ∀ (ns acc : List Str), acc.Nodup → (ddL acc ns).Nodup
  | [], _, h => h
  | x :: ns, acc, h => by
    rw [ddL_cons]
    refine ddL_nodup ns _ ?_
    split
    · exact h
    · rename_i c
      refine List.nodup_append.mpr ⟨h, List.nodup_cons.mpr ⟨fun z => (nomatch z), List.nodup_nil⟩, fun a ha b hb e => c (List.contains_iff_mem.mpr ?_)⟩
      rw [← List.mem_singleton.mp hb, ← e]
      exact ha
theorem ddL_len : ∀ (ns acc seen : List Str), (∀ y, acc.contains y = seen.contains y) → (ddL acc ns).length = acc.length + dcount seen ns
  | [], _, _, _ => rfl
  | x :: ns, acc, seen, h => by
    have hs : ∀ y, (seen ++ [x]).contains y = (seen.contains y || (x == y)) := fun y => by
      rw [List.contains_append]
      congr 1
      show (y == x || false) = (x == y)
      rw [Bool.or_false, Bool.eq_iff_iff, beq_iff_eq, beq_iff_eq]
      exact eq_comm
    rw [ddL_cons]
    show _ = acc.length + ((if seen.contains x = true then 0 else 1) + dcount (seen ++ [x]) ns)
    rw [h x]
    split
    · rename_i c
      rw [ddL_len ns acc (seen ++ [x]) fun y => ?_]
      · omega
      · rw [hs, ← h y]
        cases e : (x == y) with
        | false => rw [Bool.or_false]
        | true =>
          rw [← beq_iff_eq.mp e, h x, c]
          rfl
    · rw [ddL_len ns (acc ++ [x]) (seen ++ [x]) fun y => ?_]
      · rw [List.length_append, List.length_singleton]
        omega
      · rw [List.contains_append, List.contains_append, h y]
theorem ddL_count (ns : List Str) : (ddL [] ns).length = dcount [] ns := by
  rw [ddL_len ns [] [] fun _ => rfl, List.length_nil, Nat.zero_add]
def PairsAt (K : PySem.W.Frag) (H : Hp) (D : Addr) (ns : List Str) : Prop := ∃ ps : List Addr, H D = some (.lst (ps.map V.ref)) ∧ ps.length = ns.length ∧ Paired (fun p kv => SqT K H p [kV kv.1, kv.2]) ps (ns.map ent)
theorem paired_keep {α β : Type} {F G : α → β → Prop} (h : ∀ a b, F a b → G a b) : ∀ {l₁ : List α} {l₂ : List β}, Paired F l₁ l₂ → Paired G l₁ l₂
  | _, _, .nil => .nil
  | _, _, .cons x r => .cons (h _ _ x) (paired_keep h r)
theorem PairsAt.nil {K : PySem.W.Frag} {H : Hp} {D : Addr} (h : H D = some (.lst [])) : PairsAt K H D [] := ⟨[], h, rfl, .nil⟩
/-- a turn: a new pair, put behind -/
theorem PairsAt.step {K : PySem.W.Frag} {H : Hp} {D t : Addr} {ns : List Str} {y : Str} (h : PairsAt K H D ns) (ht : H t = none) : ∃ acc, (upd H t (.tup [.str y, .bl true])) D = some (.lst acc) ∧ acc.length = ns.length ∧
    PairsAt K (upd (upd H t (.tup [.str y, .bl true])) D (.lst (acc ++ [.ref t]))) D (ns ++ [y]) := by
  obtain ⟨ps, p2, p3, p4⟩ := h
  have e10 : (upd H t (.tup [.str y, .bl true])) D = some (.lst (ps.map V.ref)) := by
    rw [upd_ne (ne_of_none p2 ht)]
    exact p2
  refine ⟨ps.map V.ref, e10, by rw [List.length_map, p3], ps ++ [t], ?_, ?_, ?_⟩
  · rw [upd_same, List.map_append]
    rfl
  · rw [List.length_append, List.length_append, p3]
    rfl
  · rw [List.map_append]
    refine Paired.snoc ?_ (upd_t e10 (SqT.of upd_same))
    exact paired_keep (fun p kv x => upd_t e10 (same_t (same_new ht) x)) p4
theorem PairsAt.same {K : PySem.W.Frag} {H H' : Hp} {D : Addr} {ns : List Str} (s : Same H H') (h : PairsAt K H D ns) : PairsAt K H' D ns := by
  obtain ⟨ps, p2, p3, p4⟩ := h
  exact ⟨ps, s _ _ p2, p3, paired_keep (fun p kv x => same_t s x) p4⟩
end M
namespace M
open PySem PySem.Spec PyProof.Rows L2 Gd
/-! ### is_version of a law -/
abbrev sLVer : Stmt := topS 22
abbrev nLVer : List Str := ["_law_item", "_law_one"]
theorem scLVer : FnScope nLVer ["_law_item"] (defScope sLVer) := ⟨rfl, rfl, rfl, by decide +kernel, rfl, by decide +kernel, by decide +kernel⟩
section
variable {P : Program} {w : World} {K : PySem.W.Frag} {mg : Str → Option Value} {base : Heap}
theorem ok_lver {f fR : Addr} {fd fdR : FuncData} {k : Nat} (F : Fun K "_law_is_version" "_law_is_version" sLVer f fd) (FR : Fun K "_law_is_row" "_law_is_row" sLRow fR fdR) (bR : Binds K fdR ["_law_item"] []) (gR : mg "_law_is_row" = some (.ref fR))
    (mi : mg "isinstance" = none) (ms : mg "str" = none) (mt : mg "tuple" = none) (ml : mg "len" = none) (ma : mg "all" = none) (md : mg "dict" = none) : FnOk P w K mg base CX0 (k + 2) f fd ["_law_item"] (spVer K) := by
  have GR : FnOk P w K mg base CX0 (k + 1) fR fdR ["_law_item"] (spLRow K) := ok_lrow FR mi ms
  refine F.ok scLVer (fun vs H Q E h => ?_) (fun cdv A outer s H vs Q E hr h => ?_)
  · obtain ⟨x, d, w, rfl, _⟩ := h
    rfl
  · obtain ⟨x, d, w, rfl, av, ok, hw, q⟩ := h
    refine ⟨_, pss_cons (ps_if (PW.pt (pw_or (pt_not (pt_val (pe_callB call_isi (by rfl) mi (by decide +kernel) (pa_cons (pv 0) (pa_cons (pe_bltn (v := .ty "tuple") (by rfl) mt (by decide +kernel) rfl) pa_nil)))))
        (pw_or1 (pt_not (pt_val (pe_callB (cr_all rfl) (by rfl) ma (by decide +kernel) (pa_cons (pe_lc (own := [("_law_one", 1)]) (g := gName 1) (tt := tYes) (te := tCall (spLRow K) [] E0 (tCons (tVar 1) tNil)) rfl scLVer.nd (pi_tup (pv 0))
          (blkOk_by (own := [("_law_one", 1)]) (N := nLVer) (sc := defScope sLVer) (by decide +kernel)) (fun _ _ _ _ _ => pg_name (i := 1) scLVer.nd rfl (.inl rfl)) (fun _ _ _ _ _ => pts_nil) (fun _ _ _ _ _ => pe_call GR hr (by rfl) gR FR.kp bR .nil pass0 (pa_cons (pv 1) pa_nil))) pa_nil)))))))
        (pss_one (ps_ret pe_bl)) pss_nil)
      (pss_one (ps_ret (pe_and (pe_cmpR op_lt (pe_callB call_len (by rfl) ml PySem.boot_len (pa_cons (pv 0) pa_nil)) pe_int (nomark _))
        (pe_one (pe_cmpR op_eq (pe_callB call_lenD (by rfl) ml PySem.boot_len (pa_cons (pe_callTy (call_dictP rfl) (by rfl) md (by decide +kernel) (pa_cons (pe_lc (own := [("_law_one", 1)]) (g := gName 1) (tt := tYes) (te := tTup (tCons (tVar 1) (tCons (tC (.bl true)) tNil))) rfl scLVer.nd (pi_tup (pv 0))
          (blkOk_by (own := [("_law_one", 1)]) (N := nLVer) (sc := defScope sLVer) (by decide +kernel)) (fun _ _ _ _ _ => pg_name (i := 1) scLVer.nd rfl (.inl rfl)) (fun _ _ _ _ _ => pts_nil) (fun _ _ _ _ _ => pe_tup (pa_cons (pv 1) (pa_cons pe_bl pa_nil)))) pa_nil)) pa_nil)) (pe_callB call_len (by rfl) ml PySem.boot_len (pa_cons (pv 0) pa_nil)) (nomark _)))))), ?_⟩
    have qH := q H (Same.refl H)
    obtain ⟨T, kd, kt, _⟩ := av.kd2
    refine ⟨_, rfl, x, _, _, _, _, rfl, .ty "tuple", kd.ty, kit_ty kt, _, rfl, ?_⟩
    cases av with
    | non => exact iteT (iteT qH)
    | bl b => exact iteT (iteT qH)
    | int i => exact iteT (iteT qH)
    | str z => exact iteT (iteT qH)
    | lst hl => exact iteT (iteT qH)
    | dct hl => exact iteT (iteT qH)
    | @tup b ys ds hb r =>
      refine iteF ?_
      have okd : ds.length ≤ w ∧ AD.okAll w ds := ok
      have oke := okAll_iff.mp okd.2
      have ln := r.len
      have ev : verD (.tup ds) = (decide (ds.length ≤ 24) && (ds.all rowD && decide (strsD ds).Nodup)) := rfl
      refine ⟨.ref b, rfl, b, rfl, ⟨_, hb⟩, fun D hD => walk_tup (xs := ys) (fun i H' => Same H H' ∧ H' D = some (.lst (((ds.take i).map rowD).map V.bl))) ⟨same_new hD, upd_same⟩ (fun i H' _ hP => same_t hP.1 hb) (fun i x H' hx hP => ?_) (fun H' hP => ?_)⟩
      · obtain ⟨p1, p2⟩ := hP
        obtain ⟨dx, gx, ax⟩ := r.get hx
        have hi : i < ds.length := (List.getElem?_eq_some_iff.mp gx).1
        obtain ⟨T1, k1⟩ := (ax.same p1).kd
        refine ⟨rfl, lc_yes ?_⟩
        refine ⟨_, rfl, x, T1, rfl, k1, ax.small (oke dx (List.mem_of_getElem? gx)) hw, ?_⟩
        refine ⟨_, p2, ?_, same_own p1 hD, ?_⟩
        · rw [List.length_map, List.length_map, List.length_take]
          exact Nat.lt_of_le_of_lt (show min i ds.length ≤ 10000000 by omega) (by decide)
        · rw [upd_same, List.take_add_one, gx, List.map_append, List.map_append, row_av ax]
          rfl
      · obtain ⟨p1, p2⟩ := hP
        rw [ln, List.take_length] at p2
        refine ⟨D, _, rfl, SqL.of p2, _, rfl, ?_⟩
        rw [List.all_map]
        show if (!ds.all rowD) = true then _ else _
        by_cases ha : ds.all rowD = true
        · rw [ha]
          refine iteF ?_
          rw [ha, Bool.true_and] at ev
          have ey := rows_vals r ha
          have hb' := same_t p1 hb
          refine ⟨_, rfl, _, ys.length, rfl, .inr ⟨_, hb', rfl⟩, _, _, rfl, rfl, _, rfl, ?_⟩
          by_cases h1 : ds.length ≤ 24
          · rw [decide_eq_true (show ((ys.length : Nat) : Int) < 25 by omega)]
            refine iteT ?_
            rw [decide_eq_true h1, Bool.true_and] at ev
            refine ⟨.ref b, rfl, b, rfl, ⟨_, hb'⟩, fun D2 hD2 => walk_tup (xs := ys) (fun i H2 => Same H' H2 ∧ PairsAt K H2 D2 ((strsD ds).take i)) ⟨same_new hD2, PairsAt.nil upd_same⟩ (fun i H2 _ hP => same_t hP.1 hb') (fun i x H2 hx hP => ?_) (fun H2 hP => ?_)⟩
            · obtain ⟨q1, q2⟩ := hP
              rw [ey, List.getElem?_map] at hx
              obtain ⟨y, hy, rfl⟩ := Option.map_eq_some_iff.mp hx
              have hi : i < (strsD ds).length := (List.getElem?_eq_some_iff.mp hy).1
              rw [strsD_len] at hi
              refine ⟨rfl, lc_yes ?_⟩
              refine ⟨_, rfl, (by show 2 ≤ sizeLine; decide), fun t ht => ?_⟩
              obtain ⟨acc, e1, e2, e3⟩ := q2.step (y := y) ht
              refine ⟨acc, e1, ?_, same_own (q1.trans (same_new ht)) hD2, ?_⟩
              · rw [e2, List.length_take]
                exact small1000 (by omega)
              · rw [List.take_add_one, hy]
                exact e3
            · obtain ⟨q1, q2⟩ := hP
              rw [ln, ← strsD_len, List.take_length] at q2
              obtain ⟨ps, p2, p3, p4⟩ := q2
              refine ⟨D2, ps, _, rfl, SqL.of p2, p4, fun m hm => ?_⟩
              refine ⟨m, _, rfl, upd_same, _, rfl, _, ys.length, rfl, .inr ⟨_, same_t (q1.trans (same_new hm)) hb', rfl⟩, rfl, ?_⟩
              have z := q _ ((p1.trans q1).trans (same_new hm (o := .dK (mergeK [] ((strsD ds).map ent)))))
              rw [ev, ← dcount_all] at z
              have em : mergeK [] ((strsD ds).map ent) = (ddL [] (strsD ds)).map ent := merge_ent (strsD ds) []
              have e : decide (V.int ((mergeK [] ((strsD ds).map ent)).length : Nat) = V.int (ys.length : Nat)) = decide (dcount [] (strsD ds) = (strsD ds).length) := by
                rw [decide_eq_decide, em, List.length_map, ddL_count, strsD_len, ← ln]
                exact ⟨fun y => by injection y with y; omega, fun y => by rw [y]⟩
              rw [e]
              exact z
          · rw [decide_eq_false (show ¬ ((ys.length : Nat) : Int) < 25 by omega)]
            refine iteF ?_
            rw [decide_eq_false h1, Bool.false_and] at ev
            have z := q H' p1
            rw [ev] at z
            exact z
        · have ha := Bool.eq_false_iff.mpr ha
          rw [ha]
          refine iteT ?_
          rw [ha, Bool.false_and, Bool.and_false] at ev
          have z := q H' p1
          rw [ev] at z
          exact z
end
end M
namespace M
open PySem PySem.Spec PyProof.Rows L2 Gd
/-! ### for i, x in enumerate(t), t a tuple -/
set_option maxHeartbeats 2000000 in
theorem enum_new1 {v : Value} {o : Obj} {W : Heap → Prop} (B : Begins v o W) : Meets (Builtin.«enumerate.__new__» ⟨[.type "enumerate", v], []⟩) (fun _ R s => W s.heap ∧
    R (.ok (.ret (.ref (s.heap.push o).objs.size))) { s with heap := (s.heap.push o).push { cls := .type "enumerate", data := .fields #[.none, .bool false, .ref s.heap.objs.size, rawInt 0, .none, .none] } }) :=
  .of_wp fun prog w A R s hyp => by
    obtain ⟨hp, gn, dr, tk, os⟩ := s
    obtain ⟨h1, hyp⟩ := hyp
    have hsub := sub_enumerate
    have it : ∀ {A' : Around} {E : Value → Shared → Prop} {Q : Value → Shared → Prop}, Q (.ref hp.objs.size) ⟨hp.push o, gn, dr, tk, os⟩ → wpAny (model prog w) A' (pyIter v) Q E ⟨hp, gn, dr, tk, os⟩ := fun z => B.iter prog w _ _ ⟨hp, gn, dr, tk, os⟩ _ h1 z
    wp_walk using it
    refine wpAny_stack_any fun st => wpAny_pure ?_
    split
    · rename_i cc _ _ _ _ _
      cases (cc == Value.type "enumerate") <;> (wp_walk using it; exact ⟨_, rfl, hyp⟩)
    · wp_walk using it
      exact ⟨_, rfl, hyp⟩
theorem call_enum1 {prog : Program} {w : World} {A : Around} {E : Value → Shared → Prop} {s : Shared} {v : Value} {o : Obj} {W : Heap → Prop} {Q : Value → Shared → Prop} (B : Begins v o W) (h1 : W s.heap)
    (h : ∀ h', IsEnum h' (s.heap.objs.size + 1) s.heap.objs.size 0 .none → h'.get? s.heap.objs.size = some o → (∀ b u, s.heap.get? b = some u → h'.get? b = some u) → Q (.ref (s.heap.objs.size + 1)) { s with heap := h' }) :
    wpAny (model prog w) A (call (.type "enumerate") [v]) Q E s := by
  refine callType_new F.called_enumerate (by decide) (F.typeCall_enumerate_1 _) (F.newCall_enumerate_1 _) (fun obj => F.args_object_init_2 obj _) F.entry_enumerate_new (enum_new1 B) ⟨h1, ?_⟩
  have sz : (s.heap.push o).objs.size = s.heap.objs.size + 1 := Heap.size_push ..
  show _ ∧ _
  rw [sz]
  have en : IsEnum ((s.heap.push o).push { cls := .type "enumerate", data := .fields #[.none, .bool false, .ref s.heap.objs.size, rawInt 0, .none, .none] }) (s.heap.objs.size + 1) s.heap.objs.size 0 .none := by
    have z := Heap.get?_push_size (s.heap.push o) (o := { cls := .type "enumerate", data := .fields #[.none, .bool false, .ref s.heap.objs.size, rawInt 0, .none, .none] }) rfl
    rw [sz] at z
    exact z
  exact ⟨⟨_, en, rfl⟩, h _ en (Heap.get?_push_of_some _ (Heap.get?_push_size _ B.free)) fun b u x => Heap.get?_push_of_some _ (Heap.get?_push_of_some _ x)⟩
/-- the tuple at a, each item in a new pair with its place -/
def Ent (K : PySem.W.Frag) (a : Addr) : It :=
  ⟨fun i H => ∃ (xs : List V) (x : V), SqT K H a xs ∧ xs[i]? = some x, fun i H v H' => ∃ T x, v = .ref T ∧ H T = none ∧ H' = upd H T (.tup [.int (i : Nat), x]) ∧ ∀ xs, SqT K H a xs → xs[i]? = some x, fun i H => ∃ xs : List V, SqT K H a xs ∧ xs.length ≤ i⟩
theorem turn_ent {P : Program} {w : World} {K : PySem.W.Frag} {elts : List Expr} {kk : Nat} {tpos : Pos} (a e it : Addr) :
    Turn P w K (.Tuple elts kk tpos) (Ent K a) [e, it] e (fun i h => (∃ old, IsEnum h e it ((i : Nat) : Int) old) ∧ h.IsTupleIter it a i ∧ e ≠ it) where
  mem := by simp
  obj := fun i h st b hb => by
    obtain ⟨⟨old, he⟩, ⟨o, ho, hc, hd⟩, _⟩ := st
    rcases (by simpa using hb : b = e ∨ b = it) with z | z
    · subst z
      exact ⟨_, he, fun v q => nomatch q⟩
    · subst z
      exact ⟨o, ho, fun v q => by rw [hd] at q; cases q⟩
  keep := by
    rintro i h h' ⟨⟨old, he⟩, ⟨o, ho, r⟩, ne⟩ k
    exact ⟨⟨old, k e (by simp) _ he⟩, ⟨o, k it (by simp) _ ho, r⟩, ne⟩
  item := by
    intro X hP hw hK hc i pins s σ H E I hf st hg
    subst hP hw hK
    obtain ⟨⟨old, he⟩, hit, hne⟩ := st
    obtain ⟨xs, x, hq, hx⟩ := hg
    obtain ⟨its, rv, tp, hz⟩ := I.tuple hq
    obtain ⟨u, hu, ru⟩ := rv.get hx
    have hel : e < s.heap.objs.size := Heap.lt_size he
    have hil : it < s.heap.objs.size := by
      obtain ⟨_, z, _⟩ := hit
      exact Heap.lt_size z
    have nai : a ≠ it := fun z => by
      obtain ⟨o1, e1, c1, _⟩ := tp
      obtain ⟨o2, e2, c2, _⟩ := hit
      rw [z, e2] at e1
      cases e1
      rw [c2] at c1
      exact absurd (Value.type.inj c1) (by decide)
    have nae : e ≠ a := fun z => by
      obtain ⟨o1, e1, c1, _⟩ := tp
      rw [← z] at e1
      have e2 : s.heap.get? e = _ := he
      rw [e2] at e1
      cases e1
      exact absurd (Value.type.inj c1) (by decide)
    have hil2 : i < its.toArray.size := by
      rw [List.size_toArray]
      exact (List.getElem?_eq_some_iff.mp hu).1
    refine wpAny_pyNext_enum_itemD (Draws.tuple (A := X.A.in1) (I.ok.hd hc) it a nai its.toArray) he ⟨hit, tp⟩ hil2 hne (by simp [hne, nae]) fun y h' tk py eo st' hT sz hk => ?_
    have ey : y = u := by
      have z : its[i]? = some y := by simpa using py
      rw [hu] at z
      exact (Option.some.inj z).symm
    subst ey
    refine ⟨_, rfl, wpAny_letOwnedTupleGo_enum (s := { s with heap := h', toks := tk + 1 }) eo fun h2 he2 sb => ?_⟩
    have hT2 : h2.get? s.heap.objs.size = some { cls := .type "tuple", data := .seq #[.int i tk, y] } := (sb.2 _ (Nat.ne_of_gt hel)).trans hT
    have new : ObjOk X.prog X.w (upd H s.heap.objs.size (.tup [.int (i : Nat), x])) h2 s.heap.objs.size (.tup [.int (i : Nat), x]) :=
      ⟨(by show 2 ≤ sizeLine; decide), [.int i tk, y], .cons ⟨_, rfl⟩ (.cons ru .nil), ⟨_, hT2, rfl, _, rfl⟩⟩
    have J : Inv X pins σ (upd H s.heap.objs.size (.tup [.int (i : Nat), x])) { s with heap := h2, toks := tk + 1 } := by
      refine I.turnedNew (ch := [e, it]) (fun b ob hb q => ?_) hf (Nat.le_refl _) new
      have n1 : b ≠ e := fun z => hb (by simp [z])
      have n2 : b ≠ it := fun z => hb (by simp [z])
      exact (sb.2 b n1).trans (hk b ob n1 n2 q)
    refine ⟨.ref s.heap.objs.size, _, J, rfl, ⟨_, x, rfl, I.hok.fresh (Nat.le_refl _), rfl, fun ys hy => ?_⟩, ⟨⟨y, ?_⟩, ?_, hne⟩, fun b hb => ?_⟩
    · rw [I.tuple_inj hy hq]
      exact hx
    · have e1 : ((i + 1 : Nat) : Int) = (i : Int) + 1 := by omega
      rw [e1]
      exact he2
    · obtain ⟨o, ho, r⟩ := st'.1
      exact ⟨o, (sb.2 it hne.symm).trans ho, r⟩
    · have lt : b < s.heap.objs.size := by
        rcases (by simpa using hb : b = e ∨ b = it) with z | z
        · rw [z]
          exact hel
        · rw [z]
          exact hil
      rw [upd_ne (Nat.ne_of_lt lt)]
      exact (hf b hb).1
  done := by
    intro X hP hw hK hc i pins s σ H E I hf st hg
    subst hP hw hK
    obtain ⟨⟨old, he⟩, hit, hne⟩ := st
    obtain ⟨xs, hq, hx⟩ := hg
    obtain ⟨its, rv, tp, hz⟩ := I.tuple hq
    obtain ⟨f0, f1, f2, f3, f4, f5⟩ := hf it (by simp)
    have hT : s.TypeIs (.ref e) "enumerate" := ⟨_, he, rfl⟩
    have len := rv.length
    unfold pyNext
    refine wpAny_bind (wpAny_attempt (wpAny_callSpecial?_slot (name := Str.ofString "__next__") hT F.slot_enumerate_next (wpAny_call_entry F.slot_enumerate_next hT F.entry_enumerate_next ?_ (F.args_enumerate_next_1 _))))
    show wpAny _ _ (field (.ref e) 2 >>= _) _ _ _
    refine wpAny_bind (wpAny_field he rfl (x := .ref it) rfl ?_)
    refine wpAny_bind (wpAny_nextOf_tuple_end (I.ok.hd hc) hit tp (by simp; omega) fun h' x he' hx' => ?_)
    obtain ⟨o, ho, hcl⟩ := hx'
    refine wpAny_bind (wpAny_isInstance (T := "StopIteration") (b := true) ⟨o, ho, hcl⟩ isSubtype_stop ?_)
    exact wpAny_pure ⟨rfl, I.turned (t' := s.toks) (fun b o hb q => he' b o hb q) f0 f1 f3 f4 f5⟩
  self := fun A i s Q E st h => let ⟨⟨_, he⟩, _⟩ := st; wpAny_pyIter_enum he h
def iEnt (K : PySem.W.Frag) (ta : TA) : TI := fun σ H R => ta σ H fun vs H1 => ∃ a xs, vs = [.ref a] ∧ SqT K H1 a xs ∧ R (Ent K a) H1
theorem pi_ent {X : Cx} {e : Expr} {ta : TA} {p pos tpos : Pos} {elts : List Expr} {kk : Nat} (hg : Gl X "enumerate") (hm : X.mg "enumerate" = none) (ha : PA X [e] ta) (hs : starEach [e] X.env = [(false, eval e X.env)] := by rfl) :
    PI X (.Tuple elts kk tpos) (.Call (.Name "enumerate" p) [e] [] pos) (iEnt X.K ta) := by
  refine ⟨fun pins s σ H R I h => ?_⟩
  refine Call_ (ld_blt I hg hm boot_enumerate (PyProof.Rows.callWith_type1 (thn (ha.run pos pins s σ H _ I h) ?_) hs rfl))
  rintro us s1 ⟨vs, H1, I1, r1, a, xs, rfl, hq, q⟩
  obtain ⟨u, rfl, rx⟩ := vals1 r1
  cases rx
  obtain ⟨its, rv, tp, hz⟩ := I1.tuple hq
  refine call_enum1 (begins_tuple a its.toArray) tp fun h' en it hk => wpAny_pyIter_enum en ?_
  refine ⟨s1.heap.objs.size + 1, [s1.heap.objs.size + 1, s1.heap.objs.size], _, _, H1, rfl, I1.kept (t' := s1.toks) hk, turn_ent a (s1.heap.objs.size + 1) s1.heap.objs.size, ⟨⟨.none, en⟩, ⟨_, it, rfl, rfl⟩, Nat.succ_ne_self _⟩, fun b hb => ?_, q⟩
  have le : s1.heap.objs.size ≤ b := by
    rcases (by simpa using hb : b = s1.heap.objs.size + 1 ∨ b = s1.heap.objs.size) with z | z
    · rw [z]
      exact Nat.le_add_right _ _
    · rw [z]
      exact Nat.le_refl _
  exact I1.fpOk le (I1.hok.fresh le)
/-- the loop over it -/
theorem for_ent {K : PySem.W.Frag} {a : Addr} {xs : List V} {g : TG} {tb : TS} {D : Ends} {σ : L2.St} {H : Hp} (Pv : Nat → L2.St → Hp → Prop) (h0 : Pv 0 σ H) (hl : ∀ i σ H, i ≤ xs.length → Pv i σ H → SqT K H a xs)
    (hs : ∀ i x T σ H, xs[i]? = some x → Pv i σ H → H T = none → g (.ref T) σ (upd H T (.tup [.int (i : Nat), x])) fun σ2 H2 => tb { D with nx := Pv (i + 1), ct := Pv (i + 1), bk := D.nx } σ2 H2) (hd : ∀ σ H, Pv xs.length σ H → D.nx σ H) :
    ∃ W : Nat → Nat → L2.St → Hp → Prop, (∃ m, W 0 m σ H) ∧ ∀ i m σ H, W i m σ H →
      ((Ent K a).stop i H ∧ D.nx σ H) ∨ ((Ent K a).go i H ∧ ∃ N : L2.St → Hp → Prop, (∀ σ' H', N σ' H' → ∃ m', m' < m ∧ W (i + 1) m' σ' H') ∧ ∀ x H', (Ent K a).yld i H x H' → g x σ H' fun σ2 H2 => tb { D with nx := N, ct := N, bk := D.nx } σ2 H2) := by
  refine ⟨fun i m σ H => (m + i = xs.length) ∧ Pv i σ H, ⟨xs.length, rfl, h0⟩, fun i m σ H h => ?_⟩
  obtain ⟨em, p⟩ := h
  have sq := hl i σ H (by omega) p
  rcases Nat.lt_or_ge i xs.length with lt | ge
  · refine Or.inr ⟨⟨xs, xs[i], sq, List.getElem?_eq_getElem lt⟩, Pv (i + 1), fun σ' H' p' => ⟨m - 1, by omega, by omega, p'⟩, ?_⟩
    rintro v H' ⟨T, x, rfl, nT, rfl, y⟩
    exact hs i x T σ H (y xs sq) p nT
  · have ei : i = xs.length := by omega
    rw [ei] at p
    exact Or.inl ⟨⟨xs, sq, by omega⟩, hd σ H p⟩
end M
namespace M
open PySem PySem.Spec PyProof.Rows L2 Gd RZ
/-! ### histories, of trees -/
def rowsD : AD → List Str
  | .tup es => strsD es
  | _ => []
theorem verD_tup {d : AD} (h : verD d = true) : ∃ es, d = .tup es ∧ es.length ≤ 24 ∧ es.all rowD = true ∧ (strsD es).Nodup := by
  cases d with
  | tup es =>
    have h : (decide (es.length ≤ 24) && (es.all rowD && decide (strsD es).Nodup)) = true := h
    rw [Bool.and_eq_true, Bool.and_eq_true, decide_eq_true_eq, decide_eq_true_eq] at h
    exact ⟨es, rfl, h.1, h.2.1, h.2.2⟩
  | _ => exact absurd h Bool.false_ne_true
theorem vers_at {K : PySem.W.Frag} {H : Hp} : ∀ {xs : List V} {ds : List AD}, AvAll K H xs ds → (∀ d ∈ ds, verD d = true) → VsAt K H xs (ds.map rowsD)
  | _, _, .nil, _ => trivial
  | x :: xs, d :: ds, .cons a r, h => by
    refine ⟨?_, vers_at r fun e he => h e (List.mem_cons_of_mem _ he)⟩
    obtain ⟨es, rfl, h1, h2, h3⟩ := verD_tup (h d List.mem_cons_self)
    cases a with
    | @tup b ys _ hb rb =>
      refine ⟨b, rfl, ?_⟩
      show SqT K H b ((strsD es).map V.str)
      rw [← rows_vals rb h2]
      exact hb
def leftB (hs : List (List Str)) (z : Str) : Bool := match hs.getLast? with
  | some last => !last.contains z && hs.any fun v => v.contains z
  | none => false
def retB (hs : List (List Str)) : Bool := (List.range (hs.length - 1)).any fun i => (hs.getD (i + 1) []).any (leftB (hs.take (i + 1)))
/-! ### has_left -/
abbrev sLeft : Stmt := topS 8
abbrev nLeft : List Str := ["versions", "row", "version"]
theorem scLeft : FnScope nLeft ["versions", "row"] (defScope sLeft) := ⟨rfl, rfl, rfl, by decide +kernel, rfl, by decide +kernel, by decide +kernel⟩
def spLeft (K : PySem.W.Frag) : Sp := fun vs H Q _ => ∃ (h : Addr) (hs : List (List Str)) (last : List Str) (z : Str), vs = [.ref h, .str z] ∧ HistAt K H h hs ∧ hs.getLast? = some last ∧ hs.length ≤ 1000 ∧ ∀ H', Same H H' → Q (.bl (leftB hs z)) H'
theorem hist_last2 {K : PySem.W.Frag} {H : Hp} {xs : List V} {hs : List (List Str)} {last : List Str} (p4 : VsAt K H xs hs) (hlast : hs.getLast? = some last) : ∃ lv, atI xs (-1) = some (.ref lv) ∧ SqT K H lv (last.map V.str) := by
  have lx := p4.len
  have gl : hs[hs.length - 1]? = some last := by
    rw [← List.getLast?_eq_getElem?]
    exact hlast
  obtain ⟨lv, glv, hlv⟩ := p4.get gl
  refine ⟨lv, ?_, hlv⟩
  have ex : xs = xs.dropLast ++ [.ref lv] := by
    rw [← lx, ← List.getLast?_eq_getElem?] at glv
    obtain ⟨ys, rfl⟩ := List.getLast?_eq_some_iff.mp glv
    rw [List.dropLast_concat]
  rw [ex]
  exact atI_last _ _
section
variable {P : Program} {w : World} {K : PySem.W.Frag} {mg : Str → Option Value} {base : Heap}
theorem ok_left {f : Addr} {fd : FuncData} {k : Nat} (F : Fun K "has_left" "has_left" sLeft f fd) (my : mg "any" = none) : FnOk P w K mg base CX0 (k + 1) f fd ["versions", "row"] (spLeft K) := by
  refine F.ok scLeft (fun vs H Q E h => ?_) (fun cdv A outer s H vs Q E hr h => ?_)
  · obtain ⟨h, hs, last, z, rfl, _⟩ := h
    rfl
  · obtain ⟨h, hs, last, z, rfl, hA, hl, l1, q⟩ := h
    refine ⟨_, pss_one (ps_ret (pe_and (pe_cmpR op_notIn_seq (pv 1) (pe_ix ix_tup (pv 0) (pe_un un_neg pe_int) (fun _ _ => rfl)) (by rfl))
        (pe_one (pe_callB (cr_any rfl) (by rfl) my (by decide +kernel) (pa_cons (pe_lc (own := [("version", 2)]) (g := gName 2) (tt := tYes) (te := tOp (rIn K false) (tVar 1) (tVar 2)) rfl scLeft.nd (pi_tup (pv 0))
          (blkOk_by (own := [("version", 2)]) (N := nLeft) (sc := defScope sLeft) (by decide +kernel)) (fun _ _ _ _ _ => pg_name (i := 2) scLeft.nd rfl (.inl rfl)) (fun _ _ _ _ _ => pts_nil) (fun _ _ _ _ _ => pe_cmpR op_in_seq (pv 1) (pv 2) (by rfl))) pa_nil))))), ?_⟩
    have el : leftB hs z = (!last.contains z && hs.any fun v => v.contains z) := by
      unfold leftB
      rw [hl]
    obtain ⟨xs, hx1, hx2⟩ := hA
    obtain ⟨lv, glv, hlv⟩ := hist_last2 hx2 hl
    refine ⟨_, rfl, .ref h, rfl, 1, rfl, h, xs, -1, _, rfl, rfl, hx1, glv, lv, _, rfl, .inr hlv, rfl, flat_strs last, _, rfl, ?_⟩
    show if (!inV (.str z) (last.map V.str)) = true then _ else _
    rw [inV_strs]
    refine ite2 (fun h1 => ?_) (fun h1 => ?_)
    · rw [h1, Bool.true_and] at el
      refine ⟨.ref h, rfl, h, rfl, ⟨_, hx1⟩, fun D hD => walk_tup (xs := xs) (fun i H' => Same H H' ∧ H' D = some (.lst (((hs.take i).map fun v => v.contains z).map V.bl))) ⟨same_new hD, upd_same⟩ (fun i H' _ hP => same_t hP.1 hx1) (fun i x H' hx hP => ?_) (fun H' hP => ?_)⟩
      · obtain ⟨p1, p2⟩ := hP
        obtain ⟨b, v, rfl, gv, hv⟩ := hx2.item hx
        have hi : i < hs.length := (List.getElem?_eq_some_iff.mp gv).1
        refine ⟨rfl, lc_yes ?_⟩
        refine ⟨_, rfl, .ref b, rfl, b, _, rfl, .inr (same_t p1 hv), rfl, flat_strs v, ?_⟩
        show ∃ acc, H' D = some (.lst acc) ∧ acc.length < sizeLine ∧ Same H (upd H' D (.lst (acc ++ [V.bl (inV (.str z) (v.map V.str))]))) ∧ (upd H' D (.lst (acc ++ [V.bl (inV (.str z) (v.map V.str))]))) D = some (.lst (((hs.take (i + 1)).map fun v => v.contains z).map V.bl))
        rw [inV_strs]
        refine ⟨_, p2, ?_, same_own p1 hD, ?_⟩
        · rw [List.length_map, List.length_map, List.length_take]
          exact small1000 (by omega)
        · rw [upd_same, List.take_add_one, gv, List.map_append, List.map_append]
          rfl
      · obtain ⟨p1, p2⟩ := hP
        rw [hx2.len, List.take_length] at p2
        refine ⟨D, _, rfl, SqL.of p2, ?_⟩
        have y := q H' p1
        rw [el] at y
        rw [List.any_map]
        exact y
    · rw [Bool.eq_false_iff.mpr h1, Bool.false_and] at el
      have y := q H (Same.refl H)
      rw [el] at y
      exact y
end
/-! ### some_row_returns -/
abbrev sRet : Stmt := topS 7
abbrev nRet : List Str := ["versions", "number", "earlier", "row"]
theorem scRet : FnScope nRet ["versions"] (defScope sRet) := ⟨rfl, rfl, rfl, by decide +kernel, rfl, by decide +kernel, by decide +kernel⟩
def spRet (K : PySem.W.Frag) : Sp := fun vs H Q _ => ∃ (h : Addr) (hs : List (List Str)), vs = [.ref h] ∧ HistAt K H h hs ∧ 1 ≤ hs.length ∧ hs.length ≤ 1000 ∧ (∀ v ∈ hs, v.length ≤ 1000) ∧ ∀ H', Same H H' → Q (.bl (retB hs)) H'
theorem VsAt.take {K : PySem.W.Frag} {H : Hp} : ∀ {xs : List V} {vs : List (List Str)} (c : Nat), VsAt K H xs vs → VsAt K H (xs.take c) (vs.take c)
  | [], [], c, _ => by rw [List.take_nil, List.take_nil]; exact trivial
  | _ :: _, _ :: _, 0, _ => trivial
  | _ :: _, _ :: _, c + 1, ⟨h, r⟩ => ⟨h, VsAt.take c r⟩
section
variable {P : Program} {w : World} {K : PySem.W.Frag} {mg : Str → Option Value} {base : Heap}
theorem ok_ret {f fL : Addr} {fd fdL : FuncData} {k : Nat} (F : Fun K "some_row_returns" "some_row_returns" sRet f fd) (FL : Fun K "has_left" "has_left" sLeft fL fdL) (bL : Binds K fdL ["versions", "row"] []) (gL : mg "has_left" = some (.ref fL)) (my : mg "any" = none) (mr : mg "range" = none) (ml : mg "len" = none) : FnOk P w K mg base CX0 (k + 2) f fd ["versions"] (spRet K) := by
  have GL : FnOk P w K mg base CX0 (k + 1) fL fdL ["versions", "row"] (spLeft K) := ok_left FL my
  refine F.ok scRet (fun vs H Q E h => ?_) (fun cdv A outer s H vs Q E hr h => ?_)
  · obtain ⟨h, hs, rfl, _⟩ := h
    rfl
  · obtain ⟨h, hs, rfl, hA, l0, l1, lv, q⟩ := h
    refine ⟨_, pss_cons (ps_for PassesOwn.never rfl (pi_range2 (by rfl) mr (pa_cons pe_int (pa_cons (pe_callB call_len (by rfl) ml PySem.boot_len (pa_cons (pv 0) pa_nil)) pa_nil))) (pg_name (i := 1) scRet.nd rfl (.inl rfl))
        (pss_cons (ps_set (i := 2) scRet.nd rfl (.inr rfl) (pe_slice sl_tupA (pv 0) po_none (po_some (pv 1))))
        (pss_one (ps_if (pt_val (pe_callB (cr_any rfl) (by rfl) my (by decide +kernel) (pa_cons (pe_lc (own := [("row", 3)]) (g := gName 3) (tt := tYes) (te := tCall (spLeft K) [] E0 (tCons (tVar 2) (tCons (tVar 3) tNil))) rfl scRet.nd (pi_tup (pe_ix ix_tup (pv 0) (pv 1) (fun _ _ => rfl)))
          (blkOk_by (own := [("row", 3)]) (N := nRet) (sc := defScope sRet) (by decide +kernel)) (fun _ _ _ _ _ => pg_name (i := 3) scRet.nd rfl (.inl rfl)) (fun _ _ _ _ _ => pts_nil) (fun _ _ _ _ _ => pe_call GL hr (by rfl) gL FL.kp bL .nil pass0 (pa_cons (pv 2) (pa_cons (pv 3) pa_nil)))) pa_nil)))
          (pss_one (ps_ret pe_bl)) pss_nil))))
      (pss_one (ps_ret pe_bl)), ?_⟩
    obtain ⟨xs, hx1, hx2⟩ := hA
    have lx := hx2.len
    refine ⟨_, rfl, _, hs.length, rfl, .inr ⟨_, hx1, lx.symm⟩, 1, _, rfl, ⟨by decide, by decide, by omega, by omega⟩, ?_⟩
    have en : ((hs.length : Int) - 1).toNat = hs.length - 1 := by omega
    rw [en]
    refine for_range (lo := 1) (n := hs.length - 1) (fun i σ H' => ∃ y1 y2 y3, σ = [some (.ref h), y1, y2, y3] ∧ Same H H' ∧ (List.range i).any (fun i => (hs.getD (i + 1) []).any (leftB (hs.take (i + 1)))) = false) ⟨_, _, _, rfl, Same.refl H, rfl⟩ (fun i σ H' hi hP => ?_) (fun σ H' hP => ?_)
    · obtain ⟨y1, y2, y3, rfl, p1, p2⟩ := hP
      have ei : (1 : Int) + (i : Nat) = ((i + 1 : Nat) : Int) := by omega
      have gv : hs[i + 1]? = some (hs.getD (i + 1) []) := by
        rw [List.getD_eq_getElem?_getD, List.getElem?_eq_getElem (show i + 1 < hs.length by omega)]
        rfl
      have lw := lv _ (List.mem_of_getElem? gv)
      generalize hv : hs.getD (i + 1) [] = v at gv lw
      refine ⟨.ref h, rfl, _, rfl, ((i + 1 : Nat) : Int), congrArg V.int ei, ?_⟩
      dsimp only
      refine slV_to (c := i + 1) (same_t p1 hx1) fun H2 t2 s2 e2 => ?_
      have s12 := p1.trans s2
      obtain ⟨b, gb, hb⟩ := (hx2.keep fun _ _ => same_t s12).get gv
      have lt : (hs.take (i + 1)).getLast? = some (hs.getD i []) := by
        rw [List.getLast?_eq_getElem?, List.length_take, Nat.min_eq_left (by omega), List.getElem?_take, if_pos (by omega), List.getD_eq_getElem?_getD, Nat.add_sub_cancel, List.getElem?_eq_getElem (show i < hs.length by omega)]
        rfl
      refine ⟨.ref h, rfl, _, rfl, h, xs, ((i + 1 : Nat) : Int), _, rfl, congrArg V.int ei, same_t s12 hx1, atI_nat gb, b, rfl, ⟨_, hb⟩, fun D hD => walk_tup (xs := v.map V.str) (fun j H' => Same H2 H' ∧ H' D = some (.lst (((v.take j).map (leftB (hs.take (i + 1)))).map V.bl))) ⟨same_new hD, upd_same⟩ (fun j H' _ hP => same_t hP.1 hb) (fun j x H3 hx hP => ?_) (fun H3 hP => ?_)⟩
      · obtain ⟨q1, q2⟩ := hP
        rw [List.getElem?_map] at hx
        obtain ⟨y, hy, rfl⟩ := Option.map_eq_some_iff.mp hx
        have hj : j < v.length := (List.getElem?_eq_some_iff.mp hy).1
        refine ⟨rfl, lc_yes ?_⟩
        refine ⟨_, rfl, _, rfl, t2, hs.take (i + 1), _, y, rfl, ⟨_, same_t q1 e2, (hx2.take (i + 1)).keep fun _ _ => same_t (s12.trans q1)⟩, lt, by rw [List.length_take]; omega, fun H4 s4 => ?_⟩
        refine ⟨_, s4 _ _ q2, ?_, same_own (q1.trans s4) hD, ?_⟩
        · rw [List.length_map, List.length_map, List.length_take]
          exact small1000 (by omega)
        · rw [upd_same, List.take_add_one (l := v), hy, List.map_append, List.map_append]
          rfl
      · obtain ⟨q1, q2⟩ := hP
        rw [List.length_map, List.take_length] at q2
        refine ⟨D, _, rfl, SqL.of q2, _, rfl, ?_⟩
        rw [List.any_map]
        show if (v.any (leftB (hs.take (i + 1)))) = true then _ else _
        refine ite2 (fun h1 => ?_) (fun h1 => ?_)
        · have e : retB hs = true := by
            unfold retB
            rw [List.any_eq_true]
            refine ⟨i, List.mem_range.mpr hi, ?_⟩
            rw [hv]
            exact h1
          have z := q H3 (s12.trans q1)
          rw [e] at z
          exact z
        · refine ⟨_, _, _, rfl, s12.trans q1, ?_⟩
          rw [List.range_succ, List.any_append, p2, Bool.false_or]
          show ((hs.getD (i + 1) []).any (leftB (hs.take (i + 1))) || false) = false
          rw [hv, Bool.or_false]
          exact Bool.eq_false_iff.mpr h1
    · obtain ⟨y1, y2, y3, rfl, p1, p2⟩ := hP
      have z := q H' p1
      unfold retB at z
      rw [p2] at z
      exact z
end
/-! ### is_history -/
def histB : AD → Bool
  | .tup ds => (decide (1 ≤ ds.length) && decide (ds.length ≤ 40)) && (ds.all verD && !retB (ds.map rowsD))
  | _ => false
abbrev sIsH : Stmt := topS 6
abbrev nIsH : List Str := ["value", "version"]
theorem scIsH : FnScope nIsH ["value"] (defScope sIsH) := ⟨rfl, rfl, rfl, by decide +kernel, rfl, by decide +kernel, by decide +kernel⟩
def spIsH (K : PySem.W.Frag) : Sp := fun vs H Q _ => ∃ (x : V) (d : AD) (w : Nat), vs = [x] ∧ Av K H x d ∧ d.ok w ∧ w ≤ 10000000 ∧ ∀ H', Same H H' → Q (.bl (histB d)) H'
section
variable {P : Program} {w : World} {K : PySem.W.Frag} {mg : Str → Option Value} {base : Heap}
theorem ok_ish {f fV fR : Addr} {fd fdV fdR : FuncData} {k : Nat} {tk : Tok} (F : Fun K "is_history" "is_history" sIsH f fd) (FV : Fun K "is_version" "is_version" sVer fV fdV) (bV : Binds K fdV ["value"] []) (gV : mg "is_version" = some (.ref fV)) (GV : FnOk P w K mg base CX0 (k + 2) fV fdV ["value"] (spVer K))
    (FR : Fun K "some_row_returns" "some_row_returns" sRet fR fdR) (bR : Binds K fdR ["versions"] []) (gR : mg "some_row_returns" = some (.ref fR)) (GR : FnOk P w K mg base CX0 (k + 2) fR fdR ["versions"] (spRet K))
    (mi : mg "isinstance" = none) (mt : mg "tuple" = none) (ml : mg "len" = none) (ma : mg "all" = none) (mV : mg "MOST_VERSIONS" = some (.int 40 tk)) : FnOk P w K mg base CX0 (k + 3) f fd ["value"] (spIsH K) := by
  refine F.ok scIsH (fun vs H Q E h => ?_) (fun cdv A outer s H vs Q E hr h => ?_)
  · obtain ⟨x, d, w, rfl, _⟩ := h
    rfl
  · obtain ⟨x, d, w, rfl, av, ok, hw, q⟩ := h
    refine ⟨_, pss_cons (ps_if (PW.pt (pw_or (pt_not (pt_val (pe_callB call_isi (by rfl) mi (by decide +kernel) (pa_cons (pv 0) (pa_cons (pe_bltn (v := .ty "tuple") (by rfl) mt (by decide +kernel) rfl) pa_nil)))))
        (pw_or1 (pt_not (pt_chain op_le op_le pe_int (pe_callB call_len (by rfl) ml PySem.boot_len (pa_cons (pv 0) pa_nil)) (pe_glob (v := .int 40) (by rfl) mV ⟨_, rfl⟩))))))
        (pss_one (ps_ret pe_bl)) pss_nil)
      (pss_one (ps_ret (pe_and (pe_callB (cr_all rfl) (by rfl) ma (by decide +kernel) (pa_cons (pe_lc (own := [("version", 1)]) (g := gName 1) (tt := tYes) (te := tCall (spVer K) [] E0 (tCons (tVar 1) tNil)) rfl scIsH.nd (pi_tup (pv 0))
          (blkOk_by (own := [("version", 1)]) (N := nIsH) (sc := defScope sIsH) (by decide +kernel)) (fun _ _ _ _ _ => pg_name (i := 1) scIsH.nd rfl (.inl rfl)) (fun _ _ _ _ _ => pts_nil) (fun _ _ _ _ _ => pe_call GV hr (by rfl) gV FV.kp bV .nil pass0 (pa_cons (pv 1) pa_nil))) pa_nil))
        (pe_one (pe_not (pe_call GR hr (by rfl) gR FR.kp bR .nil pass0 (pa_cons (pv 0) pa_nil))))))), ?_⟩
    have qH := q H (Same.refl H)
    obtain ⟨T, kd, kt, _⟩ := av.kd2
    refine ⟨_, rfl, x, _, _, _, _, rfl, .ty "tuple", kd.ty, kit_ty kt, _, rfl, ?_⟩
    cases av with
    | non => exact iteT (iteT qH)
    | bl b => exact iteT (iteT qH)
    | int i => exact iteT (iteT qH)
    | str z => exact iteT (iteT qH)
    | lst hl => exact iteT (iteT qH)
    | dct hl => exact iteT (iteT qH)
    | @tup b ys ds hb r =>
      refine iteF ?_
      have okd : ds.length ≤ w ∧ AD.okAll w ds := ok
      have oke := okAll_iff.mp okd.2
      have ln := r.len
      have ev : histB (.tup ds) = ((decide (1 ≤ ds.length) && decide (ds.length ≤ 40)) && (ds.all verD && !retB (ds.map rowsD))) := rfl
      refine ⟨_, rfl, _, ys.length, rfl, .inr ⟨_, hb, rfl⟩, _, _, rfl, rfl, _, rfl, ?_⟩
      by_cases h1 : 1 ≤ ds.length
      · rw [decide_eq_true (show (1 : Int) ≤ (ys.length : Nat) by omega)]
        refine iteT ⟨_, _, rfl, rfl, _, rfl, ?_⟩
        by_cases h2 : ds.length ≤ 40
        · rw [decide_eq_true (show ((ys.length : Nat) : Int) ≤ 40 by omega)]
          refine iteF ?_
          rw [decide_eq_true h1, decide_eq_true h2, Bool.true_and, Bool.true_and] at ev
          refine ⟨.ref b, rfl, b, rfl, ⟨_, hb⟩, fun D hD => walk_tup (xs := ys) (fun i H' => Same H H' ∧ H' D = some (.lst (((ds.take i).map verD).map V.bl))) ⟨same_new hD, upd_same⟩ (fun i H' _ hP => same_t hP.1 hb) (fun i x H' hx hP => ?_) (fun H' hP => ?_)⟩
          · obtain ⟨p1, p2⟩ := hP
            obtain ⟨dx, gx, ax⟩ := r.get hx
            have hi : i < ds.length := (List.getElem?_eq_some_iff.mp gx).1
            refine ⟨rfl, lc_yes ?_⟩
            refine ⟨_, rfl, x, dx, w, rfl, ax.same p1, oke dx (List.mem_of_getElem? gx), hw, fun H2 s2 => ?_⟩
            refine ⟨_, s2 _ _ p2, ?_, same_own (p1.trans s2) hD, ?_⟩
            · rw [List.length_map, List.length_map, List.length_take]
              exact small1000 (by omega)
            · rw [upd_same, List.take_add_one, gx, List.map_append, List.map_append]
              rfl
          · obtain ⟨p1, p2⟩ := hP
            rw [ln, List.take_length] at p2
            refine ⟨D, _, rfl, SqL.of p2, _, rfl, ?_⟩
            rw [List.all_map]
            show if (ds.all verD) = true then _ else _
            refine ite2 (fun ha => ?_) (fun ha => ?_)
            · rw [ha, Bool.true_and] at ev
              have va := List.all_eq_true.mp ha
              have vs := vers_at (r.same p1) va
              refine ⟨.ref b, rfl, b, ds.map rowsD, rfl, ⟨_, same_t p1 hb, vs⟩, by rw [List.length_map]; exact h1, by rw [List.length_map]; omega, fun v hv => ?_, fun H2 s2 => ?_⟩
              · obtain ⟨d, hd, rfl⟩ := List.mem_map.mp hv
                obtain ⟨es, rfl, h3, _⟩ := verD_tup (va d hd)
                show (strsD es).length ≤ 1000
                rw [strsD_len]
                omega
              · have z := q H2 (p1.trans s2)
                rw [ev] at z
                exact ⟨_, rfl, z⟩
            · rw [Bool.eq_false_iff.mpr ha, Bool.false_and] at ev
              have z := q H' p1
              rw [ev] at z
              exact z
        · rw [decide_eq_false (show ¬ ((ys.length : Nat) : Int) ≤ 40 by omega)]
          refine iteT ?_
          rw [decide_eq_false h2, Bool.and_false, Bool.false_and] at ev
          rw [ev] at qH
          exact qH
      · rw [decide_eq_false (show ¬ (1 : Int) ≤ (ys.length : Nat) by omega)]
        refine iteF ⟨_, rfl, iteT ?_⟩
        rw [decide_eq_false h1, Bool.false_and, Bool.false_and] at ev
        rw [ev] at qH
        exact qH
end
end M
namespace M
open PySem PySem.Spec PyProof.Rows L2 Gd
/-! ### a row comes back, or its versions are consecutive -/
def hasN (hs : List (List Str)) (z : Str) (i : Nat) : Bool := (hs.getD i []).contains z
def idxL (hs : List (List Str)) (z : Str) : List Nat := (List.range hs.length).filter (hasN hs z)
def spanB (L : List Nat) : Bool := match L, L.getLast? with
  | f :: _, some l => decide (((l : Nat) : Int) - ((f : Nat) : Int) + 1 = (L.length : Nat))
  | _, _ => true
theorem span_iff {p : Nat → Bool} {n f l : Nat} {r : List Nat} (e : (List.range n).filter p = f :: r) (el : (f :: r).getLast? = some l) : spanB (f :: r) = true ↔ ∀ x, f ≤ x → x ≤ l → p x = true := by
  have pw : (f :: r).Pairwise (· < ·) := by
    rw [← e]
    exact List.pairwise_lt_range.filter p
  have lm : l ∈ f :: r := List.mem_of_getLast? el
  have fx : ∀ x ∈ f :: r, f ≤ x := fun x hx => by
    rcases List.mem_cons.mp hx with h | h
    · omega
    · exact Nat.le_of_lt ((List.pairwise_cons.mp pw).1 x h)
  have xl : ∀ x ∈ f :: r, x ≤ l := fun x hx => by
    obtain ⟨ys, hy⟩ := List.getLast?_eq_some_iff.mp el
    rw [hy] at hx pw
    rcases List.mem_append.mp hx with h | h
    · exact Nat.le_of_lt ((List.pairwise_append.mp pw).2.2 x h l (List.mem_singleton.mpr rfl))
    · rw [List.mem_singleton.mp h]
      exact Nat.le_refl _
  have mem : ∀ x, x ∈ f :: r ↔ x < n ∧ p x = true := fun x => by
    rw [← e, List.mem_filter, List.mem_range]
  have fl := fx l lm
  have pm : ((List.range' f (l - f + 1)).filter p).Perm (f :: r) := by
    refine (List.perm_ext_iff_of_nodup ((List.nodup_range').sublist List.filter_sublist) (pw.imp fun h => Nat.ne_of_lt h)).mpr fun x => ?_
    rw [List.mem_filter, List.mem_range', mem]
    constructor
    · rintro ⟨⟨i, hi, rfl⟩, hp⟩
      have := ((mem l).mp lm).1
      exact ⟨by omega, hp⟩
    · rintro ⟨h1, h2⟩
      have hx := (mem x).mpr ⟨h1, h2⟩
      have a := fx x hx
      have b := xl x hx
      exact ⟨⟨x - f, by omega, by omega⟩, h2⟩
  have len := pm.length_eq
  have key : ((List.range' f (l - f + 1)).filter p).length = (List.range' f (l - f + 1)).length ↔ ∀ x ∈ List.range' f (l - f + 1), p x = true := List.length_filter_eq_length_iff
  rw [List.length_range'] at key
  have e2 : spanB (f :: r) = decide (((l : Nat) : Int) - ((f : Nat) : Int) + 1 = ((f :: r).length : Nat)) := by
    unfold spanB
    rw [el]
  rw [e2, decide_eq_true_eq, ← len]
  constructor
  · intro h x h1 h2
    refine key.mp (by omega) x ?_
    rw [List.mem_range']
    exact ⟨x - f, by omega, by omega⟩
  · intro h
    have := key.mpr fun x hx => by
      rw [List.mem_range'] at hx
      obtain ⟨i, hi, rfl⟩ := hx
      exact h _ (by omega) (by omega)
    omega
theorem ret_iff (hs : List (List Str)) : retB hs = true ↔ ∃ i z, i + 1 < hs.length ∧ hasN hs z (i + 1) = true ∧ hasN hs z i = false ∧ ∃ j, j < i ∧ hasN hs z j = true := by
  unfold retB
  rw [List.any_eq_true]
  have lt : ∀ i, i + 1 < hs.length → (hs.take (i + 1)).getLast? = some (hs.getD i []) := fun i hi => by
    rw [List.getLast?_eq_getElem?, List.length_take, Nat.min_eq_left (by omega), List.getElem?_take, if_pos (by omega), List.getD_eq_getElem?_getD, Nat.add_sub_cancel, List.getElem?_eq_getElem (show i < hs.length by omega)]
    rfl
  have lb : ∀ i z, i + 1 < hs.length → (leftB (hs.take (i + 1)) z = true ↔ hasN hs z i = false ∧ ∃ j, j < i + 1 ∧ hasN hs z j = true) := fun i z hi => by
    unfold leftB
    rw [lt i hi]
    show (!(hs.getD i []).contains z && (hs.take (i + 1)).any fun v => v.contains z) = true ↔ _
    rw [Bool.and_eq_true, List.any_eq_true, Bool.not_eq_true']
    refine and_congr Iff.rfl ?_
    constructor
    · rintro ⟨v, hv, h⟩
      obtain ⟨j, hj, rfl⟩ := List.mem_iff_getElem.mp hv
      rw [List.length_take] at hj
      refine ⟨j, by omega, ?_⟩
      unfold hasN
      rw [List.getElem_take] at h
      rw [List.getD_eq_getElem?_getD, List.getElem?_eq_getElem (show j < hs.length by omega)]
      exact h
    · rintro ⟨j, hj, h⟩
      refine ⟨hs.getD j [], ?_, h⟩
      rw [List.getD_eq_getElem?_getD, List.getElem?_eq_getElem (show j < hs.length by omega)]
      refine List.mem_iff_getElem.mpr ⟨j, by rw [List.length_take]; omega, ?_⟩
      rw [List.getElem_take]
      rfl
  constructor
  · rintro ⟨i, hi, h⟩
    have hi := List.mem_range.mp hi
    obtain ⟨z, hz, hl⟩ := List.any_eq_true.mp h
    obtain ⟨h1, j, hj, h2⟩ := (lb i z (by omega)).mp hl
    refine ⟨i, z, by omega, List.contains_iff_mem.mpr hz, h1, j, ?_, h2⟩
    rcases Nat.lt_or_ge j i with q | q
    · exact q
    · have : j = i := by omega
      rw [this, h1] at h2
      cases h2
  · rintro ⟨i, z, hi, h1, h2, j, hj, h3⟩
    refine ⟨i, List.mem_range.mpr (by omega), List.any_eq_true.mpr ⟨z, List.contains_iff_mem.mp h1, (lb i z hi).mpr ⟨h2, j, by omega, h3⟩⟩⟩
/-- a true one behind a false one: somewhere a false one stands right before a true one -/
theorem step_up {p : Nat → Bool} {i : Nat} : ∀ (d : Nat), p i = false → p (i + d) = true → ∃ k, i ≤ k ∧ k < i + d ∧ p k = false ∧ p (k + 1) = true
  | 0, h1, h2 => by
    rw [Nat.add_zero, h1] at h2
    cases h2
  | d + 1, h1, h2 => by
    cases e : p (i + d) with
    | false => exact ⟨i + d, by omega, by omega, e, h2⟩
    | true =>
      obtain ⟨k, a, b, c⟩ := step_up d h1 e
      exact ⟨k, a, by omega, c⟩
theorem hasN_lt {hs : List (List Str)} {z : Str} {i : Nat} (h : hasN hs z i = true) : i < hs.length := by
  rcases Nat.lt_or_ge i hs.length with q | q
  · exact q
  · unfold hasN at h
    rw [List.getD_eq_getElem?_getD, List.getElem?_eq_none q] at h
    exact absurd h Bool.false_ne_true
theorem idx_ne {hs : List (List Str)} {z : Str} (h : z ∈ hs.flatten) : ∃ f r l, idxL hs z = f :: r ∧ (f :: r).getLast? = some l := by
  obtain ⟨v, hv, hz⟩ := List.mem_flatten.mp h
  obtain ⟨i, hi, rfl⟩ := List.mem_iff_getElem.mp hv
  have hp : hasN hs z i = true := by
    unfold hasN
    rw [List.getD_eq_getElem?_getD, List.getElem?_eq_getElem hi]
    exact List.contains_iff_mem.mpr hz
  have mem : i ∈ idxL hs z := List.mem_filter.mpr ⟨List.mem_range.mpr hi, hp⟩
  cases e : idxL hs z with
  | nil =>
    rw [e] at mem
    exact (nomatch mem)
  | cons f r => exact ⟨f, r, _, rfl, List.getLast?_eq_getLast (List.cons_ne_nil _ _)⟩
theorem ret_span (hs : List (List Str)) : retB hs = false ↔ ∀ z ∈ hs.flatten, spanB (idxL hs z) = true := by
  constructor
  · intro h z hz
    obtain ⟨f, r, l, e, el⟩ := idx_ne hz
    have mem : ∀ x, x ∈ f :: r ↔ x < hs.length ∧ hasN hs z x = true := fun x => by
      rw [← e]
      unfold idxL
      rw [List.mem_filter, List.mem_range]
    rw [e]
    refine (span_iff e el).mpr fun x h1 h2 => ?_
    cases px : hasN hs z x with
    | true => rfl
    | false =>
      have pl := ((mem l).mp (List.mem_of_getLast? el)).2
      have pf := ((mem f).mp List.mem_cons_self).2
      obtain ⟨k, a, b, c, d⟩ := step_up (i := x) (l - x) px (by rw [show x + (l - x) = l by omega]; exact pl)
      have nf : f ≠ k := fun q => by rw [q, c] at pf; cases pf
      have : retB hs = true := (ret_iff hs).mpr ⟨k, z, hasN_lt d, d, c, f, by omega, pf⟩
      rw [h] at this
      cases this
  · intro h
    cases e0 : retB hs with
    | false => rfl
    | true =>
      obtain ⟨i, z, hi, h1, h2, j, hj, h3⟩ := (ret_iff hs).mp e0
      have hz : z ∈ hs.flatten := by
        refine List.mem_flatten.mpr ⟨hs.getD j [], ?_, List.contains_iff_mem.mp h3⟩
        rw [List.getD_eq_getElem?_getD, List.getElem?_eq_getElem (show j < hs.length by omega)]
        exact List.getElem_mem _
      obtain ⟨f, r, l, e, el⟩ := idx_ne hz
      have mem : ∀ x, x ∈ f :: r ↔ x < hs.length ∧ hasN hs z x = true := fun x => by
        rw [← e]
        unfold idxL
        rw [List.mem_filter, List.mem_range]
      have s := h z hz
      rw [e] at s
      have pw : (f :: r).Pairwise (· < ·) := by
        rw [← e]
        exact List.pairwise_lt_range.filter _
      have fj : f ≤ j := by
        rcases List.mem_cons.mp ((mem j).mpr ⟨hasN_lt h3, h3⟩) with q | q
        · omega
        · exact Nat.le_of_lt ((List.pairwise_cons.mp pw).1 j q)
      have il : i + 1 ≤ l := by
        obtain ⟨ys, hy⟩ := List.getLast?_eq_some_iff.mp el
        have m := (mem (i + 1)).mpr ⟨hi, h1⟩
        rw [hy] at m pw
        rcases List.mem_append.mp m with q | q
        · exact Nat.le_of_lt ((List.pairwise_append.mp pw).2.2 _ q l (List.mem_singleton.mpr rfl))
        · rw [List.mem_singleton.mp q]
          exact Nat.le_refl _
      have := (span_iff e el).mp s i (by omega) (by omega)
      rw [h2] at this
      cases this
end M
namespace M
open PySem PySem.Spec PyProof.Rows L2 Gd
/-! ### xs.extend(t), t a tuple -/
def rExtT (K : PySem.W.Frag) : V → List V → Hp → VK → Prop := fun x vs H Q => ∃ l b xs zs, x = .ref l ∧ vs = [.ref b] ∧ H l = some (.lst xs) ∧ SqT K H b zs ∧ xs.length + zs.length ≤ sizeLine ∧ Q .non (upd H l (.lst (xs ++ zs)))
theorem mt_extT {X : Cx} : MtR X "list.extend" (rExtT X.K) := by
  rintro pins s σ H x vs v us Q I rx rv ⟨l, b, xs, zs, rfl, rfl, hl, hb, hz, q⟩
  cases rx
  obtain ⟨u, rfl, ru⟩ := rv.one
  cases ru
  obtain ⟨z1, its, n, r1, len1, e1⟩ := I.lstM hl
  obtain ⟨its2, r2, ⟨o2, e2, c2, n2, d2⟩, _⟩ := I.tuple hb
  have len2 := r2.length
  refine wpAny_call_entry F.slot_list_extend ⟨_, e1, rfl⟩ F.entry_list_extend ?_ (F.args_list_extend_2 _ _)
  show wpAny _ _ (Builtin.List.listExtendWith (.ref l) (.ref b) .none) _ _ s
  unfold Builtin.List.listExtendWith
  refine wpAny_bind (wpAny_typeOf (T := "tuple") ⟨o2, e2, c2⟩ ?_)
  have tt : (Value.type "tuple" == Value.type "tuple") = true := by rfl
  rw [if_pos (by rw [tt]; simp)]
  refine wpAny_bind (listItems_at e2 d2 ?_)
  refine wpAny_bind (listItems_at e1 rfl ?_)
  have small : its.toArray.size + its2.toArray.size ≤ sizeLine := by
    rw [List.size_toArray, List.size_toArray]
    omega
  rw [if_neg (by rw [notLongL small, Bool.and_false]; exact Bool.false_ne_true)]
  refine wpAny_bind (listUpdate_at e1 rfl ?_ (by rw [List.size_toArray]; omega) (by rw [Array.size_append]; omega))
  refine wpAny_pure ⟨_, rfl, .non, _, I.lset (its' := its ++ its2) (t' := s.toks) hl e1 (by simp) (r1.append r2) ?_, rfl, q⟩
  rw [List.length_append]
  exact hz
/-! ### flat -/
abbrev sFlat : Stmt := topS 23
theorem scFlat : FnScope ["_law_some", "_law_found", "_law_one"] ["_law_some"] (defScope sFlat) := ⟨rfl, rfl, rfl, by decide +kernel, rfl, by decide +kernel, by decide +kernel⟩
def spFlat (K : PySem.W.Frag) : Sp := fun vs H Q _ => ∃ (h : Addr) (hs : List (List Str)), vs = [.ref h] ∧ HistAt K H h hs ∧ hs.flatten.length ≤ 1000 ∧ ∀ H' p, Same H H' → H p = none → H' p = some (.lst (hs.flatten.map V.str)) → Q (.ref p) H'
section
variable {P : Program} {w : World} {K : PySem.W.Frag} {mg : Str → Option Value} {base : Heap}
theorem ok_flat {f : Addr} {fd : FuncData} {k : Nat} (F : Fun K "_law_flat" "_law_flat" sFlat f fd) : FnOk P w K mg base CX0 (k + 1) f fd ["_law_some"] (spFlat K) := by
  refine F.ok scFlat (fun vs H Q E h => ?_) (fun cdv A outer s H vs Q E hr h => ?_)
  · obtain ⟨a, hs, rfl, _⟩ := h
    rfl
  · obtain ⟨a, hs, rfl, ⟨xs, hA, hV⟩, lf, q⟩ := h
    refine ⟨_, pss_cons (ps_set (i := 1) scFlat.nd rfl (.inl rfl) (pe_lst pa_nil))
      (pss_cons (ps_for PassesOwn.never rfl (pi_tup (pv 0)) (pg_name (i := 2) scFlat.nd rfl (.inl rfl))
        (pss_one (ps_expr (pe_bm PySem.F.plainAttrs_list PySem.F.slot_list_extend PySem.F.type_list_extend mt_extT (pv 1) (pa_cons (pv 2) pa_nil)))))
      (pss_one (ps_ret (pv 1)))), ?_⟩
    refine ⟨Nat.zero_le _, fun o ho => ?_⟩
    have s1 : Same H (upd H o (.lst [])) := same_new ho
    have sub : ∀ i, (hs.take i).flatten.length ≤ 1000 := fun i => Nat.le_trans (flat_take_le hs i) lf
    refine ⟨.ref a, rfl, a, rfl, ⟨_, same_t s1 hA⟩, for_tup (xs := xs) (fun i σ H' => ∃ y, σ = [some (.ref a), some (.ref o), y] ∧ Same H H' ∧ H' o = some (.lst ((hs.take i).flatten.map V.str))) ⟨none, rfl, s1, upd_same⟩ (fun i σ H' _ hP => ?_) (fun i x σ H' hx hP => ?_) (fun σ H' hP => ?_)⟩
    · obtain ⟨y, _, p1, _⟩ := hP
      exact same_t p1 hA
    · obtain ⟨y, rfl, p1, p2⟩ := hP
      obtain ⟨pa, pg, rfl, gpg, hpa⟩ := hV.item hx
      have et : (hs.take (i + 1)).flatten = (hs.take i).flatten ++ pg := by
        rw [List.take_add_one, gpg, List.flatten_append]
        show _ ++ (pg ++ []) = _
        rw [List.append_nil]
      have l1 := sub (i + 1)
      rw [et, List.length_append] at l1
      refine ⟨.ref o, rfl, .inl ⟨rfl, _, SqL.of p2⟩, _, rfl, o, pa, _, _, rfl, rfl, p2, same_t p1 hpa, ?_, ⟨_, rfl, same_own p1 ho, ?_⟩⟩
      · rw [List.length_map, List.length_map]
        exact sz1000 l1
      · rw [upd_same, et, List.map_append]
    · obtain ⟨y, rfl, p1, p2⟩ := hP
      rw [hV.len, List.take_length] at p2
      exact ⟨.ref o, rfl, q H' o p1 ho p2⟩
end
end M
namespace M
open PySem PySem.Spec PyProof.Rows L2 Gd RZ
/-- a walk over enumerate(t) -/
theorem walk_ent {K : PySem.W.Frag} {a : Addr} {xs : List V} {Qd : Hp → Prop} {Step : V → Hp → (Hp → Prop) → Prop} {H0 : Hp} (Pv : Nat → Hp → Prop) (h0 : Pv 0 H0) (hl : ∀ i H, Pv i H → SqT K H a xs)
    (hs : ∀ i x H t, xs[i]? = some x → Pv i H → H t = none → Step (.ref t) (upd H t (.tup [.int (i : Nat), x])) (Pv (i + 1))) (hd : ∀ H, Pv xs.length H → Qd H) :
    ∃ W : Nat → Nat → Hp → Prop, (∃ m, W 0 m H0) ∧ ∀ i m H, W i m H → ((Ent K a).stop i H ∧ Qd H) ∨ ((Ent K a).go i H ∧ ∃ Nx : Hp → Prop, (∀ H', Nx H' → ∃ m', m' < m ∧ W (i + 1) m' H') ∧ ∀ x H', (Ent K a).yld i H x H' → Step x H' Nx) := by
  refine ⟨fun i m H => (m + i = xs.length) ∧ Pv i H, ⟨xs.length, rfl, h0⟩, fun i m H h => ?_⟩
  obtain ⟨em, p⟩ := h
  have sa := hl i H p
  rcases Nat.lt_or_ge i xs.length with lt | ge
  · refine Or.inr ⟨⟨xs, xs[i], sa, List.getElem?_eq_getElem lt⟩, Pv (i + 1), fun H' p' => ⟨m - 1, by omega, by omega, p'⟩, ?_⟩
    rintro v H' ⟨t, x, rfl, ht, rfl, h1⟩
    exact hs i x H t (h1 xs sa) p ht
  · have ei : i = xs.length := by omega
    rw [ei] at p
    exact Or.inl ⟨⟨xs, sa, by omega⟩, hd H p⟩
/-- a dict that is made where it is walked over: it is locked at once -/
def tFrz (te : TE) : TE := fun σ H Q => te σ H fun x H1 => ∃ d u, x = .ref d ∧ H1 d = some u ∧ Mut (some u) ∧ ∀ od, Q x (upd H1 d (.frz od u))
theorem pe_frz {X : Cx} {e : Expr} {te : TE} (he : PE X e te) : PE X e (tFrz te) := by
  refine ⟨fun pins s σ H Q I h => thn (he.run pins s σ H _ I h) ?_⟩
  rintro v s1 ⟨x, H1, I1, r, d, u, rfl, hd, mu, q⟩
  obtain ⟨od, I2⟩ := I1.lock hd mu
  exact ⟨.ref d, _, I2, r, q od⟩
/-- the loop over the keys -/
theorem for_keys {d : Addr} {o : Obj} {kvs : List (Key × V)} {g : TG} {tb : TS} {D : Ends} {σ : L2.St} {H : Hp} (Pv : Nat → L2.St → Hp → Prop) (h0 : Pv 0 σ H) (hl : ∀ i σ H, Pv i σ H → H d = some (.frz o (.dK kvs)))
    (hs : ∀ i k v σ H, kvs[i]? = some (k, v) → Pv i σ H → g (kV k) σ H fun σ2 H2 => tb { D with nx := Pv (i + 1), ct := Pv (i + 1), bk := D.nx } σ2 H2) (hd : ∀ σ H, Pv kvs.length σ H → D.nx σ H) :
    ∃ W : Nat → Nat → L2.St → Hp → Prop, (∃ m, W 0 m σ H) ∧ ∀ i m σ H, W i m σ H →
      ((Itk d o kvs).stop i H ∧ D.nx σ H) ∨ ((Itk d o kvs).go i H ∧ ∃ N : L2.St → Hp → Prop, (∀ σ' H', N σ' H' → ∃ m', m' < m ∧ W (i + 1) m' σ' H') ∧ ∀ x H', (Itk d o kvs).yld i H x H' → g x σ H' fun σ2 H2 => tb { D with nx := N, ct := N, bk := D.nx } σ2 H2) := by
  refine ⟨fun i m σ H => (m + i = kvs.length) ∧ Pv i σ H, ⟨kvs.length, rfl, h0⟩, fun i m σ H h => ?_⟩
  obtain ⟨em, p⟩ := h
  have sq := hl i σ H p
  rcases Nat.lt_or_ge i kvs.length with lt | ge
  · refine Or.inr ⟨⟨sq, lt⟩, Pv (i + 1), fun σ' H' p' => ⟨m - 1, by omega, by omega, p'⟩, ?_⟩
    rintro x H' ⟨rfl, k, v, g1, rfl⟩
    exact hs i k v σ H' g1 p
  · have ei : i = kvs.length := by omega
    rw [ei] at p
    exact Or.inl ⟨⟨sq, by omega⟩, hd σ H p⟩
/-! ### is_history of a law -/
abbrev sLH : Stmt := topS 24
abbrev nLH : List Str := ["_law_item", "_law_name", "_law_there", "_law_one", "_law_nth", "_law_version"]
theorem scLH : FnScope nLH ["_law_item"] (defScope sLH) := ⟨rfl, rfl, rfl, by decide +kernel, rfl, by decide +kernel, by decide +kernel⟩
theorem hist_span (ds : List AD) : histB (.tup ds) = ((decide (1 ≤ ds.length) && decide (ds.length ≤ 40)) && (ds.all verD && (ddL [] (ds.map rowsD).flatten).all fun z => spanB (idxL (ds.map rowsD) z))) := by
  have : (!retB (ds.map rowsD)) = (ddL [] (ds.map rowsD).flatten).all fun z => spanB (idxL (ds.map rowsD) z) := by
    rw [Bool.eq_iff_iff, Bool.not_eq_true', ret_span, List.all_eq_true]
    refine forall_congr' fun z => ?_
    rw [ddL_mem]
    exact ⟨fun h q => h (q.elim (fun y => (nomatch y)) id), fun h q => h (.inr q)⟩
  show (_ && (_ && !retB (ds.map rowsD))) = _
  rw [this]
section
variable {P : Program} {w : World} {K : PySem.W.Frag} {mg : Str → Option Value} {base : Heap}
theorem ok_lh {f fV fF : Addr} {fd fdV fdF : FuncData} {k : Nat} (F : Fun K "_law_is_history" "_law_is_history" sLH f fd) (FV : Fun K "_law_is_version" "_law_is_version" sLVer fV fdV) (bV : Binds K fdV ["_law_item"] []) (gV : mg "_law_is_version" = some (.ref fV)) (GV : FnOk P w K mg base CX0 (k + 2) fV fdV ["_law_item"] (spVer K))
    (FF : Fun K "_law_flat" "_law_flat" sFlat fF fdF) (bF : Binds K fdF ["_law_some"] []) (gF : mg "_law_flat" = some (.ref fF))
    (mi : mg "isinstance" = none) (mt : mg "tuple" = none) (ml : mg "len" = none) (ma : mg "all" = none) (md : mg "dict" = none) (me : mg "enumerate" = none) : FnOk P w K mg base CX0 (k + 3) f fd ["_law_item"] (spIsH K) := by
  have GF : FnOk P w K mg base CX0 (k + 2) fF fdF ["_law_some"] (spFlat K) := ok_flat FF
  refine F.ok scLH (fun vs H Q E h => ?_) (fun cdv A outer s H vs Q E hr h => ?_)
  · obtain ⟨x, d, w, rfl, _⟩ := h
    rfl
  · obtain ⟨x, d, w, rfl, av, ok, hw, q⟩ := h
    refine ⟨_, pss_cons (ps_if (PW.pt (pw_or (pt_not (pt_val (pe_callB call_isi (by rfl) mi (by decide +kernel) (pa_cons (pv 0) (pa_cons (pe_bltn (v := .ty "tuple") (by rfl) mt (by decide +kernel) rfl) pa_nil)))))
        (pw_or (pt_not (pt_chain op_lt op_lt pe_int (pe_callB call_len (by rfl) ml PySem.boot_len (pa_cons (pv 0) pa_nil)) pe_int))
        (pw_or1 (pt_not (pt_val (pe_callB (cr_all rfl) (by rfl) ma (by decide +kernel) (pa_cons (pe_lc (own := [("_law_one", 3)]) (g := gName 3) (tt := tYes) (te := tCall (spVer K) [] E0 (tCons (tVar 3) tNil)) rfl scLH.nd (pi_tup (pv 0))
          (blkOk_by (own := [("_law_one", 3)]) (N := nLH) (sc := defScope sLH) (by decide +kernel)) (fun _ _ _ _ _ => pg_name (i := 3) scLH.nd rfl (.inl rfl)) (fun _ _ _ _ _ => pts_nil) (fun _ _ _ _ _ => pe_call GV hr (by rfl) gV FV.kp bV .nil pass0 (pa_cons (pv 3) pa_nil))) pa_nil))))))))
        (pss_one (ps_ret pe_bl)) pss_nil)
      (pss_cons (ps_for PassesOwn.never rfl (pi_keys (pe_frz (pe_callTy (call_dictP rfl) (by rfl) md (by decide +kernel) (pa_cons (pe_lc (own := [("_law_name", 1)]) (g := gName 1) (tt := tYes) (te := tTup (tCons (tVar 1) (tCons (tC (.bl true)) tNil))) rfl scLH.nd (pi_list (pe_call GF hr (by rfl) gF FF.kp bF .nil pass0 (pa_cons (pv 0) pa_nil)))
          (blkOk_by (own := [("_law_name", 1)]) (N := nLH) (sc := defScope sLH) (by decide +kernel)) (fun _ _ _ _ _ => pg_name (i := 1) scLH.nd rfl (.inl rfl)) (fun _ _ _ _ _ => pts_nil) (fun _ _ _ _ _ => pe_tup (pa_cons (pv 1) (pa_cons pe_bl pa_nil)))) pa_nil)))) (pg_name (i := 1) scLH.nd rfl (.inr rfl))
        (pss_cons (ps_setLc (i := 2) (own := [("_law_nth", 4), ("_law_version", 5)]) (g := gTup K 2 (gCons (gName 4) (gCons (gName 5) gNil))) (tt := tTest (tOp (rIn K false) (tVar 1) (tVar 5))) (te := tVar 4) (by rfl) scLH.nd rfl rfl (sw_true rfl rfl rfl (by decide +kernel)) (pi_ent (by rfl) me (pa_cons (pv 0) pa_nil))
          (blkOk_by (own := [("_law_nth", 4), ("_law_version", 5)]) (N := nLH) (sc := defScope sLH) (by decide +kernel)) (fun _ _ _ _ _ => pg_tup (by rfl) (pgs_cons (pg_name (i := 4) scLH.nd rfl (.inl rfl)) (pgs_cons (pg_name (i := 5) scLH.nd rfl (.inl rfl)) pgs_nil))) (fun _ _ _ _ _ => pts_one (pt_cmpR op_in_seq (pv 1) (pv 5) (by rfl))) (fun _ _ _ _ _ => pv 4))
        (pss_one (ps_if (pt_cmpR op_ne (pe_op op_add (pe_op op_sub (pe_ix ix_list (pv 2) (pe_un un_neg pe_int) (fun _ _ => rfl)) (pe_ix ix_list (pv 2) pe_int (fun _ _ => rfl))) pe_int) (pe_callB call_len (by rfl) ml PySem.boot_len (pa_cons (pv 2) pa_nil)) (nomark _)) (pss_one (ps_ret pe_bl)) pss_nil))))
      (pss_one (ps_ret pe_bl))), ?_⟩
    have qH := q H (Same.refl H)
    obtain ⟨T, kd, kt, _⟩ := av.kd2
    refine ⟨_, rfl, x, _, _, _, _, rfl, .ty "tuple", kd.ty, kit_ty kt, _, rfl, ?_⟩
    cases av with
    | non => exact iteT (iteT qH)
    | bl b => exact iteT (iteT qH)
    | int i => exact iteT (iteT qH)
    | str z => exact iteT (iteT qH)
    | lst hl => exact iteT (iteT qH)
    | dct hl => exact iteT (iteT qH)
    | @tup b ys ds hb r =>
      refine iteF ?_
      have okd : ds.length ≤ w ∧ AD.okAll w ds := ok
      have oke := okAll_iff.mp okd.2
      have ln := r.len
      have ev := hist_span ds
      refine ⟨_, rfl, _, ys.length, rfl, .inr ⟨_, hb, rfl⟩, _, _, rfl, rfl, _, rfl, ?_⟩
      by_cases h1 : 1 ≤ ds.length
      · rw [decide_eq_true (show (0 : Int) < (ys.length : Nat) by omega)]
        refine iteT ⟨_, _, rfl, rfl, _, rfl, ?_⟩
        by_cases h2 : ds.length ≤ 40
        · rw [decide_eq_true (show ((ys.length : Nat) : Int) < 41 by omega)]
          refine iteF ?_
          rw [decide_eq_true h1, decide_eq_true h2, Bool.true_and, Bool.true_and] at ev
          refine ⟨.ref b, rfl, b, rfl, ⟨_, hb⟩, fun D hD => walk_tup (xs := ys) (fun i H' => Same H H' ∧ H' D = some (.lst (((ds.take i).map verD).map V.bl))) ⟨same_new hD, upd_same⟩ (fun i H' _ hP => same_t hP.1 hb) (fun i x H' hx hP => ?_) (fun H' hP => ?_)⟩
          · obtain ⟨p1, p2⟩ := hP
            obtain ⟨dx, gx, ax⟩ := r.get hx
            have hi : i < ds.length := (List.getElem?_eq_some_iff.mp gx).1
            refine ⟨rfl, lc_yes ?_⟩
            refine ⟨_, rfl, x, dx, w, rfl, ax.same p1, oke dx (List.mem_of_getElem? gx), hw, fun H2 s2 => ?_⟩
            refine ⟨_, s2 _ _ p2, ?_, same_own (p1.trans s2) hD, ?_⟩
            · rw [List.length_map, List.length_map, List.length_take]
              exact small1000 (by omega)
            · rw [upd_same, List.take_add_one, gx, List.map_append, List.map_append]
              rfl
          · obtain ⟨p1, p2⟩ := hP
            rw [ln, List.take_length] at p2
            refine ⟨D, _, rfl, SqL.of p2, _, rfl, ?_⟩
            rw [List.all_map]
            show if (!ds.all verD) = true then _ else _
            by_cases ha : ds.all verD = true
            · rw [ha]
              refine iteF ?_
              rw [ha, Bool.true_and] at ev
              have va := List.all_eq_true.mp ha
              have vs := vers_at r va
              have hA : HistAt K H' b (ds.map rowsD) := ⟨_, same_t p1 hb, vs.keep fun _ _ => same_t p1⟩
              have lw : ∀ v ∈ ds.map rowsD, v.length ≤ 24 := fun v hv => by
                obtain ⟨d, hd, rfl⟩ := List.mem_map.mp hv
                obtain ⟨es, rfl, h3, _⟩ := verD_tup (va d hd)
                show (strsD es).length ≤ 24
                rw [strsD_len]
                exact h3
              have lhs : (ds.map rowsD).length ≤ 40 := by rw [List.length_map]; exact h2
              have hyl : ys.length = (ds.map rowsD).length := by rw [List.length_map, ln]
              generalize ds.map rowsD = hs at ev vs hA lw lhs hyl
              have lf : hs.flatten.length ≤ 1000 := by
                have : ∀ l : List (List Str), (∀ v ∈ l, v.length ≤ 24) → l.flatten.length ≤ 24 * l.length := by
                  intro l
                  induction l with
                  | nil => intro _; exact Nat.le_refl _
                  | cons v l ih =>
                    intro h
                    have a := ih fun u hu => h u (List.mem_cons_of_mem _ hu)
                    have b := h v List.mem_cons_self
                    rw [List.flatten_cons, List.length_append, List.length_cons]
                    omega
                have := this hs lw
                omega
              refine ⟨.ref b, rfl, b, hs, rfl, hA, lf, fun H2 g s2 n2 e2 => ?_⟩
              refine ⟨g, rfl, ⟨_, SqL.of e2⟩, fun D2 hD2 => lc_list (xs := hs.flatten.map V.str) (fun i H3 => Same H2 H3 ∧ PairsAt K H3 D2 (hs.flatten.take i)) ⟨same_new hD2, PairsAt.nil upd_same⟩ (fun i H3 _ hP => SqL.of (hP.1 _ _ e2)) (fun i x H3 hx hP => ?_) (fun H3 hP => ?_)⟩
              · obtain ⟨q1, q2⟩ := hP
                rw [List.getElem?_map] at hx
                obtain ⟨y, hy, rfl⟩ := Option.map_eq_some_iff.mp hx
                have hi : i < hs.flatten.length := (List.getElem?_eq_some_iff.mp hy).1
                refine ⟨rfl, lc_yes ?_⟩
                refine ⟨_, rfl, (by show 2 ≤ sizeLine; decide), fun t ht => ?_⟩
                obtain ⟨acc, e1, e2, e3⟩ := q2.step (y := y) ht
                refine ⟨acc, e1, ?_, same_own (q1.trans (same_new ht)) hD2, ?_⟩
                · rw [e2, List.length_take]
                  exact small1000 (by omega)
                · rw [List.take_add_one, hy]
                  exact e3
              · obtain ⟨q1, q2⟩ := hP
                rw [List.length_map, List.take_length] at q2
                obtain ⟨ps, p2, p3, p4⟩ := q2
                refine ⟨D2, ps, _, rfl, SqL.of p2, p4, fun m hm => ?_⟩
                have em : mergeK [] (hs.flatten.map ent) = (ddL [] hs.flatten).map ent := merge_ent hs.flatten []
                have s03 := p1.trans (s2.trans q1)
                have nm : H m = none := s03.free hm
                refine ⟨m, _, rfl, upd_same, trivial, fun od => ⟨m, od, rfl, .inl ⟨mergeK [] (hs.flatten.map ent), upd_same, ?_⟩⟩⟩
                have s04 : Same H (upd (upd H3 m (.dK (mergeK [] (hs.flatten.map ent)))) m (.frz od (.dK (mergeK [] (hs.flatten.map ent))))) := same_own (s03.trans (same_new hm)) nm
                have e04 : (upd (upd H3 m (.dK (mergeK [] (hs.flatten.map ent)))) m (.frz od (.dK (mergeK [] (hs.flatten.map ent))))) m = some (.frz od (.dK (mergeK [] (hs.flatten.map ent)))) := upd_same
                generalize upd (upd H3 m (.dK (mergeK [] (hs.flatten.map ent)))) m (.frz od (.dK (mergeK [] (hs.flatten.map ent)))) = H4 at s04 e04 ⊢
                rw [em] at e04 ⊢
                generalize hn : ddL [] hs.flatten = names at ev e04 ⊢
                have hnm : ∀ z ∈ names, z ∈ hs.flatten := fun z hz => by
                  rw [← hn, ddL_mem] at hz
                  exact hz.elim (fun y => (nomatch y)) id
                refine for_keys (fun i σ H' => ∃ y1 y2 y3 y4 y5, σ = [some (.ref b), y1, y2, y3, y4, y5] ∧ Same H4 H' ∧ (names.take i).all (fun z => spanB (idxL hs z)) = true) ⟨_, _, _, _, _, rfl, Same.refl H4, rfl⟩ (fun i σ H' hP => ?_) (fun i k v σ H5 hk hP => ?_) (fun σ H' hP => ?_)
                · obtain ⟨y1, y2, y3, y4, y5, rfl, q1, _⟩ := hP
                  exact q1 _ _ e04
                · obtain ⟨y1, y2, y3, y4, y5, rfl, q1, q3⟩ := hP
                  rw [List.getElem?_map] at hk
                  obtain ⟨z, hz, ez⟩ := Option.map_eq_some_iff.mp hk
                  cases ez
                  have s05 := s04.trans q1
                  have hb5 := same_t s05 hb
                  refine ⟨.ref b, rfl, b, ys, rfl, hb5, fun D3 hD3 => walk_ent (xs := ys) (fun j H6 => Same H5 H6 ∧ H6 D3 = some (.lst (((List.range j).filter (hasN hs z)).map fun (n : Nat) => V.int n))) ⟨same_new hD3, upd_same⟩ (fun j H6 hP => same_t hP.1 hb5) (fun j x H6 t hx hP ht => ?_) (fun H6 hP => ?_)⟩
                  · obtain ⟨u1, u2⟩ := hP
                    obtain ⟨bv, v, rfl, gv, hv⟩ := vs.item hx
                    have hj : j < hs.length := (List.getElem?_eq_some_iff.mp gv).1
                    have ehas : hasN hs z j = v.contains z := by
                      unfold hasN
                      rw [List.getD_eq_getElem?_getD, gv]
                      rfl
                    have sn := same_new ht (o := .tup [.int (j : Nat), .ref bv])
                    have e3 : (upd H6 t (.tup [.int (j : Nat), .ref bv])) D3 = some (.lst (((List.range j).filter (hasN hs z)).map fun (n : Nat) => V.int n)) := sn _ _ u2
                    have hv6 := same_t (s05.trans (u1.trans sn)) hv
                    refine ⟨t, _, rfl, SqT.of upd_same, rfl, _, _, rfl, _, _, rfl, rfl, rfl, _, rfl, .ref bv, rfl, bv, _, rfl, .inr hv6, rfl, flat_strs v, _, rfl, ?_⟩
                    show if (inV (.str z) (v.map V.str)) = true then _ else _
                    rw [inV_strs, ← ehas]
                    have er : (List.range (j + 1)).filter (hasN hs z) = (List.range j).filter (hasN hs z) ++ (if hasN hs z j = true then [j] else []) := by
                      rw [List.range_succ, List.filter_append, List.filter_cons, List.filter_nil]
                    refine ite2 (fun h => ?_) (fun h => ?_)
                    · refine ⟨_, rfl, _, e3, ?_, same_own (u1.trans sn) hD3, ?_⟩
                      · rw [List.length_map]
                        exact small1000 (Nat.le_trans (List.length_filter_le _ _) (by rw [List.length_range]; omega))
                      · rw [upd_same, er, if_pos h, List.map_append]
                        rfl
                    · refine ⟨u1.trans sn, ?_⟩
                      rw [er, if_neg h, List.append_nil]
                      exact e3
                  · obtain ⟨u1, u2⟩ := hP
                    rw [hyl] at u2
                    obtain ⟨f0, r0, l0, e0, el0⟩ := idx_ne (hnm z (List.mem_of_getElem? hz))
                    have u3 : H6 D3 = some (.lst ((f0 :: r0).map fun (n : Nat) => V.int n)) := by
                      rw [← e0]
                      exact u2
                    have gl : atI ((f0 :: r0).map fun (n : Nat) => V.int n) (-1) = some (V.int l0) := by
                      obtain ⟨zs, hzs⟩ := List.getLast?_eq_some_iff.mp el0
                      rw [hzs, List.map_append]
                      exact atI_last _ _
                    have ll : (f0 :: r0).length ≤ 40 := by
                      rw [← e0]
                      exact Nat.le_trans (List.length_filter_le _ _) (by rw [List.length_range]; exact lhs)
                    refine ⟨_, rfl, 1, rfl, D3, _, -1, _, rfl, rfl, SqL.of u3, gl, _, rfl, D3, _, ((0 : Nat) : Int), _, rfl, rfl, SqL.of u3, atI_nat rfl, _, _, rfl, rfl, _, 1, rfl, rfl, _, rfl, _, _, rfl, .inl ⟨_, SqL.of u3, rfl⟩, rfl, _, rfl, ?_⟩
                    rw [List.length_map]
                    have es : spanB (idxL hs z) = decide (((l0 : Nat) : Int) - ((f0 : Nat) : Int) + 1 = ((f0 :: r0).length : Nat)) := by
                      rw [e0]
                      unfold spanB
                      rw [el0]
                    have e6 : decide (V.int (((l0 : Nat) : Int) - ((f0 : Nat) : Int) + 1) = V.int ((f0 :: r0).length : Nat)) = spanB (idxL hs z) := by
                      rw [es, decide_eq_decide]
                      exact ⟨fun y => V.int.inj y, fun y => by rw [y]⟩
                    rw [e6]
                    cases e7 : spanB (idxL hs z) with
                    | true =>
                      refine iteF ⟨_, _, _, _, _, rfl, q1.trans u1, ?_⟩
                      rw [List.take_add_one, hz, List.all_append, q3]
                      show (spanB (idxL hs z) && true) = true
                      rw [e7]
                      rfl
                    | false =>
                      refine iteT ?_
                      have : names.all (fun z => spanB (idxL hs z)) = false := by
                        rw [Bool.eq_false_iff]
                        intro y
                        have := List.all_eq_true.mp y z (List.mem_of_getElem? hz)
                        rw [e7] at this
                        cases this
                      have y := q H6 (s05.trans u1)
                      rw [ev, this] at y
                      exact y
                · obtain ⟨y1, y2, y3, y4, y5, rfl, q1, q3⟩ := hP
                  rw [List.length_map, List.take_length] at q3
                  have z := q H' (s04.trans q1)
                  rw [ev, q3] at z
                  exact z
            · have ha := Bool.eq_false_iff.mpr ha
              rw [ha]
              refine iteT ?_
              rw [ha, Bool.false_and] at ev
              have z := q H' p1
              rw [ev] at z
              exact z
        · rw [decide_eq_false (show ¬ ((ys.length : Nat) : Int) < 41 by omega)]
          refine iteT (iteT ?_)
          rw [decide_eq_false h2, Bool.and_false, Bool.false_and] at ev
          rw [ev] at qH
          exact qH
      · rw [decide_eq_false (show ¬ (0 : Int) < (ys.length : Nat) by omega)]
        refine iteF ⟨_, rfl, iteT (iteT ?_)⟩
        rw [decide_eq_false h1, Bool.false_and, Bool.false_and] at ev
        rw [ev] at qH
        exact qH
end
end M
namespace M
open PySem PySem.Spec PyProof.Rows L2 Gd
/-! ### a text beside a value of any kind -/
section
variable {A : Around} {s : Shared}
set_option maxHeartbeats 2000000 in
theorem dict_eq_declines_str (l : Addr) (o : Obj) (hx : o.ExactDict) (b : Str) (u : Tok) :
    Meets (Builtin.«dict.__eq__» ⟨[.ref l, .str b u], []⟩) (fun _ R s => s.heap.get? l = some o ∧ R (.ok (.ret .notImplemented)) s) :=
  .of_wp fun prog w A R s h => by
    obtain ⟨hp, g, d, tk, os⟩ := s
    obtain ⟨hl, h⟩ := h
    obtain ⟨ocls, odict, odata, oslots⟩ := o
    obtain ⟨hc, h2, h3⟩ := id hx
    simp only at hc
    subst hc
    have f1 := PySem.F.sub_str_dict
    wp_walk using wpAny_loadPart' hl, wpAny_load hl
    exact ⟨_, rfl, h⟩
set_option maxHeartbeats 2000000 in
theorem str_eq_declines_dict (b : Str) (u : Tok) (l : Addr) (o : Obj) (hx : o.ExactDict) {es : Array DictEntry} {ep : Nat} (hd : o.data = .dict es ep) :
    Meets (Builtin.«str.__eq__» ⟨[.str b u, .ref l], []⟩) (fun _ R s => s.heap.get? l = some o ∧ R (.ok (.ret .notImplemented)) s) :=
  .of_wp fun prog w A R s h => by
    obtain ⟨hp, g, d, tk, os⟩ := s
    obtain ⟨hl, h⟩ := h
    obtain ⟨ocls, odict, odata, oslots⟩ := o
    obtain ⟨hc, h2, h3⟩ := id hx
    simp only at hc hd
    subst hc hd
    wp_walk using wpAny_loadPart' hl, wpAny_load hl
    exact ⟨_, rfl, h⟩
theorem RcAt_dict_str {l : Addr} {o : Obj} (b : Str) (u : Tok) (ho : s.heap.get? l = some o) (hx : o.ExactDict) {es : Array DictEntry} {ep : Nat} (hd : o.data = .dict es ep) (hu : A.units < cLine) : SeqAt.RcAt A s (.ref l) (.str b u) false := fun prog w E Q h =>
  SeqAt.rc_eq_decline_or (k := false) ⟨o, ho, hx.1⟩ (typeIs_str s b u) (by decide) PySem.F.sub_str_dict PySem.F.slot_dict_eq PySem.F.slot_str_eq_refl
    (fun _ hq => call_meets PySem.F.slot_dict_eq ⟨o, ho, hx.1⟩ PySem.F.entry_dict_eq (PySem.F.args_dict_eq_2 _ _) (dict_eq_declines_str l o hx b u) ⟨ho, hq⟩)
    (fun _ hq => call_meets PySem.F.slot_str_eq_refl (typeIs_str s b u) PySem.F.entry_str_eq (PySem.F.args_str_eq_2 _ _) (str_eq_declines_dict b u l o hx hd) ⟨ho, hq⟩)
    (fun _ hq => wpAny_of_eq (rfl : isSame (.ref l) (.str b u) = pure false) hq) (.inr hu) h
theorem EqAt_dict_str {l : Addr} {o : Obj} (b : Str) (u : Tok) (ho : s.heap.get? l = some o) (hx : o.ExactDict) {es : Array DictEntry} {ep : Nat} (hd : o.data = .dict es ep) (hu : A.units < cLine) : SeqAt.EqAt A s (.ref l) (.str b u) false := fun prog w E Q h => by
  unfold eqBool
  refine wpAny_holding ?_
  refine wpAny_ite_split (fun hab => absurd (eq_of_beq hab) nofun) (fun _ => ?_)
  exact wpAny_bind (RcAt_dict_str b u ho hx hd hu prog w E _ (wpAny_truthy_bool h))
end
def eqSD (z : Str) : AD → Bool
  | .str y => y == z
  | _ => false
section
variable {X : Cx}
theorem eqAt_av {pins : List (Addr × Obj)} {σ : L2.St} {H : Hp} {s : Shared} (I : Inv X pins σ H s) {A : Around} (hu : A.units < cLine) {x : V} {d : AD} {u : Value} (av : Av X.K H x d) (r : RelV x u) (z : Str) (t : Tok) : SeqAt.EqAt A s u (.str z t) (eqSD z d) := by
  cases av with
  | non =>
    cases (show u = Value.none from r)
    exact SeqAt.EqAt.none_str z t
  | bl b =>
    cases (show u = Value.bool b from r)
    exact SeqAt.EqAt.bool_str b z t
  | int i =>
    obtain ⟨k, rfl⟩ := r
    exact SeqAt.EqAt.int_str i k z t
  | str y =>
    obtain ⟨k, rfl⟩ := r
    exact SeqAt.EqAt.str_str y k z t
  | lst h =>
    cases r
    obtain ⟨its, _, pl, _⟩ := I.list h
    exact SeqAt.EqAt.list_str z t pl.isList hu
  | tup h _ =>
    cases r
    obtain ⟨its, _, pl, _⟩ := I.tuple h
    exact SeqAt.EqAt.tuple_str z t pl hu
  | dct h =>
    cases r
    obtain ⟨_, _, vs, _, hd⟩ := I.hok _ _ h
    obtain ⟨o, es, ep, ho, hx, hda, _⟩ := hd
    exact EqAt_dict_str z t ho hx hda hu
def eV (z : Str) : Value → Bool
  | .str y _ => y == z
  | _ => false
theorem eV_av {K : PySem.W.Frag} {H : Hp} {x : V} {d : AD} {u : Value} (av : Av K H x d) (r : RelV x u) (z : Str) : eV z u = eqSD z d := by
  cases av with
  | non => cases (show u = Value.none from r); rfl
  | bl b => cases (show u = Value.bool b from r); rfl
  | int i => obtain ⟨k, rfl⟩ := r; rfl
  | str y => obtain ⟨k, rfl⟩ := r; rfl
  | lst h => cases r; rfl
  | tup h _ => cases r; rfl
  | dct h => cases r; rfl
theorem any_eV {K : PySem.W.Frag} {H : Hp} (z : Str) : ∀ {xs : List V} {ds : List AD} {us : List Value}, AvAll K H xs ds → Vals xs us → us.any (eV z) = ds.any (eqSD z)
  | _, _, _, .nil, .nil => rfl
  | _, _, _, .cons a r, .cons v vs => by
    rw [List.any_cons, List.any_cons, eV_av a v z, any_eV z r vs]
theorem mem_av {pins : List (Addr × Obj)} {σ : L2.St} {H : Hp} {s : Shared} (I : Inv X pins σ H s) {A : Around} (hu : A.units < cLine) (z : Str) (t : Tok) : ∀ {xs : List V} {ds : List AD} {us : List Value}, AvAll X.K H xs ds → Vals xs us → ∀ u ∈ us, SeqAt.EqAt A s u (.str z t) (eV z u)
  | _, _, _, .nil, .nil => fun u hu => by cases hu
  | _, _, _, .cons a r, .cons v vs => fun u hm => by
    rcases List.mem_cons.mp hm with rfl | hm
    · rw [eV_av a v z]
      exact eqAt_av I hu a v z t
    · exact mem_av I hu z t r vs u hm
/-- text in a tuple of values of any kind -/
def rInA (K : PySem.W.Frag) (neg : Bool) : R2 := fun x y H Q => ∃ p xs ds z, x = .str z ∧ y = .ref p ∧ SqT K H p xs ∧ AvAll K H xs ds ∧ Q (.bl (if neg then !ds.any (eqSD z) else ds.any (eqSD z))) H
theorem op_in_any (hu : X.A.units + 64 < cLine) : OpR X (compareOp .In) (rInA X.K false) := by
  intro pins s σ H x y v u Q I rx ry h
  obtain ⟨p, xs, ds, z, rfl, rfl, hq, av, q⟩ := h
  cases ry
  obtain ⟨t, rfl⟩ := rx
  obtain ⟨its, r, pl, hz⟩ := I.tuple hq
  have hu1 : X.A.in1.units < cLine := by show X.A.units + _ < _; omega
  refine SeqAt.in_tupleAt (eV z) pl (fun w hw => mem_av I hu1 z t av r w (by simpa using hw)) ⟨.bl _, H, I, rfl, ?_⟩
  rw [show its.toArray.any (eV z) = its.any (eV z) by simp, any_eV z av r]
  exact q
/-- a tuple of values of any kind, and one of texts -/
def eqDS : List AD → List Str → Bool
  | [], [] => true
  | d :: ds, z :: zs => eqSD z d && eqDS ds zs
  | _, _ => false
def rEqA (K : PySem.W.Frag) : R2 := fun x y H Q => ∃ p b xs ds zs, x = .ref p ∧ y = .ref b ∧ SqT K H p xs ∧ AvAll K H xs ds ∧ SqT K H b (zs.map V.str) ∧ Q (.bl (eqDS ds zs)) H
theorem eqDS_range : ∀ (ds : List AD) (zs : List Str), eqDS ds zs = ((List.range (min ds.length zs.length)).all (fun j => eqSD (zs.getD j "") (ds.getD j .non)) && (ds.length == zs.length))
  | [], [] => rfl
  | [], z :: zs => by
    show false = ((List.range (min 0 (zs.length + 1))).all _ && (0 == zs.length + 1))
    rw [show ((0 : Nat) == zs.length + 1) = false from rfl, Bool.and_false]
  | d :: ds, [] => by
    show false = ((List.range (min (ds.length + 1) 0)).all _ && (ds.length + 1 == 0))
    rw [show ((ds.length + 1 : Nat) == 0) = false from rfl, Bool.and_false]
  | d :: ds, z :: zs => by
    show (eqSD z d && eqDS ds zs) = ((List.range (min (ds.length + 1) (zs.length + 1))).all _ && (ds.length + 1 == zs.length + 1))
    rw [eqDS_range ds zs, Nat.succ_min_succ, List.range_succ_eq_map, List.all_cons, List.all_map, Bool.and_assoc]
    rw [show (ds.length + 1 == zs.length + 1) = (ds.length == zs.length) from by rw [Bool.eq_iff_iff, beq_iff_eq, beq_iff_eq]; omega]
    rfl
theorem op_eq_any (hu : X.A.units + 64 < cLine) : OpR X (compareOp .Eq) (rEqA X.K) := by
  intro pins s σ H x y v u Q I rx ry h
  obtain ⟨p, b, xs, ds, zs, rfl, rfl, hq, av, hb, q⟩ := h
  cases rx
  cases ry
  obtain ⟨its, r, pl, hz⟩ := I.tuple hq
  obtain ⟨its2, r2, pl2, hz2⟩ := I.tuple hb
  have hu1 : X.A.in1.units < cLine := by show X.A.units + 1 < _; omega
  have l1 : its.toArray.size = ds.length := by rw [List.size_toArray, ← r.length, av.len]
  have l2 : its2.toArray.size = zs.length := by rw [List.size_toArray, ← r2.length, List.length_map]
  refine SeqAt.eq_tupleAt (e := fun j => eqSD (zs.getD j "") (ds.getD j .non)) pl pl2 (by omega) (fun j h1 h2 => ?_) ⟨.bl _, H, I, rfl, ?_⟩
  · have hj1 : j < xs.length := by rw [av.len, ← l1]; exact h1
    have hj2 : j < zs.length := by rw [← l2]; exact h2
    obtain ⟨d, gd, ax⟩ := av.get (List.getElem?_eq_getElem hj1)
    obtain ⟨u1, gu1, ru1⟩ := r.get (List.getElem?_eq_getElem hj1)
    have gz : (zs.map V.str)[j]? = some (.str zs[j]) := by rw [List.getElem?_map, List.getElem?_eq_getElem hj2]; rfl
    obtain ⟨u2, gu2, ru2⟩ := r2.get gz
    obtain ⟨t, rfl⟩ := ru2
    have e1 : its.toArray[j] = u1 := by
      have := (List.getElem?_eq_some_iff.mp gu1).2
      simpa using this
    have e2 : its2.toArray[j] = .str zs[j] t := by
      have := (List.getElem?_eq_some_iff.mp gu2).2
      simpa using this
    rw [e1, e2]
    have e3 : zs.getD j "" = zs[j] := by rw [List.getD_eq_getElem?_getD, List.getElem?_eq_getElem hj2]; rfl
    have e4 : ds.getD j .non = d := by rw [List.getD_eq_getElem?_getD, gd]; rfl
    show SeqAt.EqAt _ _ _ _ (eqSD (zs.getD j "") (ds.getD j .non))
    rw [e3, e4]
    exact eqAt_av I hu1 ax ru1 _ t
  · rw [l1, l2, ← eqDS_range]
    exact q
end
end M
namespace M
open PySem PySem.Spec PyProof.Rows L2 Gd
/-! ### sorted(t), t a tuple of texts -/
section
variable {prog : Program} {w : World} {A : Around} {E : Value → Shared → Prop} {s : Shared}
theorem collect_tup {l : Addr} {vs : List Value} {Q : List Value → Shared → Prop} (hl : IsTup s.heap l vs.toArray) (hsz : vs.length ≤ sizeLine)
    (h : ∀ h' : Heap, (∀ b o, s.heap.get? b = some o → h'.get? b = some o) → Q vs { s with heap := h' }) : wpAny (model prog w) A (collect (.ref l)) Q E s := by
  obtain ⟨o, ho, hc, n, hd⟩ := id hl
  unfold collect
  refine wpAny_bind (wpAny_runValue (codeAny_builtin entry_proto_collect' ?_))
  show wpAny _ _ (do again (.builtin "list.__iadd__" ⟨[← newList [], .ref l], []⟩)) _ _ s
  refine wpAny_bind (wpAny_newList (wpAny_pure ⟨Code.quiet_builtin _ (by decide +kernel), codeAny_builtin entry_list_iadd' ?_⟩))
  show wpAny _ _ (Builtin.List.listExtendWith (.ref s.heap.objs.size) (.ref l) (.ref s.heap.objs.size)) _ _ { s with heap := s.heap.push (seqObj "list" #[] 0) }
  unfold Builtin.List.listExtendWith
  have old : ∀ b u, s.heap.get? b = some u → (s.heap.push (seqObj "list" #[] 0)).get? b = some u := fun b u e => Heap.get?_push_of_some _ e
  have new : (s.heap.push (seqObj "list" #[] 0)).get? s.heap.objs.size = some (seqObj "list" #[] 0) := Heap.get?_push_size _ rfl
  refine wpAny_bind (wpAny_typeOf (T := "tuple") ⟨o, old _ _ ho, hc⟩ ?_)
  have tt : (Value.type "tuple" == Value.type "tuple") = true := by rfl
  rw [if_pos (by rw [tt]; simp)]
  refine wpAny_bind (listItems_at (old _ _ ho) hd ?_)
  refine wpAny_bind (listItems_at (xs := #[]) (n := 0) new rfl ?_)
  rw [if_neg (by simp)]
  refine wpAny_bind (listUpdate_at (xs := #[]) (n := 0) new rfl ?_ (Nat.zero_le _) ?_)
  · refine wpAny_pure ?_
    show wpAny (model prog w) A (do
      let o ← load s.heap.objs.size
      match o.data with
      | .seq xs _ => pure xs.toList
      | _ => unsupported "internal:collect") Q E _
    refine wpAny_bind (wpAny_load (get?_update_seq new _) ?_)
    show wpAny _ _ (pure ((#[] : Array Value) ++ vs.toArray).toList) Q E _
    have e : ((#[] : Array Value) ++ vs.toArray).toList = vs := by simp
    rw [e]
    refine wpAny_pure (h _ fun b u e => ?_)
    have ne : b ≠ s.heap.objs.size := Nat.ne_of_lt (Heap.lt_size e)
    rw [Heap.get?_update_ne _ _ _ _ ne]
    exact old b u e
  · show ((#[] : Array Value) ++ vs.toArray).size ≤ sizeLine + 1
    simp only [Array.size_append, List.size_toArray, List.length_nil]
    omega
end
def rSortT (K : PySem.W.Frag) : List V → Hp → VK → Prop := fun vs H Q => ∃ (a : Addr) (xs : List Str), vs = [V.ref a] ∧ SqT K H a (xs.map V.str) ∧ xs.length < 64 ∧ ∀ (ys : List Str) (p : Addr), ys.Perm xs → sortedS ys = true → H p = none → Q (.ref p) (upd H p (.lst (ys.map V.str)))
theorem cr_sortT0 {X : Cx} : CallR X (.builtin "sorted") (rSortT X.K) := by
  rintro pins s σ H vs us Q I r ⟨a, xs, rfl, ht, h64, q⟩
  obtain ⟨u, rfl, rx⟩ := vals1 r
  cases rx
  obtain ⟨its, rv, tp, _⟩ := I.tuple ht
  have hS := rv.strs
  have hlen : its.length = xs.length := by
    have z := rv.length
    rw [List.length_map] at z
    exact z.symm
  have sz : its.length ≤ sizeLine := sz1000 (by omega)
  refine Calls.call_function_entry kind_sorted plain_sorted entry_sorted (args_sorted1 _) ?_
  unfold Builtin.«sorted»
  refine wpAny_bind (m := checkCount "sorted" 1 1 _) (wpAny_pure ?_)
  refine wpAny_bind (collect_tup tp sz fun h' hk => ?_)
  have J : Inv X pins σ H { s with heap := h' } := I.kept (t' := s.toks) hk
  refine wpAny_bind (wpAny_newList ?_ sz)
  have at_new : (h'.push (seqObj "list" its.toArray 0)).get? h'.objs.size = some (seqObj "list" its.toArray 0) := Heap.get?_push_size _ rfl
  show wpAny _ _ _ _ _ { s with heap := h'.push (seqObj "list" its.toArray 0) }
  refine wpAny_bind (wpAny_holding (wpAny_call_entry slot_list_sort ⟨_, at_new, rfl⟩ entry_list_sort (list_sort_treeK strKind_oneLt (s := { s with heap := h'.push (seqObj "list" its.toArray 0) }) at_new hS.keysOf (fun _ _ _ e => keyKind_strs (by rw [← e]; exact hS)) (by omega) fun st hp hs => ⟨_, rfl, ?_⟩) (args_list_sort _)))
  obtain ⟨ys, g1, g2, g3⟩ := sorted_out_str hS hp hs
  obtain ⟨ep, he⟩ := sortedHeap_at (vs := its) (out := (arrOf st).map (·.2)) at_new
  have small : (ys.map V.str).length ≤ sizeLine := by
    rw [List.length_map, g2.length_eq]
    exact sz1000 (by omega)
  refine wpAny_pure ⟨_, rfl, .ref h'.objs.size, upd H h'.objs.size (.lst (ys.map V.str)), J.laid (t' := s.toks) (fun b u e => ?_) (Nat.le_refl _) ?_, rfl, q ys _ g2 g3 (J.hok.fresh (Nat.le_refl _))⟩
  · have lt : b < h'.objs.size := Heap.lt_size e
    rw [sortedHeap_old (Nat.ne_of_lt lt) (by rw [size_push']; exact Nat.lt_succ_of_lt lt)]
    exact Heap.get?_push_of_some _ e
  · exact ⟨small, ((arrOf st).map (·.2)).toList, ep, vals_of_strs g1, by rw [Array.toArray_toList]; exact he⟩
end M
namespace M
open PySem PySem.Spec PyProof.Rows L2 Gd
/-! ### what sorted rows are -/
def leS (x y : Str) : Prop := x.cps.toList ≤ y.cps.toList
instance (x y : Str) : Decidable (leS x y) := inferInstanceAs (Decidable (x.cps.toList ≤ y.cps.toList))
theorem leS_trans {x y z : Str} (a : leS x y) (b : leS y z) : leS x z := List.le_trans a b
theorem leS_total (x y : Str) : leS x y ∨ leS y x := List.le_total _ _
theorem leS_antisymm {x y : Str} (a : leS x y) (b : leS y x) : x = y := by
  have e : x.cps.toList = y.cps.toList := List.le_antisymm a b
  obtain ⟨xs⟩ := x
  obtain ⟨ys⟩ := y
  have e2 : xs = ys := Array.toList_inj.mp e
  rw [e2]
theorem rising_pw : ∀ (l : List Str) (p : Str), risingS p l = true → (p :: l).Pairwise leS
  | [], p, _ => List.pairwise_singleton _ _
  | x :: r, p, h => by
    have h : (!ltCps x.cps.toList p.cps.toList && risingS x r) = true := h
    rw [Bool.and_eq_true] at h
    have ih := rising_pw r x h.2
    have px : leS p x := by
      have z := h.1
      rw [ltCps_eq] at z
      simp only [Bool.not_eq_true', decide_eq_false_iff_not] at z
      exact z
    refine List.pairwise_cons.mpr ⟨fun y hy => ?_, ih⟩
    rcases List.mem_cons.mp hy with e | hy
    · rw [e]
      exact px
    · exact leS_trans px ((List.pairwise_cons.mp ih).1 y hy)
theorem sorted_pw {l : List Str} (h : sortedS l = true) : l.Pairwise leS := by
  cases l with
  | nil => exact List.Pairwise.nil
  | cons x r => exact rising_pw r x h
/-- the one sorted list -/
def srt (l : List Str) : List Str := l.mergeSort fun a b => decide (leS a b)
theorem srt_perm (l : List Str) : (srt l).Perm l := List.mergeSort_perm l _
theorem srt_pw (l : List Str) : (srt l).Pairwise leS := by
  have h := List.pairwise_mergeSort (le := fun a b => decide (leS a b)) (fun a b c h1 h2 => by
    simp only [decide_eq_true_eq] at h1 h2 ⊢
    exact leS_trans h1 h2) (fun a b => by
    simp only [Bool.or_eq_true, decide_eq_true_eq]
    exact leS_total a b) l
  exact h.imp fun h => of_decide_eq_true h
theorem pw_one {l m : List Str} (p : l.Perm m) (h : l.Pairwise leS) (h' : m.Pairwise leS) : l = m := List.Perm.eq_of_pairwise (fun a b _ _ x y => leS_antisymm x y) h h' p
theorem srt_one {l m : List Str} (p : l.Perm m) (h : sortedS l = true) : l = srt m := pw_one (p.trans (srt_perm m).symm) (sorted_pw h) (srt_pw m)
theorem srt_eq {l m : List Str} (p : l.Perm m) (h : l.Pairwise leS) : l = srt m := pw_one (p.trans (srt_perm m).symm) h (srt_pw m)
theorem srt_mem {l : List Str} {x : Str} : x ∈ srt l ↔ x ∈ l := (srt_perm l).mem_iff
theorem srt_len (l : List Str) : (srt l).length = l.length := (srt_perm l).length_eq
theorem srt_nodup {l : List Str} (h : l.Nodup) : (srt l).Nodup := (srt_perm l).nodup_iff.mpr h
/-! ### live rows -/
abbrev sLive : Stmt := topS 9
theorem scLive : FnScope ["history"] ["history"] (defScope sLive) := ⟨rfl, rfl, rfl, by decide +kernel, rfl, by decide +kernel, by decide +kernel⟩
def spLive (K : PySem.W.Frag) : Sp := fun vs H Q _ => ∃ (h : Addr) (hs : List (List Str)) (last : List Str), vs = [.ref h] ∧ HistAt K H h hs ∧ hs.getLast? = some last ∧ last.length ≤ 24 ∧ ∀ H' p, Same H H' → H p = none → H' p = some (.tup ((srt last).map V.str)) → Q (.ref p) H'
theorem hist_last {K : PySem.W.Frag} {H : Hp} {xs : List V} {hs : List (List Str)} {last : List Str} (h : VsAt K H xs hs) (hl : hs.getLast? = some last) : ∃ a, atI xs (-1) = some (.ref a) ∧ SqT K H a (last.map V.str) := by
  have lx := h.len
  have gl : hs[hs.length - 1]? = some last := by
    rw [← List.getLast?_eq_getElem?]
    exact hl
  obtain ⟨a, ga, ha⟩ := h.get gl
  refine ⟨a, ?_, ha⟩
  rw [← lx, ← List.getLast?_eq_getElem?] at ga
  obtain ⟨ys, rfl⟩ := List.getLast?_eq_some_iff.mp ga
  exact atI_last _ _
section
variable {P : Program} {w : World} {K : PySem.W.Frag} {mg : Str → Option Value} {base : Heap}
theorem ok_live {f : Addr} {fd : FuncData} {k : Nat} (F : Fun K "live_rows" "live_rows" sLive f fd) (mt : mg "tuple" = none) (ms : mg "sorted" = none) : FnOk P w K mg base CX0 (k + 1) f fd ["history"] (spLive K) := by
  refine F.ok scLive (fun vs H Q E h => ?_) (fun cdv A outer s H vs Q E hr h => ?_)
  · obtain ⟨a, hs, last, rfl, _⟩ := h
    rfl
  · obtain ⟨a, hs, last, rfl, ⟨xs, hA, hV⟩, hl, l24, q⟩ := h
    refine ⟨_, pss_one (ps_ret (pe_callTy call_tuple_of (by rfl) mt (by decide +kernel) (pa_cons (pe_callB cr_sortT0 (by rfl) ms (by decide +kernel) (pa_cons (pe_ix ix_tup (pv 0) (pe_un un_neg pe_int) (fun _ _ => rfl)) pa_nil)) pa_nil))), ?_⟩
    obtain ⟨v, gv, hv⟩ := hist_last hV hl
    refine ⟨.ref a, rfl, 1, rfl, a, _, -1, _, rfl, rfl, hA, gv, v, last, rfl, hv, by omega, fun ys p pm so hp => ?_⟩
    refine ⟨p, _, rfl, .inl ⟨SqL.of upd_same, fun t ht => ?_⟩⟩
    have htH : H t = none := (same_new hp).free ht
    refine q _ t ((same_new hp).trans (same_new ht)) htH ?_
    rw [upd_same, srt_one pm so]
end
end M
namespace M
open PySem PySem.Spec PyProof.Rows L2 Gd
/-! ### live rows among values of any kind -/
abbrev sAmong : Stmt := topS 11
abbrev nAmong : List Str := ["history", "rows", "row"]
theorem scAmong : FnScope nAmong ["history", "rows"] (defScope sAmong) := ⟨rfl, rfl, rfl, by decide +kernel, rfl, by decide +kernel, by decide +kernel⟩
def hasD (ds : List AD) (r : Str) : Bool := ds.any (eqSD r)
def spAmongA (K : PySem.W.Frag) : Sp := fun vs H Q _ => ∃ (h b : Addr) (hs : List (List Str)) (last : List Str) (xs : List V) (ds : List AD), vs = [.ref h, .ref b] ∧ HistAt K H h hs ∧ hs.getLast? = some last ∧ last.length ≤ 24 ∧ SqT K H b xs ∧ AvAll K H xs ds ∧
  ∀ H' p, Same H H' → H p = none → H' p = some (.tup (((srt last).filter (hasD ds)).map V.str)) → Q (.ref p) H'
section
variable {P : Program} {w : World} {K : PySem.W.Frag} {mg : Str → Option Value} {base : Heap}
theorem ok_amongA {f fL : Addr} {fd fdL : FuncData} {k : Nat} (F : Fun K "live_rows_among" "live_rows_among" sAmong f fd) (FL : Fun K "live_rows" "live_rows" sLive fL fdL) (bL : Binds K fdL ["history"] []) (gL : mg "live_rows" = some (.ref fL)) (mt : mg "tuple" = none) (ms : mg "sorted" = none) : FnOk P w K mg base CX0 (k + 2) f fd ["history", "rows"] (spAmongA K) := by
  have GL : FnOk P w K mg base CX0 (k + 1) fL fdL ["history"] (spLive K) := ok_live FL mt ms
  refine F.ok scAmong (fun vs H Q E h => ?_) (fun cdv A outer s H vs Q E hr h => ?_)
  · obtain ⟨a, b, hs, last, xs, ds, rfl, _⟩ := h
    rfl
  · obtain ⟨a, b, hs, last, xs, ds, rfl, hA, hl, l24, hB, av, q⟩ := h
    refine ⟨_, pss_one (ps_ret (pe_callTy call_tuple_of (by rfl) mt (by decide +kernel) (pa_cons (pe_lc (own := [("row", 2)]) (g := gName 2) (tt := tTest (tOp (rInA K false) (tVar 2) (tVar 1))) (te := tVar 2) rfl scAmong.nd (pi_tup (pe_call GL hr (by rfl) gL FL.kp bL .nil pass0 (pa_cons (pv 0) pa_nil)))
      (blkOk_by (own := [("row", 2)]) (N := nAmong) (sc := defScope sAmong) (by decide +kernel)) (fun _ _ _ _ _ => pg_name (i := 2) scAmong.nd rfl (.inl rfl)) (fun _ _ _ _ _ => pts_one (pt_cmpR (op_in_any hr.units) (pv 2) (pv 1) (by rfl))) (fun _ _ _ _ _ => pv 2)) pa_nil))), ?_⟩
    refine ⟨.ref a, rfl, a, hs, last, rfl, hA, hl, l24, fun H1 p s1 np e1 => ?_⟩
    refine ⟨p, rfl, ⟨_, SqT.of e1⟩, fun D hD => lc_tup (xs := (srt last).map V.str) (fun i H' => Same H1 H' ∧ H' D = some (.lst ((((srt last).take i).filter (hasD ds)).map V.str))) ⟨same_new hD, by rw [upd_same]; rfl⟩ (fun i H' _ hP => SqT.of (hP.1 _ _ e1)) (fun i x H' hx hP => ?_) (fun H' hP => ?_)⟩
    · obtain ⟨p1, p2⟩ := hP
      rw [List.getElem?_map] at hx
      obtain ⟨y, hy, rfl⟩ := Option.map_eq_some_iff.mp hx
      refine ⟨rfl, _, rfl, _, rfl, b, xs, ds, y, rfl, rfl, same_t (s1.trans p1) hB, av.same (s1.trans p1), _, rfl, ?_⟩
      have e : ((srt last).take (i + 1)).filter (hasD ds) = ((srt last).take i).filter (hasD ds) ++ (if hasD ds y = true then [y] else []) := by
        rw [List.take_add_one, hy, List.filter_append, Option.toList_some, List.filter_cons, List.filter_nil]
      show if (hasD ds y) = true then _ else _
      refine ite2 (fun h => ?_) (fun h => ?_)
      · refine ⟨_, rfl, _, p2, ?_, same_own p1 hD, ?_⟩
        · rw [List.length_map]
          exact small1000 (Nat.le_trans (List.length_filter_le _ _) (by rw [List.length_take, srt_len]; omega))
        · rw [upd_same, e, if_pos h, List.map_append]
          rfl
      · refine ⟨p1, ?_⟩
        rw [e, if_neg h, List.append_nil]
        exact p2
    · obtain ⟨p1, p2⟩ := hP
      rw [List.length_map, List.take_length] at p2
      refine ⟨D, _, rfl, .inl ⟨SqL.of p2, fun t ht => ?_⟩⟩
      have s2 := s1.trans p1
      exact q _ t (same_own s2 (s2.free ht)) (s2.free ht) upd_same
end
/-! ### is_row_set -/
def setD (last : List Str) : AD → Bool
  | .tup ds => eqDS ds ((srt last).filter (hasD ds))
  | _ => false
abbrev sRSet : Stmt := topS 10
theorem scRSet : FnScope ["history", "value"] ["history", "value"] (defScope sRSet) := ⟨rfl, rfl, rfl, by decide +kernel, rfl, by decide +kernel, by decide +kernel⟩
def spRSet (K : PySem.W.Frag) : Sp := fun vs H Q _ => ∃ (h : Addr) (hs : List (List Str)) (last : List Str) (x : V) (d : AD), vs = [.ref h, x] ∧ HistAt K H h hs ∧ hs.getLast? = some last ∧ last.length ≤ 24 ∧ Av K H x d ∧ ∀ H', Same H H' → Q (.bl (setD last d)) H'
section
variable {P : Program} {w : World} {K : PySem.W.Frag} {mg : Str → Option Value} {base : Heap}
theorem ok_rset {f fA : Addr} {fd fdA : FuncData} {k : Nat} (F : Fun K "is_row_set" "is_row_set" sRSet f fd) (FA : Fun K "live_rows_among" "live_rows_among" sAmong fA fdA) (bA : Binds K fdA ["history", "rows"] []) (gA : mg "live_rows_among" = some (.ref fA)) (GA : FnOk P w K mg base CX0 (k + 2) fA fdA ["history", "rows"] (spAmongA K)) (mi : mg "isinstance" = none) (mt : mg "tuple" = none) : FnOk P w K mg base CX0 (k + 3) f fd ["history", "value"] (spRSet K) := by
  refine F.ok scRSet (fun vs H Q E h => ?_) (fun cdv A outer s H vs Q E hr h => ?_)
  · obtain ⟨a, hs, last, x, d, rfl, _⟩ := h
    rfl
  · obtain ⟨a, hs, last, x, d, rfl, hA, hl, l24, av, q⟩ := h
    refine ⟨_, pss_one (ps_ret (pe_and (pe_callB call_isi (by rfl) mi (by decide +kernel) (pa_cons (pv 1) (pa_cons (pe_bltn (v := .ty "tuple") (by rfl) mt (by decide +kernel) rfl) pa_nil)))
        (pe_one (pe_cmpR (op_eq_any hr.units) (pv 1) (pe_call GA hr (by rfl) gA FA.kp bA .nil pass0 (pa_cons (pv 0) (pa_cons (pv 1) pa_nil))) (nomark _))))), ?_⟩
    have qH := q H (Same.refl H)
    obtain ⟨T, kd, kt, _⟩ := av.kd2
    refine ⟨_, rfl, x, _, _, _, _, rfl, .ty "tuple", kd.ty, kit_ty kt, _, rfl, ?_⟩
    cases av with
    | non => exact iteF qH
    | bl b => exact iteF qH
    | int i => exact iteF qH
    | str z => exact iteF qH
    | lst hl => exact iteF qH
    | dct hl => exact iteF qH
    | @tup b ys ds hb r =>
      refine iteT ?_
      refine ⟨.ref b, rfl, .ref a, rfl, .ref b, rfl, a, b, hs, last, ys, ds, rfl, hA, hl, l24, hb, r, fun H2 p s2 n2 e2 => ?_⟩
      refine ⟨b, p, ys, ds, _, rfl, rfl, same_t s2 hb, r.same s2, SqT.of e2, q H2 s2⟩
end
end M
namespace M
open PySem PySem.Spec PyProof.Rows L2 Gd
/-! ### two lists of texts -/
def rEqLT (K : PySem.W.Frag) : R2 := fun x y H Q => ∃ (p b : Addr) (ns ms : List Str), x = .ref p ∧ y = .ref b ∧ SqL K H p (ns.map V.str) ∧ SqL K H b (ms.map V.str) ∧ Q (.bl (decide (ns = ms))) H
theorem op_eq_lt {X : Cx} (hu : X.A.units + 64 < cLine) : OpR X (compareOp .Eq) (rEqLT X.K) := by
  intro pins s σ H x y v u Q I rx ry h
  obtain ⟨p, b, ns, ms, rfl, rfl, hp, hb, q⟩ := h
  cases rx
  cases ry
  obtain ⟨its, r, pl, hz⟩ := I.list hp
  obtain ⟨its2, r2, pl2, hz2⟩ := I.list hb
  have l1 : its.toArray.size = ns.length := by rw [List.size_toArray, ← r.length, List.length_map]
  have l2 : its2.toArray.size = ms.length := by rw [List.size_toArray, ← r2.length, List.length_map]
  by_cases hl : ns.length = ms.length
  · refine SeqAt.eq_listAt (e := fun j => ns.getD j "" == ms.getD j "") pl.isList pl2.isList (by omega) (by omega) (fun j h1 h2 => ?_) ⟨.bl _, H, I, rfl, ?_⟩
    · have hj1 : j < ns.length := by omega
      have hj2 : j < ms.length := by omega
      have g1 : (ns.map V.str)[j]? = some (.str ns[j]) := by rw [List.getElem?_map, List.getElem?_eq_getElem hj1]; rfl
      have g2 : (ms.map V.str)[j]? = some (.str ms[j]) := by rw [List.getElem?_map, List.getElem?_eq_getElem hj2]; rfl
      obtain ⟨u1, gu1, t1, rfl⟩ := r.get g1
      obtain ⟨u2, gu2, t2, rfl⟩ := r2.get g2
      have e1 : its.toArray[j] = .str ns[j] t1 := by
        have := (List.getElem?_eq_some_iff.mp gu1).2
        simpa using this
      have e2 : its2.toArray[j] = .str ms[j] t2 := by
        have := (List.getElem?_eq_some_iff.mp gu2).2
        simpa using this
      have e3 : ns.getD j "" = ns[j] := by rw [List.getD_eq_getElem?_getD, List.getElem?_eq_getElem hj1]; rfl
      have e4 : ms.getD j "" = ms[j] := by rw [List.getD_eq_getElem?_getD, List.getElem?_eq_getElem hj2]; rfl
      show SeqAt.EqAt _ _ _ _ (ns.getD j "" == ms.getD j "")
      rw [e1, e2, e3, e4]
      exact SeqAt.EqAt.str_str _ _ _ _
    · have e : (List.range its.toArray.size).all (fun j => ns.getD j "" == ms.getD j "") = decide (ns = ms) := by
        rw [Bool.eq_iff_iff, List.all_eq_true, decide_eq_true_eq, l1]
        constructor
        · intro h
          refine List.ext_getElem hl fun j h1 h2 => ?_
          have := beq_iff_eq.mp (h j (List.mem_range.mpr h1))
          rw [List.getD_eq_getElem?_getD, List.getD_eq_getElem?_getD, List.getElem?_eq_getElem h1, List.getElem?_eq_getElem h2] at this
          exact this
        · intro h j _
          rw [h]
          exact beq_self_eq_true _
      rw [e]
      exact q
  · refine SeqAt.eq_list_lengthsAt pl.isList pl2.isList (by rw [l1, l2]; exact bne_iff_ne.mpr hl) (by omega) ⟨.bl false, H, I, rfl, ?_⟩
    rw [decide_eq_false (fun e => hl (by rw [e]))] at q
    exact q
/-! ### row sets, two ways -/
theorem eqDS_strs : ∀ (ns zs : List Str), eqDS (ns.map AD.str) zs = decide (ns = zs)
  | [], [] => rfl
  | [], z :: zs => rfl
  | n :: ns, [] => rfl
  | n :: ns, z :: zs => by
    show ((n == z) && eqDS (ns.map AD.str) zs) = _
    rw [eqDS_strs ns zs, Bool.eq_iff_iff, Bool.and_eq_true, beq_iff_eq, decide_eq_true_eq, decide_eq_true_eq, List.cons.injEq]
theorem eqDS_all : ∀ {ds : List AD} {zs : List Str}, eqDS ds zs = true → ds.all AD.isStr = true
  | [], [], _ => rfl
  | [], _ :: _, h => absurd h Bool.false_ne_true
  | _ :: _, [], h => absurd h Bool.false_ne_true
  | d :: ds, z :: zs, h => by
    have h : (eqSD z d && eqDS ds zs) = true := h
    rw [Bool.and_eq_true] at h
    rw [List.all_cons, eqDS_all h.2, Bool.and_true]
    cases d with
    | str y => rfl
    | _ => exact absurd h.1 Bool.false_ne_true
theorem hasD_strs (ns : List Str) (r : Str) : hasD (ns.map AD.str) r = ns.contains r := by
  unfold hasD
  rw [List.any_map]
  exact any_contains ns r
theorem str_all {ds : List AD} (h : ds.all AD.isStr = true) : ds = (strsD ds).map AD.str := by
  unfold strsD
  rw [List.map_map]
  have : ∀ d ∈ ds, d.isStr = true := List.all_eq_true.mp h
  clear h
  induction ds with
  | nil => rfl
  | cons d ds ih =>
    rw [List.map_cons, ← ih fun e he => this e (List.mem_cons_of_mem _ he)]
    congr 1
    have := this d List.mem_cons_self
    cases d with
    | str y => rfl
    | _ => exact absurd this Bool.false_ne_true
theorem sets_same {last ns : List Str} (nd : last.Nodup) : (srt last).filter (fun r => ns.contains r) = srt (ddL [] (ns.filter fun r => last.contains r)) := by
  refine srt_eq ?_ ((srt_pw last).sublist List.filter_sublist)
  refine (List.perm_ext_iff_of_nodup ((srt_nodup nd).sublist List.filter_sublist) (ddL_nodup _ _ List.nodup_nil)).mpr fun x => ?_
  rw [List.mem_filter, srt_mem, ddL_mem, List.mem_filter, List.contains_iff_mem, List.contains_iff_mem]
  exact ⟨fun h => .inr ⟨h.2, h.1⟩, fun h => h.elim (fun y => (nomatch y)) fun h => ⟨h.2, h.1⟩⟩
theorem setD_law {last : List Str} (nd : last.Nodup) (ds : List AD) : setD last (.tup ds) = (ds.all AD.isStr && decide (strsD ds = srt (ddL [] ((strsD ds).filter fun r => last.contains r)))) := by
  show eqDS ds ((srt last).filter (hasD ds)) = _
  by_cases h : ds.all AD.isStr = true
  · rw [h, Bool.true_and]
    generalize hn : strsD ds = ns
    have e := str_all h
    rw [hn] at e
    rw [e, eqDS_strs, ← sets_same nd]
    have : hasD (ns.map AD.str) = fun r => ns.contains r := funext fun r => hasD_strs ns r
    rw [this]
  · rw [Bool.eq_false_iff.mpr h, Bool.false_and]
    cases e : eqDS ds ((srt last).filter (hasD ds)) with
    | false => rfl
    | true => exact absurd (eqDS_all e) h
/-! ### is_set of a law -/
abbrev sLSet : Stmt := topS 25
abbrev nLSet : List Str := ["_law_history_here", "_law_item", "_law_one"]
theorem scLSet : FnScope nLSet ["_law_history_here", "_law_item"] (defScope sLSet) := ⟨rfl, rfl, rfl, by decide +kernel, rfl, by decide +kernel, by decide +kernel⟩
def spLSet (K : PySem.W.Frag) : Sp := fun vs H Q _ => ∃ (h : Addr) (hs : List (List Str)) (last : List Str) (x : V) (d : AD) (w : Nat), vs = [.ref h, x] ∧ HistAt K H h hs ∧ hs.getLast? = some last ∧ last.length ≤ 24 ∧ last.Nodup ∧ Av K H x d ∧ d.ok w ∧ w ≤ 10000000 ∧ ∀ H', Same H H' → Q (.bl (setD last d)) H'
section
variable {P : Program} {w : World} {K : PySem.W.Frag} {mg : Str → Option Value} {base : Heap}
theorem ok_lset {f : Addr} {fd : FuncData} {k : Nat} (F : Fun K "_law_is_set" "_law_is_set" sLSet f fd) (mi : mg "isinstance" = none) (mt : mg "tuple" = none) (ma : mg "all" = none) (mstr : mg "str" = none) (mls : mg "list" = none) (ms : mg "sorted" = none) (md : mg "dict" = none) : FnOk P w K mg base CX0 (k + 1) f fd ["_law_history_here", "_law_item"] (spLSet K) := by
  refine F.ok scLSet (fun vs H Q E h => ?_) (fun cdv A outer s H vs Q E hr h => ?_)
  · obtain ⟨a, hs, last, x, d, w, rfl, _⟩ := h
    rfl
  · obtain ⟨a, hs, last, x, d, w, rfl, hA, hl, l24, nd, av, ok, hw, q⟩ := h
    refine ⟨_, pss_cons (ps_if (PW.pt (pw_or (pt_not (pt_val (pe_callB call_isi (by rfl) mi (by decide +kernel) (pa_cons (pv 1) (pa_cons (pe_bltn (v := .ty "tuple") (by rfl) mt (by decide +kernel) rfl) pa_nil)))))
        (pw_or1 (pt_not (pt_val (pe_callB (cr_all rfl) (by rfl) ma (by decide +kernel) (pa_cons (pe_lc (own := [("_law_one", 2)]) (g := gName 2) (tt := tYes) (te := tCB (rIsi K) (tCons (tVar 2) (tCons (tC (.ty "str")) tNil))) rfl scLSet.nd (pi_tup (pv 1))
          (blkOk_by (own := [("_law_one", 2)]) (N := nLSet) (sc := defScope sLSet) (by decide +kernel)) (fun _ _ _ _ _ => pg_name (i := 2) scLSet.nd rfl (.inl rfl)) (fun _ _ _ _ _ => pts_nil) (fun _ _ _ _ _ => pe_callB call_isi (by rfl) mi (by decide +kernel) (pa_cons (pv 2) (pa_cons (pe_bltn (v := .ty "str") (by rfl) mstr (by decide +kernel) rfl) pa_nil)))) pa_nil)))))))
        (pss_one (ps_ret pe_bl)) pss_nil)
      (pss_one (ps_ret (pe_cmpR (op_eq_lt hr.units) (pe_callTy call_list_of (by rfl) mls (by decide +kernel) (pa_cons (pv 1) pa_nil)) (pe_callB (call_sortedD rfl) (by rfl) ms (by decide +kernel) (pa_cons (pe_callTy (call_dictP rfl) (by rfl) md (by decide +kernel) (pa_cons (pe_lc (own := [("_law_one", 2)]) (g := gName 2) (tt := tTest (tOp (rIn K false) (tVar 2) (tOp (rIxT K) (tVar 0) (tUn (rU fun i => .int (-i)) (tC (.int 1)))))) (te := tTup (tCons (tVar 2) (tCons (tC (.bl true)) tNil))) rfl scLSet.nd (pi_tup (pv 1))
          (blkOk_by (own := [("_law_one", 2)]) (N := nLSet) (sc := defScope sLSet) (by decide +kernel)) (fun _ _ _ _ _ => pg_name (i := 2) scLSet.nd rfl (.inl rfl)) (fun _ _ _ _ _ => pts_one (pt_cmpR op_in_seq (pv 2) (pe_ix ix_tup (pv 0) (pe_un un_neg pe_int) (fun _ _ => rfl)) (by rfl))) (fun _ _ _ _ _ => pe_tup (pa_cons (pv 2) (pa_cons pe_bl pa_nil)))) pa_nil)) pa_nil)) (nomark _)))), ?_⟩
    have qH := q H (Same.refl H)
    obtain ⟨T, kd, kt, _⟩ := av.kd2
    refine ⟨_, rfl, x, _, _, _, _, rfl, .ty "tuple", kd.ty, kit_ty kt, _, rfl, ?_⟩
    cases av with
    | non => exact iteT (iteT qH)
    | bl b => exact iteT (iteT qH)
    | int i => exact iteT (iteT qH)
    | str z => exact iteT (iteT qH)
    | lst hl => exact iteT (iteT qH)
    | dct hl => exact iteT (iteT qH)
    | @tup b ys ds hb r =>
      refine iteF ?_
      have okd : ds.length ≤ w ∧ AD.okAll w ds := ok
      have ln := r.len
      have ev := setD_law nd ds
      refine ⟨.ref b, rfl, b, rfl, ⟨_, hb⟩, fun D hD => walk_tup (xs := ys) (fun i H' => Same H H' ∧ H' D = some (.lst (((ds.take i).map AD.isStr).map V.bl))) ⟨same_new hD, upd_same⟩ (fun i H' _ hP => same_t hP.1 hb) (fun i x H' hx hP => ?_) (fun H' hP => ?_)⟩
      · obtain ⟨p1, p2⟩ := hP
        obtain ⟨dx, gx, ax⟩ := r.get hx
        have hi : i < ds.length := (List.getElem?_eq_some_iff.mp gx).1
        obtain ⟨T1, kd1, _, ks1, _⟩ := (ax.same p1).kd2
        refine ⟨rfl, lc_yes ?_⟩
        refine ⟨_, rfl, x, _, _, _, _, rfl, .ty "str", kd1.ty, kit_ty ks1, ?_⟩
        refine ⟨_, p2, ?_, same_own p1 hD, ?_⟩
        · rw [List.length_map, List.length_map, List.length_take]
          exact Nat.lt_of_le_of_lt (show min i ds.length ≤ 10000000 by omega) (by decide)
        · rw [upd_same, List.take_add_one, gx, List.map_append, List.map_append]
          rfl
      · obtain ⟨p1, p2⟩ := hP
        rw [ln, List.take_length] at p2
        refine ⟨D, _, rfl, SqL.of p2, _, rfl, ?_⟩
        rw [List.all_map]
        show if (!ds.all AD.isStr) = true then _ else _
        by_cases ha : ds.all AD.isStr = true
        · rw [ha]
          refine iteF ?_
          rw [ha, Bool.true_and] at ev
          have ey : ys = (strsD ds).map V.str := by
            have r' := r
            rw [str_all ha] at r'
            exact av_strs r'
          have ld : (strsD ds).length ≤ 10000000 := by rw [strsD_len]; omega
          generalize strsD ds = ns at ev ey ld
          have hb' := same_t p1 hb
          refine ⟨.ref b, rfl, b, ys, rfl, .inr hb', fun l hl0 => ?_⟩
          have sl := same_new hl0 (o := .lst ys)
          have hbl := same_t sl hb'
          have s2 := p1.trans sl
          refine ⟨.ref b, rfl, b, rfl, ⟨_, hbl⟩, fun D2 hD2 => walk_tup (xs := ys) (fun i H2 => Same (upd H' l (.lst ys)) H2 ∧ PairsAt K H2 D2 ((ns.take i).filter fun r => last.contains r)) ⟨same_new hD2, PairsAt.nil upd_same⟩ (fun i H2 _ hP => same_t hP.1 hbl) (fun i x H2 hx hP => ?_) (fun H2 hP => ?_)⟩
          · obtain ⟨q1, q2⟩ := hP
            rw [ey, List.getElem?_map] at hx
            obtain ⟨y, hy, rfl⟩ := Option.map_eq_some_iff.mp hx
            have hi : i < ns.length := (List.getElem?_eq_some_iff.mp hy).1
            obtain ⟨zs, hz1, hz2⟩ := hA.same (s2.trans q1)
            obtain ⟨lv2, glv, hlv⟩ := hist_last hz2 hl
            refine ⟨rfl, _, rfl, _, rfl, 1, rfl, a, _, -1, _, rfl, rfl, hz1, glv, lv2, _, rfl, .inr hlv, rfl, flat_strs last, _, rfl, ?_⟩
            have e : (ns.take (i + 1)).filter (fun r => last.contains r) = (ns.take i).filter (fun r => last.contains r) ++ (if last.contains y = true then [y] else []) := by
              rw [List.take_add_one, hy, List.filter_append, Option.toList_some, List.filter_cons, List.filter_nil]
            show if (inV (.str y) (last.map V.str)) = true then _ else _
            rw [inV_strs]
            refine ite2 (fun h => ?_) (fun h => ?_)
            · refine ⟨_, rfl, (by show 2 ≤ sizeLine; decide), fun t ht => ?_⟩
              obtain ⟨acc, e1, e2, e3⟩ := q2.step (y := y) ht
              refine ⟨acc, e1, ?_, same_own (q1.trans (same_new ht)) hD2, ?_⟩
              · rw [e2]
                exact Nat.lt_of_le_of_lt (Nat.le_trans (List.length_filter_le _ _) (show (ns.take i).length ≤ 10000000 by rw [List.length_take]; omega)) (by decide)
              · rw [e, if_pos h]
                exact e3
            · refine ⟨q1, ?_⟩
              rw [e, if_neg h, List.append_nil]
              exact q2
          · obtain ⟨q1, q2⟩ := hP
            have lny : ys.length = ns.length := by rw [ey, List.length_map]
            rw [lny, List.take_length] at q2
            obtain ⟨ps, p2, p3, p4⟩ := q2
            refine ⟨D2, ps, _, rfl, SqL.of p2, p4, fun m hm => ?_⟩
            have em : mergeK [] ((ns.filter fun r => last.contains r).map ent) = (ddL [] (ns.filter fun r => last.contains r)).map ent := merge_ent _ []
            rw [em]
            have l64 : (ddL [] (ns.filter fun r => last.contains r)).length < 64 := by
              have e := congrArg List.length (sets_same (ns := ns) nd)
              rw [srt_len] at e
              have := List.length_filter_le (fun r => ns.contains r) (srt last)
              rw [srt_len] at this
              omega
            refine ⟨m, _, ddL [] (ns.filter fun r => last.contains r), rfl, .inl upd_same, by rw [List.map_map]; rfl, l64, fun zs p5 pm so hp5 => ?_⟩
            have sA := (q1.trans (same_new hm (o := .dK ((ddL [] (ns.filter fun r => last.contains r)).map ent)))).trans (same_new hp5 (o := .lst (zs.map V.str)))
            refine ⟨l, p5, ns, zs, rfl, rfl, by rw [← ey]; exact SqL.of (sA _ _ upd_same), SqL.of upd_same, ?_⟩
            have z := q _ (s2.trans sA)
            rw [ev, ← srt_one pm so] at z
            exact z
        · have ha := Bool.eq_false_iff.mpr ha
          rw [ha]
          refine iteT ?_
          rw [ha, Bool.false_and] at ev
          have z := q H' p1
          rw [ev] at z
          exact z
end
end M
namespace M
open PySem PySem.Spec PyProof.Rows L2 Gd
/-! ### histories that are ones, as trees -/
def histA (hs : List (List Str)) : AD := .tup (hs.map fun v => .tup (v.map AD.str))
theorem rowsA (v : List Str) : rowsD (.tup (v.map AD.str)) = v := by
  show strsD (v.map AD.str) = v
  unfold strsD
  rw [List.map_map]
  exact List.map_id v
theorem rows_histA (hs : List (List Str)) : (hs.map fun v => AD.tup (v.map AD.str)).map rowsD = hs := by
  rw [List.map_map]
  conv => rhs; rw [← List.map_id hs]
  exact List.map_congr_left fun v _ => rowsA v
theorem verA {v : List Str} (nd : v.Nodup) (l : v.length ≤ 24) (row : ∀ z ∈ v, RowS z) : verD (.tup (v.map AD.str)) = true := by
  show (decide ((v.map AD.str).length ≤ 24) && ((v.map AD.str).all rowD && decide (strsD (v.map AD.str)).Nodup)) = true
  have e : strsD (v.map AD.str) = v := rowsA v
  rw [e, List.length_map, decide_eq_true l, decide_eq_true nd, Bool.true_and, Bool.and_true, List.all_map, List.all_eq_true]
  exact fun z hz => (rowB_iff z).mpr (row z hz)
theorem histA_ok {hs : List (List Str)} (h : HistOk hs) (l : hs.length ≤ 40) : histB (histA hs) = true := by
  show ((decide (1 ≤ (hs.map fun v => AD.tup (v.map AD.str)).length) && decide ((hs.map fun v => AD.tup (v.map AD.str)).length ≤ 40)) && ((hs.map fun v => AD.tup (v.map AD.str)).all verD && !retB ((hs.map fun v => AD.tup (v.map AD.str)).map rowsD))) = true
  rw [rows_histA, List.length_map, decide_eq_true (show 1 ≤ hs.length from List.length_pos_iff.mpr h.ne), decide_eq_true l]
  have e1 : (hs.map fun v => AD.tup (v.map AD.str)).all verD = true := by
    rw [List.all_map, List.all_eq_true]
    exact fun v hv => verA (h.ver v hv).nd (h.ver v hv).len (h.ver v hv).row
  have e2 : retB hs = false := by
    cases e : retB hs with
    | false => rfl
    | true =>
      obtain ⟨i, z, hi, h1, h2, j, hj, h3⟩ := (ret_iff hs).mp e
      have g : ∀ m, m < hs.length → hs[m]? = some (hs.getD m []) := fun m hm => by
        rw [List.getD_eq_getElem?_getD, List.getElem?_eq_getElem hm]
        rfl
      exact absurd (List.contains_iff_mem.mp h1) (h.ret j i (i + 1) _ _ _ hj (by omega) (g j (by omega)) (g i (by omega)) (g (i + 1) hi) z (List.contains_iff_mem.mp h3) (fun y => by
        have : hasN hs z i = true := List.contains_iff_mem.mpr y
        rw [h2] at this
        cases this))
  rw [e1, e2]
  rfl
theorem HistAt.av {K : PySem.W.Frag} {H : Hp} {p : Addr} {hs : List (List Str)} (h : HistAt K H p hs) : Av K H (.ref p) (histA hs) := by
  obtain ⟨xs, h1, h2⟩ := h
  refine .tup h1 ?_
  clear h1
  induction hs generalizing xs with
  | nil =>
    cases xs with
    | nil => exact .nil
    | cons x xs => exact h2.elim
  | cons v vs ih =>
    cases xs with
    | nil => exact h2.elim
    | cons x xs =>
      obtain ⟨⟨a, rfl, ha⟩, r⟩ := h2
      refine .cons (.tup ha ?_) (ih xs r)
      clear ha r ih
      induction v with
      | nil => exact .nil
      | cons z v ih => exact .cons (.str z) ih
end M
namespace M
open PySem PySem.Spec PyProof.Rows L2 Gd
/-! ### data that can be compared and shown -/
structure Nice (d : PyData) (k w : Nat) : Prop where
  lay : d.canLay0 = true
  dep : d.depth ≤ k
  wt : d.weight ≤ w
  ish : d.intsShort 13 = true
  shw : d.showable = true
structure NiceL (ds : List PyData) (k w : Nat) : Prop where
  lay : PyData.canLayAll0 ds = true
  dep : PyData.depthAll ds ≤ k
  wt : PyData.weightAll ds ≤ w
  ish : PyData.intsShortAll 13 ds = true
  shw : PyData.showableAll ds = true
theorem NiceL.nil {k w : Nat} : NiceL [] k w := ⟨rfl, Nat.zero_le _, Nat.zero_le _, rfl, rfl⟩
theorem NiceL.cons {d : PyData} {ds : List PyData} {k w w' u : Nat} (h : Nice d k w) (r : NiceL ds k w') (e : w + 1 + w' ≤ u) : NiceL (d :: ds) k u := by
  refine ⟨?_, Nat.max_le.mpr ⟨h.dep, r.dep⟩, ?_, ?_, ?_⟩
  · show (PyData.canLay0 d && PyData.canLayAll0 ds) = true
    rw [h.lay, r.lay]
    rfl
  · show PyData.weight d + 1 + PyData.weightAll ds ≤ u
    have h1 := h.wt
    have h2 := r.wt
    omega
  · show (PyData.intsShort 13 d && PyData.intsShortAll 13 ds) = true
    rw [h.ish, r.ish]
    rfl
  · show (PyData.showable d && PyData.showableAll ds) = true
    rw [h.shw, r.shw]
    rfl
theorem NiceL.of {k w : Nat} : ∀ {ds : List PyData}, (∀ d ∈ ds, Nice d k w) → NiceL ds k ((w + 1) * ds.length)
  | [], _ => .nil
  | d :: ds, h => .cons (h d List.mem_cons_self) (NiceL.of fun x hx => h x (List.mem_cons_of_mem _ hx)) (by rw [List.length_cons, Nat.mul_add]; omega)
theorem NiceL.up {ds : List PyData} {k w k' w' : Nat} (h : NiceL ds k w) (a : k ≤ k') (b : w ≤ w') : NiceL ds k' w' := ⟨h.lay, Nat.le_trans h.dep a, Nat.le_trans h.wt b, h.ish, h.shw⟩
theorem Nice.up {d : PyData} {k w k' w' : Nat} (h : Nice d k w) (a : k ≤ k') (b : w ≤ w') : Nice d k' w' := ⟨h.lay, Nat.le_trans h.dep a, Nat.le_trans h.wt b, h.ish, h.shw⟩
theorem Nice.tup {ds : List PyData} {k w : Nat} (h : NiceL ds k w) : Nice (.tuple ds) (k + 1) w := ⟨h.lay, Nat.succ_le_succ h.dep, h.wt, h.ish, h.shw⟩
theorem Nice.lst {ds : List PyData} {k w : Nat} (h : NiceL ds k w) : Nice (.list ds) (k + 1) w := ⟨h.lay, Nat.succ_le_succ h.dep, h.wt, h.ish, h.shw⟩
theorem Nice.str {z : Str} {k : Nat} (h : RowS z) : Nice (.str z) k 8 := ⟨h.ok, Nat.zero_le _, h.2.1, rfl, rfl⟩
theorem Nice.none {k w : Nat} : Nice .none k w := ⟨rfl, Nat.zero_le _, Nat.zero_le _, rfl, rfl⟩
theorem Nice.bool {k w : Nat} (b : Bool) : Nice (.bool b) k w := ⟨rfl, Nat.zero_le _, Nat.zero_le _, rfl, rfl⟩
theorem log_lt {n m k : Nat} (h : n < 2 ^ k) (hk : 0 < k) : n.log2 < k := PySem.Flt.log2_lt_of hk h
theorem Nice.int {i : Int} {k : Nat} (h : i.natAbs < 2 ^ 30) : Nice (.int i) k 30 := by
  have hl : i.natAbs.log2 < 30 := PySem.Flt.log2_lt_of (by decide) h
  have h30 : (2 : Nat) ^ 30 = 1073741824 := by decide
  rw [h30] at h
  refine ⟨rfl, Nat.zero_le _, ?_, ?_, ?_⟩
  · show (if (i == 0) = true then 0 else i.natAbs.log2 + 1) ≤ 30
    split <;> omega
  · have z := PyData.intsShortAll_ints [i] (fun n hn => by
      rw [List.mem_singleton.mp hn]
      omega)
    have z : (PyData.intsShort 13 (.int i) && true) = true := z
    rw [Bool.and_true] at z
    exact z
  · show decide (i.natAbs.log2 < 1920) = true
    exact decide_eq_true (by omega)
theorem show_nice {K : PySem.W.Frag} {H : Hp} {x : V} {d : PyData} {Q : VK} (hd : Dp K H x d) (n : Nice d 60 1048576) (q : Q (.str d.shown) H) : rShow K [x] H Q := by
  refine ⟨x, d, rfl, hd, n.shw, PyData.hasDict_of_canLay d n.lay, n.dep, ?_, q⟩
  refine PyData.shown_fits_of_layable0 (B := 13) (by decide) (by decide) ?_ n.ish
  unfold PyData.layable0
  rw [n.lay, decide_eq_true (show d.depth ≤ 64 from Nat.le_trans n.dep (by decide)), decide_eq_true (show d.weight ≤ 2 ^ 20 from n.wt)]
  rfl
theorem Nice.shaped {d : PyData} {k w : Nat} (n : Nice d k w) (h : k ≤ 64) : SeqAt.shaped d = true := by
  unfold SeqAt.shaped
  rw [n.lay]
  exact decide_eq_true (Nat.le_trans n.dep h)
theorem Nice.refl {d : PyData} {k w : Nat} (n : Nice d k w) : PyData.eqv d d = true := SeqAt.eqv_refl d n.lay
/-- tuples of rows -/
def tupD (rows : List Str) : PyData := .tuple (rows.map PyData.str)
theorem nice_rows {rows : List Str} (h : ∀ z ∈ rows, RowS z) : Nice (tupD rows) 1 (9 * rows.length) := by
  have z : NiceL (rows.map PyData.str) 0 (9 * rows.length) := by
    have := NiceL.of (k := 0) (w := 8) (ds := rows.map PyData.str) (fun d hd => by
      obtain ⟨x, hx, rfl⟩ := List.mem_map.mp hd
      exact Nice.str (h x hx))
    rw [List.length_map] at this
    exact this
  exact Nice.tup z
def histD (hs : List (List Str)) : PyData := .tuple (hs.map tupD)
theorem nice_hist {hs : List (List Str)} {m : Nat} (h : ∀ v ∈ hs, v.length ≤ m ∧ ∀ z ∈ v, RowS z) : Nice (histD hs) 2 ((9 * m + 1) * hs.length) := by
  have z := NiceL.of (k := 1) (w := 9 * m) (ds := hs.map tupD) (fun d hd => by
    obtain ⟨v, hv, rfl⟩ := List.mem_map.mp hd
    exact (nice_rows (h v hv).2).up (Nat.le_refl _) (Nat.mul_le_mul_left 9 (h v hv).1))
  rw [List.length_map] at z
  exact Nice.tup z
theorem HistAt.dp {K : PySem.W.Frag} {H : Hp} {p : Addr} {hs : List (List Str)} (h : HistAt K H p hs) : Dp K H (.ref p) (histD hs) := by
  obtain ⟨xs, h1, h2⟩ := h
  exact .tup h1 h2.dp
theorem SqT.dp {K : PySem.W.Frag} {H : Hp} {p : Addr} {rows : List Str} (h : SqT K H p (rows.map V.str)) : Dp K H (.ref p) (tupD rows) := .tup h (dp_strs rows)
end M
namespace M
open PySem PySem.Spec PyProof.Rows L2 Gd
/-- repr of a bool -/
def rReprB : List V → Hp → VK → Prop := fun xs H Q => ∃ b : Bool, xs = [V.bl b] ∧ Q (.str (if b then "True" else "False")) H
theorem call_reprB {X : Cx} : CallR X (.builtin "repr") rReprB := by
  rintro pins s σ H xs us Q I r ⟨b, rfl, q⟩
  obtain ⟨u, rfl, rx⟩ := vals1 r
  cases (show u = Value.bool b from rx)
  refine PySem.P.repr_of_bool ⟨.str _, H, I.tok _, ⟨_, rfl⟩, ?_⟩
  cases b <;> exact q
section
variable {K : PySem.W.Frag} {H : Hp}
theorem Av.updL {l : Addr} {xs ys : List V} {x : V} {d : AD} (e : H l = some (.lst xs)) (h : Av K H x d) : Av K (upd H l (.lst ys)) x d := by
  refine Av.keep (fun b zs z => ?_) (fun b zs z => upd_t e z) (fun b kvs z => ?_) _ h
  · by_cases eb : b = l
    · rw [eb]
      exact ⟨_, SqL.of upd_same⟩
    · rcases z with (z | ⟨o, z⟩) | z
      · exact ⟨zs, .inl (.inl (by rw [upd_ne eb]; exact z))⟩
      · exact ⟨zs, .inl (.inr ⟨o, by rw [upd_ne eb]; exact z⟩)⟩
      · exact ⟨zs, .inr z⟩
  · rw [upd_ne (fun eb => by rw [eb, e] at z; cases z)]
    exact z
theorem GoodL.updL {l : Addr} {n w : Nat} {xs ys zs : List V} (e : H l = some (.lst xs)) (h : GoodL K H n w zs) : GoodL K (upd H l (.lst ys)) n w zs := fun y hy => by
  obtain ⟨d, h1, h2, h3⟩ := h y hy
  exact ⟨d, h1.updL e, h2, h3⟩
theorem GoodL.but {a : Addr} {n w t t' : Nat} {H' : Hp} {zs : List V} (b : But a H H') (h : Hd H a t) (h' : Hd H' a t') (g : GoodL K H n w zs) : GoodL K H' n w zs := fun y hy => by
  obtain ⟨d, h1, h2, h3⟩ := g y hy
  exact ⟨d, h1.but b h h', h2, h3⟩
theorem GoodL.new {p : Addr} {n w : Nat} {zs : List V} {o : HO} {d : AD} (hp : H p = none) (g : GoodL K H n w zs) (h : Av K (upd H p o) (.ref p) d) (h2 : d.deep ≤ n) (h3 : d.ok w) : GoodL K (upd H p o) n w (.ref p :: zs) := .cons h h2 h3 (g.same (same_new hp))
theorem GoodL.sub {n w : Nat} {xs zs : List V} (g : GoodL K H n w zs) (h : ∀ y ∈ xs, y ∈ zs) : GoodL K H n w xs := fun y hy => g y (h y hy)
/-- what is picked out of good ones -/
theorem GoodL.at {n w : Nat} {zs : List V} {x : V} (g : GoodL K H n w zs) (h : x ∈ zs) : ∃ d, Av K H x d ∧ d.deep ≤ n ∧ d.ok w := g x h
theorem GoodL.tup {p : Addr} {n w : Nat} {zs xs : List V} (hp : H p = none) (g : GoodL K H (n + 1) w zs) (gx : GoodL K H n w xs) (hl : xs.length ≤ w) : GoodL K (upd H p (.tup xs)) (n + 1) w (.ref p :: zs) := by
  have : ∃ ds, AvAll K H xs ds ∧ (∀ d ∈ ds, d.deep ≤ n) ∧ (∀ d ∈ ds, d.ok w) := by
    clear hl
    induction xs with
    | nil => exact ⟨[], .nil, fun d hd => (nomatch hd), fun d hd => (nomatch hd)⟩
    | cons x xs ih =>
      obtain ⟨ds, h1, h2, h3⟩ := ih fun y hy => gx y (List.mem_cons_of_mem _ hy)
      obtain ⟨d, k1, k2, k3⟩ := gx x List.mem_cons_self
      exact ⟨d :: ds, .cons k1 h1, List.forall_mem_cons.mpr ⟨k2, h2⟩, List.forall_mem_cons.mpr ⟨k3, h3⟩⟩
  obtain ⟨ds, h1, h2, h3⟩ := this
  refine GoodL.new hp g (.tup (SqT.of upd_same) (h1.same (same_new hp))) (d := .tup ds) ?_ ⟨?_, okAll_iff.mpr h3⟩
  · show AD.deepAll ds + 1 ≤ n + 1
    exact Nat.succ_le_succ (deepAll_le.mpr h2)
  · rw [← h1.len]
    exact hl
end
theorem oki {w : Nat} {i : Int} (h : i.natAbs ≤ w) : (AD.int i).ok w := h
theorem deepLe {d : AD} {n : Nat} (h : Nat.ble d.deep n = true) : d.deep ≤ n := Nat.le_of_ble_eq_true h
theorem av_of_strs {K : PySem.W.Frag} {H : Hp} : ∀ sl : List Str, AvAll K H (sl.map V.str) (sl.map AD.str)
  | [] => .nil
  | z :: sl => .cons (.str z) (av_of_strs sl)
theorem strs_deep (sl : List Str) : (AD.tup (sl.map AD.str)).deep ≤ 1 := by
  show AD.deepAll _ + 1 ≤ 1
  refine Nat.succ_le_succ (deepAll_le.mpr fun e he => ?_)
  obtain ⟨z, hz, rfl⟩ := List.mem_map.mp he
  exact Nat.le_refl 0
theorem strs_ok {sl : List Str} {w : Nat} (l : sl.length ≤ w) (h : ∀ z ∈ sl, z.length ≤ w) : (AD.tup (sl.map AD.str)).ok w := by
  refine ⟨by rw [List.length_map]; exact l, okAll_iff.mpr fun e he => ?_⟩
  obtain ⟨z, hz, rfl⟩ := List.mem_map.mp he
  exact h z hz
end M
namespace M
open PySem PySem.Spec PyProof.Rows L2 Gd
/-! ### right -/
abbrev sRight : Stmt := topS 26
abbrev nRight : List Str := ["_law_hand_here", "_law_history_here", "_law_held", "_law_turn", "_law_bent_here", "_law_names_here", "_law_some", "_law_item", "_law_name"]
theorem scRight : FnScope nRight ["_law_hand_here", "_law_history_here"] (defScope sRight) := ⟨rfl, rfl, rfl, by decide +kernel, rfl, by decide +kernel, by decide +kernel⟩
def spRight (K : PySem.W.Frag) : Sp := fun vs H Q _ => ∃ (a h : Addr) (t : Nat) (hs : List (List Str)), vs = [.ref a, .ref h] ∧ Hd H a t ∧ t < 900000 ∧ HistAt K H h hs ∧ HistOk hs ∧ hs.length ≤ 9 ∧ (ddL [] hs.flatten).length < 64 ∧ ∀ H', But a H H' → Hd H' a (t + 1000) → Q (.bl true) H'
section
variable {P : Program} {w : World} {K : PySem.W.Frag} {mg : Str → Option Value} {base : Heap}
theorem ok_right {f fT fP fB fF fI fJ fL fR fS : Addr} {fd dT dP dB dF dI dJ dL dR dS : FuncData} (F : Fun K "_law_right" "_law_right" sRight f fd) (TB : BentTxt K mg fB fT fP dB dT dP)
    (FF : Fun K "_law_flat" "_law_flat" sFlat fF dF) (bF : Binds K dF ["_law_some"] []) (gF : mg "_law_flat" = some (.ref fF))
    (FI : Fun K "is_history" "is_history" sIsH fI dI) (bI : Binds K dI ["value"] []) (gI : mg "is_history" = some (.ref fI)) (GI : FnOk P w K mg base CX0 8 fI dI ["value"] (spIsH K))
    (FJ : Fun K "_law_is_history" "_law_is_history" sLH fJ dJ) (bJ : Binds K dJ ["_law_item"] []) (gJ : mg "_law_is_history" = some (.ref fJ)) (GJ : FnOk P w K mg base CX0 8 fJ dJ ["_law_item"] (spIsH K))
    (FL : Fun K "live_rows" "live_rows" sLive fL dL) (bL : Binds K dL ["history"] []) (gL : mg "live_rows" = some (.ref fL))
    (FR : Fun K "is_row_set" "is_row_set" sRSet fR dR) (bR : Binds K dR ["history", "value"] []) (gR : mg "is_row_set" = some (.ref fR)) (GR : FnOk P w K mg base CX0 8 fR dR ["history", "value"] (spRSet K))
    (FS : Fun K "_law_is_set" "_law_is_set" sLSet fS dS) (bS : Binds K dS ["_law_history_here", "_law_item"] []) (gS : mg "_law_is_set" = some (.ref fS)) (GS : FnOk P w K mg base CX0 8 fS dS ["_law_history_here", "_law_item"] (spLSet K))
    (mrp : mg "repr" = none) (ms : mg "sorted" = none) (mr : mg "range" = none) (md : mg "dict" = none) : FnG P w K mg base 9 f fd ["_law_hand_here", "_law_history_here"] (spRight K) := by
  have GT : FnOk P w K mg base CX0 8 fT dT ["_law_hand_here", "_law_many"] spTake := ok_take TB.T
  have GP : FnOk P w K mg base CX0 8 fP dP ["_law_hand_here", "_law_items"] spPick := ok_pick TB.P TB.T TB.bT TB.gT TB.len
  have GB1 : FnOk P w K mg base CX0 8 fB dB ["_law_hand_here", "_law_item"] (spBent K 3) := (ok_bent TB 3).mono (by decide)
  have GB2 : FnOk P w K mg base CX0 8 fB dB ["_law_hand_here", "_law_item"] (spBent K 5) := ok_bent TB 5
  have GF : FnOk P w K mg base CX0 8 fF dF ["_law_some"] (spFlat K) := ok_flat FF
  have GL : FnOk P w K mg base CX0 8 fL dL ["history"] (spLive K) := ok_live FL TB.tup ms
  refine okG F scRight (fun vs H Q E h => ?_) (fun cdv A outer s H vs Q E hg hr h => ?_)
  · obtain ⟨a, h, t, hs, rfl, _⟩ := h
    rfl
  · obtain ⟨a, h, t, hs, rfl, hh, ht, hA, hok, l9, l64, q⟩ := h
    have hg2 : (A.deeper (envOfC "_law_right" (defScope sRight) s.heap.objs.size f cdv)).guards = some [] := hg
    refine ⟨_, pss_cons (ps_set (i := 2) scRight.nd rfl (.inl rfl) (pe_callB (call_show hg2 hr.units) (by rfl) mrp (by decide +kernel) (pa_cons (pv 1) pa_nil)))
      (pss_cons (ps_if (PW.pt (pw_or (pt_cmpR op_isnot_bl (pe_call GI hr (by rfl) gI FI.kp bI .nil pass0 (pa_cons (pv 1) pa_nil)) pe_bl (nomark _))
          (pw_or1 (pt_cmpR (op_neD hr.units) (pe_call GL hr (by rfl) gL FL.kp bL .nil pass0 (pa_cons (pv 1) pa_nil)) (pe_callTy call_tuple_of (by rfl) TB.tup (by decide +kernel) (pa_cons (pe_callB cr_sortT0 (by rfl) ms (by decide +kernel) (pa_cons (pe_ix ix_tup (pv 1) (pe_un un_neg pe_int) (fun _ _ => rfl)) pa_nil)) pa_nil)) (nomark _)))))
        (pss_one (ps_ret pe_bl)) pss_nil)
      (pss_cons (ps_for PassesOwn.never rfl (pi_range1 (by rfl) mr (pa_cons pe_int pa_nil)) (pg_name (i := 3) scRight.nd rfl (.inl rfl))
        (pss_cons (ps_set (i := 4) scRight.nd rfl (.inl rfl) (pe_call GB1 hr (by rfl) TB.gB TB.B.kp TB.bB .nil pass0 (pa_cons (pv 0) (pa_cons (pv 1) pa_nil))))
        (pss_cons (ps_if (pt_cmpR op_eq (pe_op op_mod (pv 3) pe_int) pe_int (nomark _)) (pss_one (ps_set (i := 4) scRight.nd rfl (.inl rfl) (pe_call GB2 hr (by rfl) TB.gB TB.B.kp TB.bB .nil pass0 (pa_cons (pv 0) (pa_cons (pv 4) pa_nil))))) pss_nil)
        (pss_one (ps_if (pt_cmpR op_ne (pe_callB call_reprB (by rfl) mrp (by decide +kernel) (pa_cons (pe_call GI hr (by rfl) gI FI.kp bI .nil pass0 (pa_cons (pv 4) pa_nil)) pa_nil)) (pe_callB call_reprB (by rfl) mrp (by decide +kernel) (pa_cons (pe_call GJ hr (by rfl) gJ FJ.kp bJ .nil pass0 (pa_cons (pv 4) pa_nil)) pa_nil)) (nomark _)) (pss_one (ps_ret pe_bl)) pss_nil)))))
      (pss_cons (ps_set (i := 5) scRight.nd rfl (.inl rfl) (pe_callTy (call_dictP rfl) (by rfl) md (by decide +kernel) (pa_cons (pe_lc (own := [("_law_name", 8)]) (g := gName 8) (tt := tYes) (te := tTup (tCons (tVar 8) (tCons (tC (.bl true)) tNil))) rfl scRight.nd (pi_list (pe_call GF hr (by rfl) gF FF.kp bF .nil pass0 (pa_cons (pv 1) pa_nil)))
          (blkOk_by (own := [("_law_name", 8)]) (N := nRight) (sc := defScope sRight) (by decide +kernel)) (fun _ _ _ _ _ => pg_name (i := 8) scRight.nd rfl (.inl rfl)) (fun _ _ _ _ _ => pts_nil) (fun _ _ _ _ _ => pe_tup (pa_cons (pv 8) (pa_cons pe_bl pa_nil)))) pa_nil)))
      (pss_cons (ps_for PassesOwn.never rfl (pi_range1 (by rfl) mr (pa_cons pe_int pa_nil)) (pg_name (i := 3) scRight.nd rfl (.inl rfl))
        (pss_cons (ps_set (i := 6) scRight.nd rfl (.inl rfl) (pe_callTy call_tuple_of (by rfl) TB.tup (by decide +kernel) (pa_cons (pe_lc (own := [("_law_name", 8)]) (g := gName 8) (tt := tTest (tOp rEq (tCall spTake [] E0 (tCons (tVar 0) (tCons (tC (.int 2)) tNil))) (tC (.int 0)))) (te := tVar 8) rfl scRight.nd (pi_list (pe_callB (call_sortedD rfl) (by rfl) ms (by decide +kernel) (pa_cons (pv 5) pa_nil)))
          (blkOk_by (own := [("_law_name", 8)]) (N := nRight) (sc := defScope sRight) (by decide +kernel)) (fun _ _ _ _ _ => pg_name (i := 8) scRight.nd rfl (.inl rfl)) (fun _ _ _ _ _ => pts_one (pt_cmpR op_eq (pe_call GT hr (by rfl) TB.gT TB.T.kp TB.bT .nil pass0 (pa_cons (pv 0) (pa_cons pe_int pa_nil))) pe_int (nomark _))) (fun _ _ _ _ _ => pv 8)) pa_nil)))
        (pss_one (ps_for PassesOwn.never rfl (pi_tup (pe_tup (pa_cons (pv 6) (pa_cons (pe_call GB1 hr (by rfl) TB.gB TB.B.kp TB.bB .nil pass0 (pa_cons (pv 0) (pa_cons (pv 6) pa_nil))) (pa_cons (pe_revT (pv 6)) (pa_cons (pe_callTy call_list_of (by rfl) TB.lst (by decide +kernel) (pa_cons (pv 6) pa_nil)) (pa_cons (pe_call GP hr (by rfl) TB.gP TB.P.kp TB.bP .nil pass0 (pa_cons (pv 0) (pa_cons (pe_lst (pa_cons (pv 6) (pa_cons pe_non (pa_cons pe_str (pa_cons pe_dnewK pa_nil))))) pa_nil))) pa_nil))))))) (pg_name (i := 7) scRight.nd rfl (.inl rfl))
          (pss_one (ps_if (pt_cmpR op_ne (pe_callB call_reprB (by rfl) mrp (by decide +kernel) (pa_cons (pe_call GR hr (by rfl) gR FR.kp bR .nil pass0 (pa_cons (pv 1) (pa_cons (pv 7) pa_nil))) pa_nil)) (pe_callB call_reprB (by rfl) mrp (by decide +kernel) (pa_cons (pe_call GS hr (by rfl) gS FS.kp bS .nil pass0 (pa_cons (pv 1) (pa_cons (pv 7) pa_nil))) pa_nil)) (nomark _)) (pss_one (ps_ret pe_bl)) pss_nil))))))
      (pss_one (ps_ret (pe_cmpR op_eq (pe_callB (call_show hg2 hr.units) (by rfl) mrp (by decide +kernel) (pa_cons (pv 1) pa_nil)) (pv 2) (nomark _)))))))), ?_⟩
    have lv : ∀ v ∈ hs, v.length ≤ 24 := fun v hv => (hok.ver v hv).len
    have hne : 0 < hs.length := List.length_pos_iff.mpr hok.ne
    obtain ⟨last, hlast⟩ : ∃ last, hs.getLast? = some last := by
      cases e : hs.getLast? with
      | none => exact absurd (List.getLast?_eq_none_iff.mp e) hok.ne
      | some v => exact ⟨v, rfl⟩
    have okl := hok.ver last (List.mem_of_getLast? hlast)
    have nHist : Nice (histD hs) 60 1048576 := (nice_hist (m := 24) fun v hv => ⟨(hok.ver v hv).len, (hok.ver v hv).row⟩).up (by decide) (by
      have : (9 * 24 + 1) * hs.length ≤ (9 * 24 + 1) * 9 := Nat.mul_le_mul_left _ l9
      omega)
    have nL : Nice (tupD (srt last)) 60 1048576 := (nice_rows fun z hz => okl.row z (srt_mem.mp hz)).up (by decide) (by
      rw [srt_len]
      have := okl.len
      omega)
    have okA : (histA hs).ok 24 := by
      refine ⟨by rw [List.length_map]; omega, okAll_iff.mpr fun d hd => ?_⟩
      obtain ⟨v, hv, rfl⟩ := List.mem_map.mp hd
      refine ⟨by rw [List.length_map]; exact lv v hv, okAll_iff.mpr fun e he => ?_⟩
      obtain ⟨z, hz, rfl⟩ := List.mem_map.mp he
      exact Nat.le_trans ((hok.ver v hv).row z hz).2.1 (by decide)
    have dpA : (histA hs).deep ≤ 2 := by
      show AD.deepAll _ + 1 ≤ 2
      refine Nat.succ_le_succ (deepAll_le.mpr fun d hd => ?_)
      obtain ⟨v, hv, rfl⟩ := List.mem_map.mp hd
      show AD.deepAll _ + 1 ≤ 1
      refine Nat.succ_le_succ (deepAll_le.mpr fun e he => ?_)
      obtain ⟨z, hz, rfl⟩ := List.mem_map.mp he
      exact Nat.le_refl 0
    refine ⟨.ref h, rfl, ?_⟩
    dsimp only [tNil]
    refine show_nice hA.dp nHist ?_
    have hb := histA_ok hok (by omega)
    refine ⟨.ref h, rfl, .ref h, histA hs, 24, rfl, hA.av, okA, by decide, fun H1 s1 => ?_⟩
    rw [hb]
    refine ⟨true, true, rfl, rfl, _, rfl, iteF ?_⟩
    refine ⟨.ref h, rfl, h, hs, last, rfl, hA.same s1, hlast, okl.len, fun H2 p2 s2 n2 e2 => ?_⟩
    have s02 := s1.trans s2
    obtain ⟨zs, hz1, hz2⟩ := hA.same s02
    obtain ⟨lv2, glv, hlv⟩ := hist_last hz2 hlast
    refine ⟨.ref h, rfl, 1, rfl, h, _, -1, _, rfl, rfl, hz1, glv, lv2, last, rfl, hlv, by have := okl.len; omega, fun ys p3 pm so hp3 => ?_⟩
    refine ⟨p3, _, rfl, .inl ⟨SqL.of upd_same, fun t4 ht4 => ?_⟩⟩
    have e5 : ys = srt last := srt_one pm so
    subst e5
    have s24 := (same_new hp3 (o := .lst ((srt last).map V.str))).trans (same_new ht4 (o := .tup ((srt last).map V.str)))
    refine ⟨tupD (srt last), tupD (srt last), SqT.dp (SqT.of (s24 _ _ e2)), SqT.dp (SqT.of upd_same), nL.shaped (by decide), nL.shaped (by decide), _, rfl, ?_⟩
    rw [nL.refl]
    refine iteF ?_
    have s04 := s02.trans s24
    generalize upd (upd H2 p3 (.lst ((srt last).map V.str))) t4 (.tup ((srt last).map V.str)) = H4 at s04 ⊢
    refine ⟨8, rfl, by decide, by decide, ?_⟩
    refine for_range (lo := 0) (n := 8) (fun i σ H' => ∃ y3 y4, σ = [some (.ref a), some (.ref h), some (.str (histD hs).shown), y3, y4, none, none, none, none] ∧ But a H H' ∧ Hd H' a (t + 30 * i)) ⟨_, _, rfl, same_but s04, same_hd s04 hh⟩ (fun i σ H5 hi hP => ?_) (fun σ H5 hP => ?_)
    · obtain ⟨y3, y4, rfl, b5, hd5⟩ := hP
      have hA5 := hA.but b5 hh
      refine ⟨.ref a, rfl, .ref h, rfl, a, .ref h, t + 30 * i, 24, histA hs, rfl, hd5, by omega, hA5.av, by omega, okA, by decide, fun H6 b1 d1 sb6 hd6 av6 dp6 ok6 => ?_⟩
      refine ⟨_, rfl, _, 2, rfl, rfl, (show (0 : Int) < 2 by decide), rfl, _, rfl, ite2 (fun _ => ?_) (fun _ => ?_)⟩
      · refine ⟨.ref a, rfl, b1, rfl, a, b1, t + 30 * i + 9, 2072, d1, rfl, hd6, by omega, av6, by omega, ok6, by decide, fun H7 b2 d2 sb7 hd7 av7 dp7 ok7 => ?_⟩
        refine ⟨_, rfl, b2, d2, 8216, rfl, av7, ok7, by decide, fun H8 s8 => ?_⟩
        refine ⟨_, rfl, _, rfl, b2, d2, 8216, rfl, av7.same s8, ok7, by decide, fun H9 s9 => ?_⟩
        refine ⟨_, rfl, rfl, _, rfl, iteNS rfl ⟨_, _, rfl, (b5.trans (sb6.trans sb7)).trans (same_but (s8.trans s9)), (same_hd (s8.trans s9) hd7).up (by omega)⟩⟩
      · skip
        refine ⟨_, rfl, b1, d1, 2072, rfl, av6, ok6, by decide, fun H8 s8 => ?_⟩
        refine ⟨_, rfl, _, rfl, b1, d1, 2072, rfl, av6.same s8, ok6, by decide, fun H9 s9 => ?_⟩
        refine ⟨_, rfl, rfl, _, rfl, iteNS rfl ⟨_, _, rfl, (b5.trans sb6).trans (same_but (s8.trans s9)), (same_hd (s8.trans s9) hd6).up (by omega)⟩⟩
    · obtain ⟨y3, y4, rfl, b5, hd5⟩ := hP
      have hA5 := hA.but b5 hh
      have lf : hs.flatten.length ≤ 1000 := by
        have : ∀ l : List (List Str), (∀ v ∈ l, v.length ≤ 24) → l.flatten.length ≤ 24 * l.length := by
          intro l
          induction l with
          | nil => intro _; exact Nat.le_refl _
          | cons v l ih =>
            intro h
            have a := ih fun u hu => h u (List.mem_cons_of_mem _ hu)
            have b := h v List.mem_cons_self
            rw [List.flatten_cons, List.length_append, List.length_cons]
            omega
        have := this hs lv
        omega
      refine ⟨.ref h, rfl, h, hs, rfl, hA5, lf, fun H6 g s6 n6 e6 => ?_⟩
      refine ⟨g, rfl, ⟨_, SqL.of e6⟩, fun D2 hD2 => lc_list (xs := hs.flatten.map V.str) (fun i H3 => Same H6 H3 ∧ PairsAt K H3 D2 (hs.flatten.take i)) ⟨same_new hD2, PairsAt.nil upd_same⟩ (fun i H3 _ hP => SqL.of (hP.1 _ _ e6)) (fun i x H3 hx hP => ?_) (fun H3 hP => ?_)⟩
      · obtain ⟨q1, q2⟩ := hP
        rw [List.getElem?_map] at hx
        obtain ⟨y, hy, rfl⟩ := Option.map_eq_some_iff.mp hx
        have hi : i < hs.flatten.length := (List.getElem?_eq_some_iff.mp hy).1
        refine ⟨rfl, lc_yes ?_⟩
        refine ⟨_, rfl, (by show 2 ≤ sizeLine; decide), fun t ht => ?_⟩
        obtain ⟨acc, e1, e2, e3⟩ := q2.step (y := y) ht
        refine ⟨acc, e1, ?_, same_own (q1.trans (same_new ht)) hD2, ?_⟩
        · rw [e2, List.length_take]
          exact small1000 (by omega)
        · rw [List.take_add_one, hy]
          exact e3
      obtain ⟨q1, q2⟩ := hP
      rw [List.length_map, List.take_length] at q2
      obtain ⟨ps, p2, p3, p4⟩ := q2
      refine ⟨D2, ps, _, rfl, SqL.of p2, p4, fun m hm => ?_⟩
      have em : mergeK [] (hs.flatten.map ent) = (ddL [] hs.flatten).map ent := merge_ent hs.flatten []
      have s67 := q1.trans (same_new hm (o := .dK (mergeK [] (hs.flatten.map ent))))
      have e7 : (upd H3 m (.dK (mergeK [] (hs.flatten.map ent)))) m = some (.dK ((ddL [] hs.flatten).map ent)) := by rw [upd_same, em]
      have b7 := b5.trans (same_but (s6.trans s67))
      have hd7 := same_hd (s6.trans s67) hd5
      generalize upd H3 m (.dK (mergeK [] (hs.flatten.map ent))) = H7 at s67 e7 b7 hd7 ⊢
      have ma : m ≠ a := by
        have := same_hd (s6.trans q1) hd5
        exact this.ne hm
      have rowF : ∀ z ∈ hs.flatten, RowS z := fun z hz => by
        obtain ⟨v, hv, hz⟩ := List.mem_flatten.mp hz
        exact (hok.ver v hv).row z hz
      refine ⟨6, rfl, by decide, by decide, ?_⟩
      refine for_range (lo := 0) (n := 6) (fun i σ H' => ∃ y3 y4 y6 y7, σ = [some (.ref a), some (.ref h), some (.str (histD hs).shown), y3, y4, some (.ref m), y6, y7, none] ∧ But a H H' ∧ Hd H' a (t + 240 + 100 * i) ∧ H' m = some (.dK ((ddL [] hs.flatten).map ent))) ⟨_, _, _, _, rfl, b7, hd7, e7⟩ (fun i σ H8 hi hP => ?_) (fun σ H8 hP => ?_)
      · obtain ⟨y3, y4, y6, y7, rfl, b8, hd8, e8⟩ := hP
        refine ⟨.ref m, rfl, m, _, ddL [] hs.flatten, rfl, .inl e8, by rw [List.map_map]; rfl, l64, fun ys p9 pm so hp9 => ?_⟩
        have b9 := b8.new (o := .lst (ys.map V.str)) hp9
        have hd9 := hd8.new (o := .lst (ys.map V.str)) hp9
        have e9 : (upd H8 p9 (.lst (ys.map V.str))) m = some (.dK ((ddL [] hs.flatten).map ent)) := same_new hp9 _ _ e8
        have ep9 : (upd H8 p9 (.lst (ys.map V.str))) p9 = some (.lst (ys.map V.str)) := upd_same
        have np9 : p9 ≠ a := hd8.ne hp9
        have ly : ys.length < 64 := by rw [pm.length_eq]; exact l64
        have rowY : ∀ z ∈ ys, RowS z := fun z hz => by
          rcases (ddL_mem _ _ z).mp (pm.subset hz) with y | y
          · exact (nomatch y)
          · exact rowF z y
        generalize upd H8 p9 (.lst (ys.map V.str)) = H9 at b9 hd9 e9 ep9 ⊢
        refine ⟨p9, rfl, ⟨_, SqL.of ep9⟩, fun D hD => lc_list (xs := ys.map V.str) (fun j H' => But a H9 H' ∧ Hd H' a (t + 240 + 100 * i + j) ∧ ∃ sl : List Str, H' D = some (.lst (sl.map V.str)) ∧ sl.length ≤ j ∧ ∀ z ∈ sl, z ∈ ys)
          ⟨(But.refl a H9).new hD, hd9.new hD, [], upd_same, Nat.le_refl _, fun z hz => (nomatch hz)⟩ (fun j H' _ hP => SqL.of (hP.1 p9 _ np9 ep9)) (fun j x H' hx hP => ?_) (fun H10 hP => ?_)⟩
        · obtain ⟨p1, p2, sl, p3, p4, p5⟩ := hP
          have npD : D ≠ a := hd9.ne hD
          have hj2 : j < ys.length := by
            have := (List.getElem?_eq_some_iff.mp hx).1
            rw [List.length_map] at this
            exact this
          rw [List.getElem?_map] at hx
          obtain ⟨y, hy, rfl⟩ := Option.map_eq_some_iff.mp hx
          refine ⟨rfl, .ref a, rfl, a, t + 240 + 100 * i + j, 2, rfl, p2, by omega, by decide, by decide, fun H11 v11 sb11 hd11 _ _ => ?_⟩
          have e11 := sb11 D _ npD p3
          refine ⟨rfl, _, rfl, ite2 (fun _ => ?_) (fun _ => ?_)⟩
          · refine ⟨_, rfl, _, e11, ?_, ((p1.trans sb11).own hD), hd11.oth npD, sl ++ [y], ?_, ?_, ?_⟩
            · rw [List.length_map]
              exact small1000 (by omega)
            · rw [upd_same, List.map_append]
              rfl
            · rw [List.length_append, List.length_singleton]
              omega
            · intro z hz
              rcases List.mem_append.mp hz with hz | hz
              · exact p5 z hz
              · rw [List.mem_singleton.mp hz]
                exact List.mem_of_getElem? hy
          · exact ⟨p1.trans sb11, hd11, sl, e11, by omega, p5⟩
        · obtain ⟨p1, p2, sl, p3, p4, p5⟩ := hP
          rw [List.length_map] at p2 p4
          refine ⟨D, _, rfl, .inl ⟨SqL.of p3, fun so9 hso => ?_⟩⟩
          have b11 := (b9.trans p1).new (o := .tup (sl.map V.str)) hso
          have hd11 := p2.new (o := .tup (sl.map V.str)) hso
          have hq11 : SqT K (upd H10 so9 (.tup (sl.map V.str))) so9 (sl.map V.str) := SqT.of upd_same
          have e11 : (upd H10 so9 (.tup (sl.map V.str))) m = some (.dK ((ddL [] hs.flatten).map ent)) := same_new hso _ _ (p1 m _ ma e9)
          generalize upd H10 so9 (.tup (sl.map V.str)) = H11 at b11 hd11 hq11 e11 ⊢
          have av11 : Av K H11 (.ref so9) (.tup (sl.map AD.str)) := .tup hq11 (av_of_strs sl)
          have sdp := strs_deep sl
          have sok : (AD.tup (sl.map AD.str)).ok 64 := strs_ok (by omega) fun z hz => Nat.le_trans (rowY z (p5 z hz)).2.1 (by decide)
          have srev : (AD.tup (sl.map AD.str).reverse).deep ≤ 1 ∧ (AD.tup (sl.map AD.str).reverse).ok 64 := by
            rw [← List.map_reverse]
            exact ⟨strs_deep _, strs_ok (by rw [List.length_reverse]; omega) fun z hz => Nat.le_trans (rowY z (p5 z (List.mem_reverse.mp hz))).2.1 (by decide)⟩
          have G11 : GoodL K H11 6 20000 [.ref so9] := .cons av11 (by omega) (sok.up (by decide)) .nil
          refine ⟨.ref so9, rfl, .ref a, rfl, .ref so9, rfl, a, .ref so9, t + 240 + 100 * i + ys.length, 64, _, rfl, hd11, by omega, av11, by omega, sok, by decide, fun H12 b1 d1 sb12 hd12 av12 dp12 ok12 => ?_⟩
          have G12 : GoodL K H12 6 20000 [b1, .ref so9] := .cons av12 (by omega) (ok12.up (by decide)) (G11.but sb12 hd11 hd12)
          have hq12 := but_t sb12 hd11 hq11
          refine ⟨.ref so9, rfl, so9, _, rfl, hq12, fun r1 hr1 => ?_⟩
          have S1 := same_new hr1 (o := .tup (sl.map V.str).reverse)
          have G13 : GoodL K (upd H12 r1 (.tup (sl.map V.str).reverse)) 6 20000 [.ref r1, b1, .ref so9] := .cons (.tup (SqT.of upd_same) (av_of_strs sl).reverse) (by omega) (srev.2.up (by decide)) (G12.same S1)
          refine ⟨.ref so9, rfl, so9, _, rfl, .inr (same_t S1 hq12), fun l1 hl1 => ?_⟩
          have S2 := same_new hl1 (o := .lst (sl.map V.str))
          have G14 : GoodL K (upd (upd H12 r1 (.tup (sl.map V.str).reverse)) l1 (.lst (sl.map V.str))) 6 20000 [.ref l1, .ref r1, b1, .ref so9] := .cons (.lst (SqL.of upd_same)) (Nat.zero_le _) trivial (G13.same S2)
          have S12 := S1.trans S2
          generalize upd (upd H12 r1 (.tup (sl.map V.str).reverse)) l1 (.lst (sl.map V.str)) = H14 at G14 S12 ⊢
          refine ⟨.ref a, rfl, .ref so9, rfl, fun dd hdd => ⟨(by show 4 ≤ sizeLine; decide), fun l2 hl2 => ?_⟩⟩
          have S3 := (same_new hdd (o := .dK [])).trans (same_new hl2 (o := .lst [.ref so9, .non, .str "a", .ref dd]))
          have hd15 := same_hd (S12.trans (same_new hdd (o := .dK []))) hd12
          have hd16 := same_hd (S12.trans S3) hd12
          have G16 : GoodL K (upd (upd H14 dd (.dK [])) l2 (.lst [.ref so9, .non, .str "a", .ref dd])) 6 20000 [.ref dd, .ref l1, .ref r1, b1, .ref so9] := .cons (.dct (same_new hl2 _ _ upd_same)) (Nat.zero_le _) trivial (G14.same S3)
          refine ⟨a, _, .ref l2, rfl, hd16, by omega, .inl ⟨l2, _, rfl, hd15.ne hl2, .inl upd_same, (by show 0 < 4; decide), (by show 4 ≤ 1000; decide), fun H17 v17 sb17 hd17 hv17 => ?_⟩⟩
          have G17 : GoodL K H17 6 20000 [v17, .ref l1, .ref r1, b1, .ref so9] := by
            have g := G16.but sb17 hd16 hd17
            refine fun y hy => ?_
            rcases List.mem_cons.mp hy with rfl | hy
            · simp only [List.mem_cons, List.not_mem_nil, or_false] at hv17
              rcases hv17 with rfl | rfl | rfl | rfl
              · exact g _ (by simp)
              · exact ⟨.non, .non, Nat.zero_le _, trivial⟩
              · exact ⟨.str "a", .str "a", Nat.zero_le _, (show ("a" : Str).length ≤ 20000 by decide +kernel)⟩
              · exact g _ (by simp)
            · exact g y (List.mem_cons_of_mem _ hy)
          refine ⟨(by show 5 ≤ sizeLine; decide), fun tt htt => ?_⟩
          have G18 := G17.same (same_new htt (o := .tup [.ref so9, b1, .ref r1, .ref l1, v17]))
          have b18 : But a H (upd H17 tt (.tup [.ref so9, b1, .ref r1, .ref l1, v17])) := ((b11.trans sb12).trans ((same_but (S12.trans S3)).trans sb17)).new htt
          have hd18 := hd17.new (o := .tup [.ref so9, b1, .ref r1, .ref l1, v17]) htt
          have e18 : (upd H17 tt (.tup [.ref so9, b1, .ref r1, .ref l1, v17])) m = some (.dK ((ddL [] hs.flatten).map ent)) := same_new htt _ _ (sb17 m _ ma ((S12.trans S3) _ _ (sb12 m _ ma e11)))
          have q18 : SqT K (upd H17 tt (.tup [.ref so9, b1, .ref r1, .ref l1, v17])) tt [.ref so9, b1, .ref r1, .ref l1, v17] := SqT.of upd_same
          generalize upd H17 tt (.tup [.ref so9, b1, .ref r1, .ref l1, v17]) = H18 at G18 b18 hd18 e18 q18 ⊢
          have hA18 := hA.but b18 hh
          refine ⟨tt, rfl, ⟨_, q18⟩, for_tup (xs := [.ref so9, b1, .ref r1, .ref l1, v17]) (fun j σ H' => ∃ y7, σ = [some (.ref a), some (.ref h), some (.str (histD hs).shown), some (.int (0 + (i : Int))), y4, some (.ref m), some (.ref so9), y7, none] ∧ Same H18 H') ⟨_, rfl, Same.refl H18⟩ (fun j σ H' _ hP => ?_) (fun j x σ H19 hx hP => ?_) (fun σ H19 hP => ?_)⟩
          · obtain ⟨y7, _, s9⟩ := hP
            exact same_t s9 q18
          · obtain ⟨y7, rfl, s9⟩ := hP
            obtain ⟨d, a1, a2, a3⟩ := (G18.same s9) x (by
              have := List.mem_of_getElem? hx
              simp only [List.mem_cons, List.not_mem_nil, or_false] at this ⊢
              rcases this with rfl | rfl | rfl | rfl | rfl <;> simp)
            refine ⟨.ref h, rfl, x, rfl, h, hs, last, x, d, rfl, hA18.same s9, hlast, okl.len, a1, fun H20 s20 => ?_⟩
            refine ⟨_, rfl, .ref h, rfl, x, rfl, h, hs, last, x, d, 20000, rfl, hA18.same (s9.trans s20), hlast, okl.len, okl.nd, a1.same s20, a3, by decide, fun H21 s21 => ?_⟩
            exact ⟨_, rfl, rfl, _, rfl, iteNS rfl ⟨_, rfl, (s9.trans s20).trans s21⟩⟩
          · obtain ⟨y7, rfl, s9⟩ := hP
            exact ⟨_, _, _, _, rfl, b18.trans (same_but s9), (same_hd s9 hd18).up (by omega), s9 _ _ e18⟩
      · obtain ⟨y3, y4, y6, y7, rfl, b8, hd8, e8⟩ := hP
        refine ⟨.ref h, rfl, ?_⟩
        dsimp only [tNil]
        refine show_nice (hA.but b8 hh).dp nHist ?_
        refine ⟨_, rfl, rfl, ?_⟩
        rw [decide_eq_true rfl]
        exact q H8 b8 (hd8.up (by omega))
end
end M
namespace M
open PySem PySem.Spec PyProof.Rows L2 Gd
abbrev sLaw : Stmt := topS 27
abbrev nLaw : List Str := ["_law_script", "_law_letters", "_law_wide", "_law_some", "_law_k", "_law_hand_here", "_law_turn", "_law_history_here", "_law_nth", "_law_item"]
theorem scLaw : FnScope nLaw ["_law_script"] (defScope sLaw) := ⟨rfl, rfl, rfl, by decide +kernel, rfl, by decide +kernel, by decide +kernel⟩
def spLaw (K : PySem.W.Frag) : Sp := fun vs H Q _ => ∃ (a : Addr) (ns : List Int), vs = [.ref a] ∧ SqL K H a (ns.map V.int) ∧ ns.length ≤ 63 ∧ ∀ H', Q (.bl true) H'
structure Txt0 (K : PySem.W.Frag) (mg : Str → Option Value) (fH fT fP fN fS fC fI fB fE fV fF fJ fZ fG fA fD fY fU fW fL fR fM : Addr) (dH dT dP dN dS dC dI dB dE dV dF dJ dZ dG dA dD dY dU dW dL dR dM : FuncData) : Prop where
  H : Fun K "_law_hand" "_law_hand" sHand fH dH
  bH : Binds K dH ["_law_script", "_law_k"] []
  gH : mg "_law_hand" = some (.ref fH)
  T : Fun K "_law_take" "_law_take" sTake fT dT
  bT : Binds K dT ["_law_hand_here", "_law_many"] []
  gT : mg "_law_take" = some (.ref fT)
  P : Fun K "_law_pick" "_law_pick" sPick fP dP
  bP : Binds K dP ["_law_hand_here", "_law_items"] []
  gP : mg "_law_pick" = some (.ref fP)
  N : Fun K "_law_names" "_law_names" sNames fN dN
  bN : Binds K dN ["_law_hand_here", "_law_count"] []
  gN : mg "_law_names" = some (.ref fN)
  S : Fun K "_law_shuffled" "_law_shuffled" sShuf fS dS
  bS : Binds K dS ["_law_hand_here", "_law_items"] []
  gS : mg "_law_shuffled" = some (.ref fS)
  C : Fun K "_law_changed" "_law_changed" sChg fC dC
  bC : Binds K dC ["_law_hand_here", "_law_version", "_law_fresh"] []
  gC : mg "_law_changed" = some (.ref fC)
  I : Fun K "_law_history" "_law_history" sHist fI dI
  bI : Binds K dI ["_law_hand_here", "_law_most_rows", "_law_most_versions"] []
  gI : mg "_law_history" = some (.ref fI)
  B : Fun K "_law_bent" "_law_bent" sBent fB dB
  bB : Binds K dB ["_law_hand_here", "_law_item"] []
  gB : mg "_law_bent" = some (.ref fB)
  E : Fun K "_law_is_row" "_law_is_row" sLRow fE dE
  bE : Binds K dE ["_law_item"] []
  gE : mg "_law_is_row" = some (.ref fE)
  V : Fun K "_law_is_version" "_law_is_version" sLVer fV dV
  bV : Binds K dV ["_law_item"] []
  gV : mg "_law_is_version" = some (.ref fV)
  F : Fun K "_law_flat" "_law_flat" sFlat fF dF
  bF : Binds K dF ["_law_some"] []
  gF : mg "_law_flat" = some (.ref fF)
  J : Fun K "_law_is_history" "_law_is_history" sLH fJ dJ
  bJ : Binds K dJ ["_law_item"] []
  gJ : mg "_law_is_history" = some (.ref fJ)
  Z : Fun K "_law_is_set" "_law_is_set" sLSet fZ dZ
  bZ : Binds K dZ ["_law_history_here", "_law_item"] []
  gZ : mg "_law_is_set" = some (.ref fZ)
  G : Fun K "_law_right" "_law_right" sRight fG dG
  bG : Binds K dG ["_law_hand_here", "_law_history_here"] []
  gG : mg "_law_right" = some (.ref fG)
  A : Fun K "is_row" "is_row" sIsRow fA dA
  bA : Binds K dA ["value"] []
  gA : mg "is_row" = some (.ref fA)
  D : Fun K "is_version" "is_version" sVer fD dD
  bD : Binds K dD ["value"] []
  gD : mg "is_version" = some (.ref fD)
  Y : Fun K "is_history" "is_history" sIsH fY dY
  bY : Binds K dY ["value"] []
  gY : mg "is_history" = some (.ref fY)
  U : Fun K "some_row_returns" "some_row_returns" sRet fU dU
  bU : Binds K dU ["versions"] []
  gU : mg "some_row_returns" = some (.ref fU)
  W : Fun K "has_left" "has_left" sLeft fW dW
  bW : Binds K dW ["versions", "row"] []
  gW : mg "has_left" = some (.ref fW)
  L : Fun K "live_rows" "live_rows" sLive fL dL
  bL : Binds K dL ["history"] []
  gL : mg "live_rows" = some (.ref fL)
  R : Fun K "is_row_set" "is_row_set" sRSet fR dR
  bR : Binds K dR ["history", "value"] []
  gR : mg "is_row_set" = some (.ref fR)
  M : Fun K "live_rows_among" "live_rows_among" sAmong fM dM
  bM : Binds K dM ["history", "rows"] []
  gM : mg "live_rows_among" = some (.ref fM)
  len : mg "len" = none
  abs : mg "abs" = none
  int : mg "int" = none
  rng : mg "range" = none
  lst : mg "list" = none
  tup : mg "tuple" = none
  rpr : mg "repr" = none
  max : mg "max" = none
  min : mg "min" = none
  srt : mg "sorted" = none
  isi : mg "isinstance" = none
  str : mg "str" = none
  all : mg "all" = none
  any : mg "any" = none
  dct : mg "dict" = none
  enu : mg "enumerate" = none
  st : mg "set" = none
  cMOST_LETTERS : ∃ tk, mg "MOST_LETTERS" = some (.int 8 tk)
  cMOST_ROWS : ∃ tk, mg "MOST_ROWS" = some (.int 24 tk)
  cMOST_VERSIONS : ∃ tk, mg "MOST_VERSIONS" = some (.int 40 tk)
theorem but_same {H H1 H2 : Hp} {p : Addr} (s : Same H H1) (hp : H p = none) (b : But p H1 H2) : Same H H2 := fun c o e => b c o (ne_of_none e hp) (s c o e)
/-! ### values that are written down -/
section
variable {K : PySem.W.Frag} {σ : L2.St} {H0 : Hp}
def Mk (K : PySem.W.Frag) (σ : L2.St) (H0 : Hp) (te : TE) (d : AD) : Prop := ∀ (H : Hp) (Q : VK), Same H0 H → (∀ x H', Same H H' → Av K H' x d → Q x H') → te σ H Q
def MkA (K : PySem.W.Frag) (σ : L2.St) (H0 : Hp) (ta : TA) (ds : List AD) : Prop := ∀ (H : Hp) (Q : List V → Hp → Prop), Same H0 H → (∀ xs H', Same H H' → AvAll K H' xs ds → Q xs H') → ta σ H Q
theorem AvAll.lenA {H : Hp} : ∀ {xs : List V} {ds : List AD}, AvAll K H xs ds → xs.length = ds.length
  | _, _, .nil => rfl
  | _, _, .cons _ r => congrArg (· + 1) (AvAll.lenA r)
theorem AvAll.same' {H H' : Hp} (s : Same H H') : ∀ {xs : List V} {ds : List AD}, AvAll K H xs ds → AvAll K H' xs ds
  | _, _, .nil => .nil
  | _, _, .cons h r => .cons (h.same s) (AvAll.same' s r)
theorem AvAll.app {H : Hp} {ys : List V} {es : List AD} (h2 : AvAll K H ys es) : ∀ {xs : List V} {ds : List AD}, AvAll K H xs ds → AvAll K H (xs ++ ys) (ds ++ es)
  | _, _, .nil => h2
  | _, _, .cons h r => .cons h (AvAll.app h2 r)
theorem AvAll.at' {H : Hp} : ∀ {xs : List V} {ds : List AD}, AvAll K H xs ds → ∀ x ∈ xs, ∃ d ∈ ds, Av K H x d
  | _, _, .nil, x, hx => nomatch hx
  | _, _, .cons h r, x, hx => by
    rcases List.mem_cons.mp hx with rfl | hx
    · exact ⟨_, List.mem_cons_self, h⟩
    · obtain ⟨d, h1, h2⟩ := AvAll.at' r x hx
      exact ⟨d, List.mem_cons_of_mem _ h1, h2⟩
theorem AvAll.rep {H : Hp} {x : V} {d : AD} (h : Av K H x d) : ∀ n : Nat, AvAll K H (List.replicate n [x]).flatten (List.replicate n d)
  | 0 => .nil
  | n + 1 => .cons h (AvAll.rep h n)
theorem Av.tupInv {H : Hp} {x : V} {ds : List AD} (h : Av K H x (.tup ds)) : ∃ a xs, x = .ref a ∧ SqT K H a xs ∧ AvAll K H xs ds := by
  cases h with
  | tup h1 h2 => exact ⟨_, _, rfl, h1, h2⟩
theorem mk_non : Mk K σ H0 (tC .non) .non := fun H Q _ q => q _ H (Same.refl H) .non
theorem mk_str {z : Str} : Mk K σ H0 (tC (.str z)) (.str z) := fun H Q _ q => q _ H (Same.refl H) (.str z)
theorem mk_var {i : Nat} {x : V} {d : AD} (e : σ[i]? = some (some x)) (h : Av K H0 x d) : Mk K σ H0 (tVar i) d := fun H Q s q => ⟨x, e, q x H (Same.refl H) (h.same s)⟩
theorem mk_dct : Mk K σ H0 tDNewK .dct := fun H Q _ q p hp => q _ _ (same_new hp) (.dct upd_same)
theorem mka_nil : MkA K σ H0 tNil [] := fun H Q _ q => q [] H (Same.refl H) .nil
theorem mka_cons {te : TE} {ta : TA} {d : AD} {ds : List AD} (h : Mk K σ H0 te d) (r : MkA K σ H0 ta ds) : MkA K σ H0 (tCons te ta) (d :: ds) := fun H Q s q =>
  h H _ s fun x H1 s1 av => r H1 _ (s.trans s1) fun xs H2 s2 avs => q (x :: xs) H2 (s1.trans s2) (.cons (av.same s2) avs)
theorem mk_tup {ta : TA} {ds : List AD} (h : MkA K σ H0 ta ds) (l : ds.length ≤ 1000) : Mk K σ H0 (tTup ta) (.tup ds) := fun H Q s q =>
  h H _ s fun xs H1 s1 avs => ⟨by rw [avs.lenA]; exact sz1000 l, fun p hp => q _ _ (s1.trans (same_new hp)) (.tup (SqT.of upd_same) (avs.same' (same_new hp)))⟩
theorem mk_lst {ta : TA} {ds : List AD} (h : MkA K σ H0 ta ds) (l : ds.length ≤ 1000) : Mk K σ H0 (tLst ta) .lst := fun H Q s q =>
  h H _ s fun xs H1 s1 avs => ⟨by rw [avs.lenA]; exact sz1000 l, fun p hp => q _ _ (s1.trans (same_new hp)) (.lst (SqL.of upd_same))⟩
theorem mk_cat {ta tb : TE} {ds es : List AD} (ha : Mk K σ H0 ta (.tup ds)) (hb : Mk K σ H0 tb (.tup es)) (l : ds.length + es.length ≤ 1000) (n1 : ds ≠ []) (n2 : es ≠ []) : Mk K σ H0 (tOp (rCatA K) ta tb) (.tup (ds ++ es)) := fun H Q s q =>
  ha H _ s fun x H1 s1 av => hb H1 _ (s.trans s1) fun y H2 s2 bv => by
    obtain ⟨a, xs, rfl, h1, h2⟩ := (av.same s2).tupInv
    obtain ⟨b, ys, rfl, h3, h4⟩ := bv.tupInv
    have e1 := h2.lenA
    have e2 := h4.lenA
    have c1 : xs ≠ [] := fun e => n1 (List.eq_nil_of_length_eq_zero (by rw [← e1, e]; rfl))
    have c2 : ys ≠ [] := fun e => n2 (List.eq_nil_of_length_eq_zero (by rw [← e2, e]; rfl))
    exact ⟨a, b, xs, ys, rfl, rfl, h1, h3, sz1000 (by omega), fun e => absurd e c1, fun _ e => absurd e c2, fun _ _ p hp => q _ _ ((s1.trans s2).trans (same_new hp)) (.tup (SqT.of upd_same) ((h4.app h2).same' (same_new hp)))⟩
theorem mk_rep {ta : TE} {d : AD} {k : Nat} (ha : Mk K σ H0 ta (.tup [d])) (l : 2 ≤ k ∧ k ≤ 1000) : Mk K σ H0 (tOp (rRepT K) ta (tC (.int (k : Int)))) (.tup (List.replicate k d)) := fun H Q s q =>
  ha H _ s fun x H1 s1 av => by
    obtain ⟨a, xs, rfl, h1, h2⟩ := av.tupInv
    cases h2 with
    | @cons x _ _ _ h3 h4 =>
      cases h4
      refine ⟨a, k, [x], rfl, rfl, h1, by simp, by omega, by omega, by show 1 ≤ 1000; decide, fun p hp => q _ _ (s1.trans (same_new hp)) (.tup (SqT.of upd_same) ?_)⟩
      have : ((k : Int)).toNat = k := Int.toNat_natCast k
      rw [this]
      exact (AvAll.rep h3 k).same' (same_new hp)
end
/-! ### the numbers of different rows -/
theorem nodup_le {xs : List Str} : ∀ {ys : List Str}, ys.Nodup → (∀ z ∈ ys, z ∈ xs) → ys.length ≤ xs.length
  | [], _, _ => Nat.zero_le _
  | y :: ys, nd, h => by
    obtain ⟨ny, nd⟩ := List.nodup_cons.mp nd
    have hy := h y List.mem_cons_self
    have e : xs.length = (xs.erase y).length + 1 := by
      have := List.length_erase_of_mem hy
      have : 0 < xs.length := List.length_pos_of_mem hy
      omega
    have := nodup_le (xs := xs.erase y) nd fun z hz => (List.mem_erase_of_ne fun q => ny (by rw [← q]; exact hz)).mpr (h z (List.mem_cons_of_mem _ hz))
    rw [List.length_cons]
    omega
theorem dd_le {hs : List (List Str)} {names : List Str} (h : ∀ v ∈ hs, ∀ z ∈ v, z ∈ names) : (ddL [] hs.flatten).length ≤ names.length := by
  refine nodup_le (ddL_nodup _ [] List.nodup_nil) fun z hz => ?_
  rcases (ddL_mem _ _ _).mp hz with q | q
  · cases q
  · obtain ⟨v, hv, hz⟩ := List.mem_flatten.mp q
    exact h v hv z hz
theorem hist_again {hs : List (List Str)} {last : List Str} (h : HistOk hs) (hl : hs.getLast? = some last) : HistOk (hs ++ [last]) := by
  have ml := List.mem_of_getLast? hl
  have el : hs[hs.length - 1]? = some last := by rw [← List.getLast?_eq_getElem?]; exact hl
  have l0 : 0 < hs.length := List.length_pos_of_mem ml
  have key : ∀ (i : Nat) (u : List Str), (hs ++ [last])[i]? = some u → ∃ i', i' ≤ i ∧ hs[i']? = some u ∧ (i < hs.length → i' = i) ∧ (hs.length ≤ i → i' = hs.length - 1 ∧ i = hs.length) := by
    intro i u e
    by_cases c : i < hs.length
    · rw [List.getElem?_append_left c] at e
      exact ⟨i, Nat.le_refl _, e, fun _ => rfl, fun q => by omega⟩
    · have c : hs.length ≤ i := by omega
      rw [List.getElem?_append_right c] at e
      have ei : i - hs.length = 0 := by
        have := (List.getElem?_eq_some_iff.mp e).1
        rw [List.length_singleton] at this
        omega
      rw [ei] at e
      have e : some last = some u := e
      cases e
      exact ⟨hs.length - 1, by omega, el, fun q => by omega, fun _ => ⟨rfl, by omega⟩⟩
  refine ⟨by simp, fun v hv => ?_, fun i j k u v w ij jk hi hj hk x hx hv => ?_⟩
  · rcases List.mem_append.mp hv with q | q
    · exact h.ver v q
    · rw [List.mem_singleton.mp q]
      exact h.ver last ml
  · obtain ⟨i', i1, i2, i3, i4⟩ := key i u hi
    obtain ⟨j', j1, j2, j3, j4⟩ := key j v hj
    obtain ⟨k', k1, k2, k3, k4⟩ := key k w hk
    have kl : k < (hs ++ [last]).length := (List.getElem?_eq_some_iff.mp hk).1
    rw [List.length_append, List.length_singleton] at kl
    have ei := i3 (by omega)
    have ej := j3 (by omega)
    subst ei
    subst ej
    by_cases c : k < hs.length
    · have ek := k3 c
      subst ek
      exact h.ret _ _ _ u v w ij jk i2 j2 k2 x hx hv
    · obtain ⟨ek, _⟩ := k4 (by omega)
      by_cases c2 : j' = k'
      · subst c2
        rw [j2] at k2
        cases k2
        exact hv
      · exact h.ret _ _ _ u v w ij (by omega) i2 j2 k2 x hx hv
def wideA (n : Nat) : List AD := (List.range n).map fun i => .str ⟨#[97 + i]⟩
def one : AD := .tup [.str "a"]
def some1 : List AD := [.tup [], .tup [.tup []], .tup [.tup (wideA 24)], .tup [.tup (wideA 24 ++ [.str "y"])], .tup (List.replicate 40 one), .tup (List.replicate 41 one), .tup [one, .tup [], one], .lst]
def some2 : List AD := [.tup [.tup [.str "a", .str "b"], .tup [.str "b"], .tup [.str "b", .str "c"], .tup [.str "b", .str "a"]], .tup [.tup [.str "a"], .tup [.str "a", .str "b"], .tup [.str "b"], .tup [.str "b", .str "c"]]]
def some3 : List AD := [.non, .str "a", .dct]
theorem wide_ok (n : Nat) : ∀ d ∈ wideA n, d.ok 100 := fun d hd => by
  obtain ⟨i, _, rfl⟩ := List.mem_map.mp hd
  show 1 ≤ 100
  decide
theorem one_ok : one.ok 100 := ⟨by show 1 ≤ 100; decide, by show 1 ≤ 100; decide, trivial⟩
theorem s1 {z : Str} (h : z.length = 1) : (AD.str z).ok 100 := by show z.length ≤ 100; omega
theorem tup_ok {ds : List AD} (l : ds.length ≤ 100) (h : ∀ d ∈ ds, d.ok 100) : (AD.tup ds).ok 100 := ⟨l, okAll_iff.mpr h⟩
theorem all3 {a b c : AD} {P : AD → Prop} (h1 : P a) (h2 : P b) (h3 : P c) : ∀ d ∈ [a, b, c], P d := fun d hd => by
  simp only [List.mem_cons, List.not_mem_nil, or_false] at hd
  rcases hd with rfl | rfl | rfl <;> assumption
theorem all_ok : ∀ d ∈ some1 ++ some2 ++ some3, d.ok 100 := by
  have e0 : (AD.tup []).ok 100 := ⟨by show 0 ≤ 100; decide, trivial⟩
  have a1 : (AD.str "a").ok 100 := s1 (by decide +kernel)
  have b1 : (AD.str "b").ok 100 := s1 (by decide +kernel)
  have c1 : (AD.str "c").ok 100 := s1 (by decide +kernel)
  have y1 : (AD.str "y").ok 100 := s1 (by decide +kernel)
  have two : ∀ {x y : AD}, x.ok 100 → y.ok 100 → (AD.tup [x, y]).ok 100 := fun hx hy => ⟨by show 2 ≤ 100; decide, hx, hy, trivial⟩
  have sing : ∀ {x : AD}, x.ok 100 → (AD.tup [x]).ok 100 := fun hx => ⟨by show 1 ≤ 100; decide, hx, trivial⟩
  have wl : ∀ n, (wideA n).length = n := fun n => by unfold wideA; rw [List.length_map, List.length_range]
  refine okAll_iff.mp ?_
  refine ⟨e0, sing e0, sing (tup_ok (by rw [wl]; decide) (wide_ok 24)), sing (tup_ok (by rw [List.length_append, wl]; decide) fun d hd => ?_), tup_ok (by rw [List.length_replicate]; decide) fun d hd => ?_, tup_ok (by rw [List.length_replicate]; decide) fun d hd => ?_, ⟨by show 3 ≤ 100; decide, one_ok, e0, one_ok, trivial⟩, trivial,
    ⟨by show 4 ≤ 100; decide, two a1 b1, sing b1, two b1 c1, two b1 a1, trivial⟩, ⟨by show 4 ≤ 100; decide, sing a1, two a1 b1, sing b1, two b1 c1, trivial⟩, trivial, a1, trivial, trivial⟩
  · rcases List.mem_append.mp hd with q | q
    · exact wide_ok 24 d q
    · rw [List.mem_singleton.mp q]
      exact y1
  · rw [(List.mem_replicate.mp hd).2]
    exact one_ok
  · rw [(List.mem_replicate.mp hd).2]
    exact one_ok
end M
namespace M
open PySem PySem.Spec PyProof.Rows L2 Gd
theorem wide_at (i : Nat) (h : i < 24) : atI abc.cps.toList (0 + (i : Int)) = some (97 + i) := by
  rw [Int.zero_add]
  exact atI_nat (abc_at i (by omega))
def wideV (n : Nat) : List V := (List.range n).map fun i => .str ⟨#[97 + i]⟩
theorem wide_av {K : PySem.W.Frag} {H : Hp} : ∀ l : List Nat, AvAll K H (l.map fun i => V.str ⟨#[97 + i]⟩) (l.map fun i => AD.str ⟨#[97 + i]⟩)
  | [] => .nil
  | _ :: l => .cons (.str _) (wide_av l)
theorem mka_one {K : PySem.W.Frag} {σ : L2.St} {H0 : Hp} {te : TE} {d : AD} (h : Mk K σ H0 te d) : MkA K σ H0 (tCons te tNil) [d] := mka_cons h mka_nil
theorem mk_rep40 {K : PySem.W.Frag} {σ : L2.St} {H0 : Hp} {ta : TE} {d : AD} (ha : Mk K σ H0 ta (.tup [d])) : Mk K σ H0 (tOp (rRepT K) ta (tC (.int 40))) (.tup (List.replicate 40 d)) := mk_rep (k := 40) ha (by decide)
theorem mk_rep41 {K : PySem.W.Frag} {σ : L2.St} {H0 : Hp} {ta : TE} {d : AD} (ha : Mk K σ H0 ta (.tup [d])) : Mk K σ H0 (tOp (rRepT K) ta (tC (.int 41))) (.tup (List.replicate 41 d)) := mk_rep (k := 41) ha (by decide)
theorem lst_run {K : PySem.W.Frag} {σ : L2.St} {H : Hp} {ta : TA} {ds : List AD} {Q : VK} (m : MkA K σ H ta ds) (l : ds.length ≤ 1000) (q : ∀ xs H1, Same H H1 → AvAll K H1 xs ds → ∀ p, H1 p = none → Q (.ref p) (upd H1 p (.lst xs))) : tLst ta σ H Q :=
  m H _ (Same.refl H) fun xs H1 s1 av => ⟨by rw [av.lenA]; exact sz1000 l, fun p hp => q xs H1 s1 av p hp⟩
section
variable {P : Program} {w : World} {K : PySem.W.Frag} {mg : Str → Option Value} {base : Heap}
theorem ok_law {f fH fT fP fN fS fC fI fB fE fV fF fJ fZ fG fA fD fY fU fW fL fR fM : Addr} {fd dH dT dP dN dS dC dI dB dE dV dF dJ dZ dG dA dD dY dU dW dL dR dM : FuncData} (F : Fun K "law" "law" sLaw f fd) (T : Txt0 K mg fH fT fP fN fS fC fI fB fE fV fF fJ fZ fG fA fD fY fU fW fL fR fM dH dT dP dN dS dC dI dB dE dV dF dJ dZ dG dA dD dY dU dW dL dR dM) : FnG P w K mg base 10 f fd ["_law_script"] (spLaw K) := by
  obtain ⟨tk1, c1⟩ := T.cMOST_LETTERS
  obtain ⟨tk2, c2⟩ := T.cMOST_ROWS
  obtain ⟨tk3, c3⟩ := T.cMOST_VERSIONS
  have GH : FnOk P w K mg base CX0 9 fH dH ["_law_script", "_law_k"] (spHand K) := ok_hand T.H T.len T.abs T.int
  have GN : FnOk P w K mg base CX0 8 fN dN ["_law_hand_here", "_law_count"] spNames := ok_names T.N T.T T.bT T.gT T.P T.bP T.gP T.len T.rng
  have GS : FnOk P w K mg base CX0 8 fS dS ["_law_hand_here", "_law_items"] spShuf := ok_shuf T.S T.T T.bT T.gT T.len T.lst
  have GC : FnOk P w K mg base CX0 8 fC dC ["_law_hand_here", "_law_version", "_law_fresh"] (spChg K) := ok_chg T.C T.T T.bT T.gT T.P T.bP T.gP T.len T.lst T.tup
  have GI : FnOk P w K mg base CX0 9 fI dI ["_law_hand_here", "_law_most_rows", "_law_most_versions"] (spHist K) := ok_hist T.I T.gT T.T T.bT T.gN T.N T.bN GN T.gS T.S T.bS GS T.gC T.C T.bC GC T.min T.tup T.rng
  have TB : BentTxt K mg fB fT fP dB dT dP := ⟨T.B, T.bB, T.gB, T.T, T.bT, T.gT, T.P, T.bP, T.gP, T.len, T.isi, T.tup, T.lst, T.str, T.int⟩
  have GD : FnOk P w K mg base CX0 7 fD dD ["value"] (spVer K) := ok_ver T.D T.A T.bA T.gA T.isi T.str T.tup T.len T.all T.st c1 c2
  have GU : FnOk P w K mg base CX0 7 fU dU ["versions"] (spRet K) := ok_ret T.U T.W T.bW T.gW T.any T.rng T.len
  have GY : FnOk P w K mg base CX0 8 fY dY ["value"] (spIsH K) := ok_ish T.Y T.D T.bD T.gD GD T.U T.bU T.gU GU T.isi T.tup T.len T.all c3
  have GY9 : FnOk P w K mg base CX0 9 fY dY ["value"] (spIsH K) := GY.mono (by decide)
  have GV : FnOk P w K mg base CX0 7 fV dV ["_law_item"] (spVer K) := ok_lver T.V T.E T.bE T.gE T.isi T.str T.tup T.len T.all T.dct
  have GJ : FnOk P w K mg base CX0 8 fJ dJ ["_law_item"] (spIsH K) := ok_lh T.J T.V T.bV T.gV GV T.F T.bF T.gF T.isi T.tup T.len T.all T.dct T.enu
  have GJ9 : FnOk P w K mg base CX0 9 fJ dJ ["_law_item"] (spIsH K) := GJ.mono (by decide)
  have GM : FnOk P w K mg base CX0 7 fM dM ["history", "rows"] (spAmongA K) := ok_amongA T.M T.L T.bL T.gL T.tup T.srt
  have GR : FnOk P w K mg base CX0 8 fR dR ["history", "value"] (spRSet K) := ok_rset T.R T.M T.bM T.gM GM T.isi T.tup
  have GZ : FnOk P w K mg base CX0 8 fZ dZ ["_law_history_here", "_law_item"] (spLSet K) := ok_lset T.Z T.isi T.tup T.all T.str T.lst T.srt T.dct
  have GG : FnG P w K mg base 9 fG dG ["_law_hand_here", "_law_history_here"] (spRight K) := ok_right T.G TB T.F T.bF T.gF T.Y T.bY T.gY GY T.J T.bJ T.gJ GJ T.L T.bL T.gL T.R T.bR T.gR GR T.Z T.bZ T.gZ GZ T.rpr T.srt T.rng T.dct
  refine okG F scLaw (fun vs H Q E h => ?_) (fun cdv A outer s H vs Q E hg hr h => ?_)
  · obtain ⟨a, ns, rfl, _⟩ := h
    rfl
  · obtain ⟨a, ns, rfl, hS, hl, q⟩ := h
    have hg2 : (A.deeper (envOfC "law" (defScope sLaw) s.heap.objs.size f cdv)).guards = some [] := hg
    refine ⟨_, pss_cons (ps_set (i := 1) scLaw.nd rfl (.inr rfl) pe_str)
      (pss_cons (ps_set (i := 2) scLaw.nd rfl (.inl rfl) (pe_callTy call_tuple_of (by rfl) T.tup (by decide +kernel) (pa_cons (pe_lc (own := [("_law_nth", 8)]) (g := gName 8) (tt := tYes) rfl scLaw.nd (pi_range1 (by rfl) T.rng (pa_cons pe_int pa_nil)) (blkOk_by (own := [("_law_nth", 8)]) (N := nLaw) (sc := defScope sLaw) (by decide +kernel))
          (fun _ _ _ _ _ => pg_name (i := 8) scLaw.nd rfl (.inl rfl)) (fun _ _ _ _ _ => pts_nil) (fun _ _ _ _ _ => pe_ix ix_str (pv 1) (pv 8) (fun _ _ => rfl))) pa_nil)))
      (pss_cons (ps_set (i := 3) scLaw.nd rfl (.inl rfl) (pe_lst (pa_cons (pe_tup pa_nil) (pa_cons (pe_tup (pa_cons (pe_tup pa_nil) pa_nil)) (pa_cons (pe_tup (pa_cons (pv 2) pa_nil)) (pa_cons (pe_tup (pa_cons (pe_op op_catA (pv 2) (pe_tup (pa_cons pe_str pa_nil))) pa_nil))
          (pa_cons (pe_op op_repT (pe_tup (pa_cons (pe_tup (pa_cons pe_str pa_nil)) pa_nil)) pe_int) (pa_cons (pe_op op_repT (pe_tup (pa_cons (pe_tup (pa_cons pe_str pa_nil)) pa_nil)) pe_int) (pa_cons (pe_tup (pa_cons (pe_tup (pa_cons pe_str pa_nil)) (pa_cons (pe_tup pa_nil) (pa_cons (pe_tup (pa_cons pe_str pa_nil)) pa_nil)))) (pa_cons (pe_lst (pa_cons (pe_tup (pa_cons pe_str pa_nil)) pa_nil)) pa_nil))))))))))
      (pss_cons (ps_set (i := 3) scLaw.nd rfl (.inl rfl) (pe_op op_cat (pv 3) (pe_lst (pa_cons (pe_tup (pa_cons (pe_tup (pa_cons pe_str (pa_cons pe_str pa_nil))) (pa_cons (pe_tup (pa_cons pe_str pa_nil)) (pa_cons (pe_tup (pa_cons pe_str (pa_cons pe_str pa_nil))) (pa_cons (pe_tup (pa_cons pe_str (pa_cons pe_str pa_nil))) pa_nil)))))
          (pa_cons (pe_tup (pa_cons (pe_tup (pa_cons pe_str pa_nil)) (pa_cons (pe_tup (pa_cons pe_str (pa_cons pe_str pa_nil))) (pa_cons (pe_tup (pa_cons pe_str pa_nil)) (pa_cons (pe_tup (pa_cons pe_str (pa_cons pe_str pa_nil))) pa_nil))))) pa_nil)))))
      (pss_cons (ps_set (i := 3) scLaw.nd rfl (.inl rfl) (pe_op op_cat (pv 3) (pe_lst (pa_cons pe_non (pa_cons pe_str (pa_cons pe_dnewK pa_nil))))))
      (pss_cons (ps_if (pt_not (pt_val (pe_callB (cr_all rfl) (by rfl) T.all (by decide +kernel) (pa_cons (pe_lc (own := [("_law_item", 9)]) (g := gName 9) (tt := tYes) (te := tOp rEq (tCB rReprB (tCons (tCall (spIsH K) [] E0 (tCons (tVar 9) tNil)) tNil)) (tCB rReprB (tCons (tCall (spIsH K) [] E0 (tCons (tVar 9) tNil)) tNil))) rfl scLaw.nd (pi_list (pv 3))
          (blkOk_by (own := [("_law_item", 9)]) (N := nLaw) (sc := defScope sLaw) (by decide +kernel)) (fun _ _ _ _ _ => pg_name (i := 9) scLaw.nd rfl (.inl rfl)) (fun _ _ _ _ _ => pts_nil)
          (fun _ _ _ _ _ => pe_cmpR op_eq (pe_callB call_reprB (by rfl) T.rpr (by decide +kernel) (pa_cons (pe_call GY9 hr (by rfl) T.gY T.Y.kp T.bY .nil pass0 (pa_cons (pv 9) pa_nil)) pa_nil)) (pe_callB call_reprB (by rfl) T.rpr (by decide +kernel) (pa_cons (pe_call GJ9 hr (by rfl) T.gJ T.J.kp T.bJ .nil pass0 (pa_cons (pv 9) pa_nil)) pa_nil)) (nomark _))) pa_nil))))
        (pss_one (ps_ret pe_bl)) pss_nil)
      (pss_cons (ps_for PassesOwn.never rfl (pi_range1 (by rfl) T.rng (pa_cons (pe_callB (call_max2 rfl) (by rfl) T.max (by decide +kernel) (pa_cons pe_int (pa_cons (pe_callB (call_min2 rfl) (by rfl) T.min (by decide +kernel) (pa_cons pe_int (pa_cons (pe_callB call_len (by rfl) T.len PySem.boot_len (pa_cons (pv 0) pa_nil)) pa_nil))) pa_nil))) pa_nil)) (pg_name (i := 4) scLaw.nd rfl (.inl rfl))
        (pss_cons (ps_set (i := 5) scLaw.nd rfl (.inl rfl) (pe_call GH hr (by rfl) T.gH T.H.kp T.bH .nil pass0 (pa_cons (pv 0) (pa_cons (pv 4) pa_nil))))
        (pss_one (ps_for PassesOwn.never rfl (pi_range1 (by rfl) T.rng (pa_cons pe_int pa_nil)) (pg_name (i := 6) scLaw.nd rfl (.inl rfl))
          (pss_cons (ps_set (i := 7) scLaw.nd rfl (.inl rfl) (pe_call GI hr (by rfl) T.gI T.I.kp T.bI .nil pass0 (pa_cons (pv 5) (pa_cons pe_int (pa_cons pe_int pa_nil)))))
          (pss_one (ps_if (PW.pt (pw_or (pt_not (pt_val (pe_callG GG hg2 hr (by rfl) T.gG T.G.kp T.bG (pa_cons (pv 5) (pa_cons (pv 7) pa_nil))))) (pw_or1 (pt_not (pt_val (pe_callG GG hg2 hr (by rfl) T.gG T.G.kp T.bG (pa_cons (pv 5) (pa_cons (pe_op op_catA (pv 7) (pe_tup (pa_cons (pe_ix ix_tup (pv 7) (pe_un un_neg pe_int) (fun _ _ => rfl)) pa_nil))) pa_nil)))))))) (pss_one (ps_ret pe_bl)) pss_nil)))))))
      (pss_one (ps_ret pe_bl)))))))), ?_⟩
    -- wide
    refine ⟨24, rfl, by decide, by decide, fun D hD => lc_range (lo := 0) (n := 24) (fun i H' => Same H H' ∧ H' D = some (.lst (wideV i))) ⟨same_new hD, upd_same⟩ (fun i H' hi hP => ?_) (fun H' hP => ?_)⟩
    · obtain ⟨p1, p2⟩ := hP
      refine ⟨rfl, lc_yes ?_⟩
      refine ⟨.str abc, rfl, _, rfl, abc, _, _, rfl, rfl, sz1000 (by rw [abc_len]; decide), wide_at i hi, _, p2, ?_, same_own p1 hD, ?_⟩
      · unfold wideV
        rw [List.length_map, List.length_range]
        exact small1000 (by omega)
      · rw [upd_same]
        unfold wideV
        rw [List.range_succ, List.map_append]
        rfl
    obtain ⟨p1, p2⟩ := hP
    refine ⟨D, _, rfl, .inl ⟨SqL.of p2, fun t1 ht1 => ?_⟩⟩
    have s1 := p1.trans (same_new ht1 (o := .tup (wideV 24)))
    have aw : Av K (upd H' t1 (.tup (wideV 24))) (.ref t1) (.tup (wideA 24)) := .tup (SqT.of upd_same) (wide_av (List.range 24))
    generalize upd H' t1 (.tup (wideV 24)) = H1 at s1 aw ⊢
    have mS : ∀ {σ : L2.St} {H0 : Hp} {z : Str}, Mk K σ H0 (tTup (tCons (tC (.str z)) tNil)) (.tup [.str z]) := mk_tup (mka_one mk_str) (by show 1 ≤ 1000; decide)
    have mS2 : ∀ {σ : L2.St} {H0 : Hp} {z y : Str}, Mk K σ H0 (tTup (tCons (tC (.str z)) (tCons (tC (.str y)) tNil))) (.tup [.str z, .str y]) := mk_tup (mka_cons mk_str (mka_one mk_str)) (by show 2 ≤ 1000; decide)
    have m0 : ∀ {σ : L2.St} {H0 : Hp}, Mk K σ H0 (tTup tNil) (.tup []) := mk_tup mka_nil (by show 0 ≤ 1000; decide)
    have mO : ∀ {σ : L2.St} {H0 : Hp} {te : TE} {d : AD}, Mk K σ H0 te d → Mk K σ H0 (tTup (tCons te tNil)) (.tup [d]) := fun h => mk_tup (mka_one h) (by show 1 ≤ 1000; decide)
    -- some
    have M1 : MkA K [some (.ref a), some (.str abc), some (.ref t1), none, none, none, none, none, none, none] H1 _ some1 := mka_cons m0 (mka_cons (mO m0) (mka_cons (mO (mk_var (i := 2) rfl aw)) (mka_cons (mO (mk_cat (mk_var (i := 2) rfl aw) mS (by show 24 + 1 ≤ 1000; decide) (by decide) (by decide)))
      (mka_cons (mk_rep40 (mO mS)) (mka_cons (mk_rep41 (mO mS)) (mka_cons (mk_tup (mka_cons mS (mka_cons m0 (mka_one mS))) (by show 3 ≤ 1000; decide)) (mka_one (mk_lst (mka_one (mS (z := "a"))) (by show 1 ≤ 1000; decide)))))))))
    dsimp only [gName, tSeq, tAsg]
    refine lst_run M1 (by show 8 ≤ 1000; decide) fun xs1 H2 s2 av1 l1 hl1 => ?_
    have av1 := av1.same' (same_new hl1 (o := .lst xs1))
    have e1 : (upd H2 l1 (.lst xs1)) l1 = some (.lst xs1) := upd_same
    have s3 := (s1.trans s2).trans (same_new hl1 (o := .lst xs1))
    generalize upd H2 l1 (.lst xs1) = H3 at av1 e1 s3 ⊢
    refine ⟨.ref l1, rfl, ?_⟩
    have M2 : MkA K [some (.ref a), some (.str abc), some (.ref t1), some (.ref l1), none, none, none, none, none, none] H3 _ some2 := mka_cons (mk_tup (mka_cons mS2 (mka_cons mS (mka_cons mS2 (mka_one mS2)))) (by show 4 ≤ 1000; decide)) (mka_one (mk_tup (mka_cons mS (mka_cons mS2 (mka_cons mS (mka_one mS2)))) (by show 4 ≤ 1000; decide)))
    refine lst_run M2 (by show 2 ≤ 1000; decide) fun xs2 H4 s4 av2 l2 hl2 => ?_
    have s5 := s4.trans (same_new hl2 (o := .lst xs2))
    refine ⟨l1, l2, xs1, xs2, rfl, rfl, s5 _ _ e1, upd_same, by rw [av1.lenA, av2.lenA]; exact sz1000 (by show 8 + 2 ≤ 1000; decide), fun l3 hl3 => ?_⟩
    have av3 := AvAll.app ((av2.same' (same_new hl2 (o := .lst xs2))).same' (same_new hl3 (o := .lst (xs1 ++ xs2)))) ((av1.same' s5).same' (same_new hl3 (o := .lst (xs1 ++ xs2))))
    have e3 : (upd (upd H4 l2 (.lst xs2)) l3 (.lst (xs1 ++ xs2))) l3 = some (.lst (xs1 ++ xs2)) := upd_same
    have s6 := (s3.trans s5).trans (same_new hl3 (o := .lst (xs1 ++ xs2)))
    generalize upd (upd H4 l2 (.lst xs2)) l3 (.lst (xs1 ++ xs2)) = H5 at av3 e3 s6 ⊢
    refine ⟨.ref l3, rfl, ?_⟩
    have M3 : MkA K [some (.ref a), some (.str abc), some (.ref t1), some (.ref l3), none, none, none, none, none, none] H5 _ some3 := mka_cons mk_non (mka_cons mk_str (mka_one mk_dct))
    refine lst_run M3 (by show 3 ≤ 1000; decide) fun xs3 H6 s7 av4 l4 hl4 => ?_
    have s8 := s7.trans (same_new hl4 (o := .lst xs3))
    refine ⟨l3, l4, xs1 ++ xs2, xs3, rfl, rfl, s8 _ _ e3, upd_same, by rw [av3.lenA, av4.lenA]; exact sz1000 (by show 10 + 3 ≤ 1000; decide), fun l5 hl5 => ?_⟩
    have av5 := AvAll.app ((av4.same' (same_new hl4 (o := .lst xs3))).same' (same_new hl5 (o := .lst (xs1 ++ xs2 ++ xs3)))) ((av3.same' s8).same' (same_new hl5 (o := .lst (xs1 ++ xs2 ++ xs3))))
    have e5 : (upd (upd H6 l4 (.lst xs3)) l5 (.lst (xs1 ++ xs2 ++ xs3))) l5 = some (.lst (xs1 ++ xs2 ++ xs3)) := upd_same
    have s9 := (s6.trans s8).trans (same_new hl5 (o := .lst (xs1 ++ xs2 ++ xs3)))
    generalize upd (upd H6 l4 (.lst xs3)) l5 (.lst (xs1 ++ xs2 ++ xs3)) = H7 at av5 e5 s9 ⊢
    generalize xs1 ++ xs2 ++ xs3 = xs at av5 e5 ⊢
    have lx : xs.length = 13 := av5.lenA
    -- all
    refine ⟨.ref l5, rfl, l5, rfl, ⟨_, SqL.of e5⟩, fun D2 hD2 => lc_list (xs := xs) (fun i H2 => Same H7 H2 ∧ H2 D2 = some (.lst ((List.replicate i true).map V.bl))) ⟨same_new hD2, upd_same⟩ (fun i H2 _ hP => SqL.of (hP.1 _ _ e5)) (fun i x H2 hx hP => ?_) (fun H2 hP => ?_)⟩
    · obtain ⟨q1, q2⟩ := hP
      have hi3 : i < xs.length := (List.getElem?_eq_some_iff.mp hx).1
      obtain ⟨d, hd, av⟩ := (av5.same' q1).at' x (List.mem_of_getElem? hx)
      refine ⟨rfl, lc_yes ?_⟩
      refine ⟨x, rfl, x, d, 100, rfl, av, all_ok d hd, by decide, fun H3 s3 => ?_⟩
      refine ⟨_, rfl, x, rfl, x, d, 100, rfl, av.same s3, all_ok d hd, by decide, fun H4 s4 => ?_⟩
      refine ⟨_, rfl, rfl, _, (s3.trans s4) _ _ q2, ?_, same_own (q1.trans (s3.trans s4)) hD2, ?_⟩
      · rw [List.length_map, List.length_replicate]
        exact small1000 (by omega)
      · rw [upd_same, List.replicate_succ', List.map_append, decide_eq_true rfl]
        rfl
    obtain ⟨q1, q2⟩ := hP
    refine ⟨D2, _, rfl, SqL.of q2, _, rfl, ?_⟩
    have e : (List.replicate xs.length true).all id = true := by
      rw [List.all_eq_true]
      intro b hb
      rw [(List.mem_replicate.mp hb).2]
      rfl
    rw [e]
    refine iteF ?_
    have sA := s9.trans q1
    -- the loops
    obtain ⟨top, htop, t0, t3⟩ : ∃ top : Nat, (if (if (ns.length : Int) < 3 then (ns.length : Int) else 3) > 1 then (if (ns.length : Int) < 3 then (ns.length : Int) else 3) else 1) = (top : Int) ∧ 1 ≤ top ∧ top ≤ 3 := by
      by_cases h1 : (ns.length : Int) < 3
      · by_cases h2 : (ns.length : Int) > 1
        · exact ⟨ns.length, by rw [if_pos h1, if_pos h2], by omega, by omega⟩
        · exact ⟨1, by rw [if_pos h1, if_neg h2]; rfl, by omega, by omega⟩
      · exact ⟨3, by rw [if_neg h1]; rfl, by omega, by omega⟩
    refine ⟨.ref a, rfl, _, ns.length, rfl, .inl ⟨_, sA.seq hS, (List.length_map ..).symm⟩, _, _, rfl, _, _, rfl, top, congrArg (fun z => [V.int z]) htop, by omega, by omega, ?_⟩
    refine for_range (lo := 0) (n := top) (fun i σ H' => ∃ y1 y2 y3 y4 y5 y6 y7 y8 y9, σ = [some (.ref a), y1, y2, y3, y4, y5, y6, y7, y8, y9] ∧ Same H H') ⟨_, _, _, _, _, _, _, _, _, rfl, sA⟩ (fun i σ H1 hi hP => ?_) (fun σ H' hP => q H')
    obtain ⟨y1, y2, y3, y4, y5, y6, y7, y8, y9, rfl, s1⟩ := hP
    refine ⟨.ref a, rfl, _, rfl, a, i, ns, congrArg (fun z => [V.ref a, V.int z]) (Int.zero_add _), s1.seq hS, by omega, fun H2 p s2 np hd2 => ?_⟩
    have npH : H p = none := s1.free np
    have s02 := s1.trans s2
    refine ⟨3, rfl, by decide, by decide, ?_⟩
    refine for_range (lo := 0) (n := 3) (fun j σ H' => ∃ y6 y7, σ = [some (.ref a), y1, y2, y3, some (.int (0 + (i : Int))), some (.ref p), y6, y7, y8, y9] ∧ Same H H' ∧ Hd H' p (3000 * j)) ⟨_, _, rfl, s02, hd2⟩ (fun j σ H3 hj hP => ?_) (fun σ H' hP => ?_)
    · obtain ⟨y6, y7, rfl, s3, hd3⟩ := hP
      refine ⟨.ref p, rfl, p, 3000 * j, 8, 8, rfl, hd3, by omega, by decide, by decide, by decide, fun H4 h hs names sb4 hd4 n4 hA hok lh nn nl hin => ?_⟩
      have s4 := but_same s3 npH sb4
      have dl := dd_le hin
      refine ⟨.ref p, rfl, .ref h, rfl, p, h, _, hs, rfl, hd4, by omega, hA, hok, by omega, by omega, fun H5 sb5 hd5 => ?_⟩
      have s5 := but_same s4 npH sb5
      have hA5 := hA.but sb5 hd4
      obtain ⟨last, hlast⟩ : ∃ last, hs.getLast? = some last := by
        cases e : hs.getLast? with
        | none => exact absurd (List.getLast?_eq_none_iff.mp e) hok.ne
        | some v => exact ⟨v, rfl⟩
      obtain ⟨zs, hz1, hz2⟩ := hA5
      obtain ⟨lv, glv, hlv⟩ := hist_last hz2 hlast
      have lz : zs.length = hs.length := VsAt.len hz2
      refine ⟨true, rfl, iteF ?_⟩
      refine ⟨.ref p, rfl, .ref h, rfl, .ref h, rfl, 1, rfl, h, _, -1, _, rfl, rfl, hz1, glv, (by show 1 ≤ sizeLine; decide), fun t2 ht2 => ?_⟩
      have s6 := same_new ht2 (o := .tup [.ref lv])
      refine catV_of (same_t s6 hz1) (SqT.of upd_same) (sz1000 (by show zs.length + 1 ≤ 1000; omega)) fun H6 h2 s7 hh2 => ?_
      have hA7 : HistAt K H6 h2 (hs ++ [last]) := ⟨_, hh2, VsAt.snoc (same_t (s6.trans s7) hlv) (VsAt.keep (fun _ _ => same_t (s6.trans s7)) hz2)⟩
      have hd7 := same_hd (s6.trans s7) hd5
      have dl2 := dd_le (hs := hs ++ [last]) (names := names) fun v hv => by
        rcases List.mem_append.mp hv with q | q
        · exact hin v q
        · rw [List.mem_singleton.mp q]
          exact hin last (List.mem_of_getLast? hlast)
      refine ⟨p, h2, _, hs ++ [last], rfl, hd7, by omega, hA7, hist_again hok hlast, by rw [List.length_append]; show hs.length + 1 ≤ 9; omega, by omega, fun H8 sb8 hd8 => ?_⟩
      exact ⟨true, rfl, iteF ⟨_, _, rfl, but_same (s5.trans (s6.trans s7)) npH sb8, hd8.up (by omega)⟩⟩
    · obtain ⟨y6, y7, rfl, s3, _⟩ := hP
      exact ⟨_, _, _, _, _, _, _, _, _, rfl, s3⟩
end
end M
namespace M
open PySem PySem.Spec PyProof.Rows L2 Gd
theorem all_mk {l : PySem.W.OpenLaw} {w : World} {K : PySem.W.Frag} {h : Heap} {mg : Str → Option Value} {fa f1 f2 f3 f4 f5 f6 f7 f8 f9 f10 f11 f12 f13 f14 f15 f16 f17 f18 f19 f20 f21 f22 f23 : Addr} (X : K.In h) (G : h.Ns mainGlobals mg) (hfa : mg "law" = some (.ref fa))
    {od1 an1 od2 an2 od3 an3 od4 an4 od5 an5 od6 an6 od7 an7 od8 an8 od9 an9 od10 an10 od11 an11 od12 an12 od13 an13 od14 an14 od15 an15 od16 an16 od17 an17 od18 an18 od19 an19 od20 an20 od21 an21 od22 an22 od23 an23 : Option Addr} {sl1 sl2 sl3 sl4 sl5 sl6 sl7 sl8 sl9 sl10 sl11 sl12 sl13 sl14 sl15 sl16 sl17 sl18 sl19 sl20 sl21 sl22 sl23 : Array (Option Value)} {oc1 kV1 dc1 pm1 cd1 ct1 oc2 kV2 dc2 pm2 cd2 ct2 oc3 kV3 dc3 pm3 cd3 ct3 oc4 kV4 dc4 pm4 cd4 ct4 oc5 kV5 dc5 pm5 cd5 ct5 oc6 kV6 dc6 pm6 cd6 ct6 oc7 kV7 dc7 pm7 cd7 ct7 oc8 kV8 dc8 pm8 cd8 ct8 oc9 kV9 dc9 pm9 cd9 ct9 oc10 kV10 dc10 pm10 cd10 ct10 oc11 kV11 dc11 pm11 cd11 ct11 oc12 kV12 dc12 pm12 cd12 ct12 oc13 kV13 dc13 pm13 cd13 ct13 oc14 kV14 dc14 pm14 cd14 ct14 oc15 kV15 dc15 pm15 cd15 ct15 oc16 kV16 dc16 pm16 cd16 ct16 oc17 kV17 dc17 pm17 cd17 ct17 oc18 kV18 dc18 pm18 cd18 ct18 oc19 kV19 dc19 pm19 cd19 ct19 oc20 kV20 dc20 pm20 cd20 ct20 oc21 kV21 dc21 pm21 cd21 ct21 oc22 kV22 dc22 pm22 cd22 ct22 oc23 kV23 dc23 pm23 cd23 ct23 : Value}
    (a1 : PySem.W.nsIn K mainGlobals "_law_hand" = some (some (.ref f1))) (l1 : K.lookup f1 = some ⟨oc1, od1, .func (PySem.W.fnOf "_law_hand" "_law_hand" (defArgs sHand) (defBody sHand) (defScope sHand) .none kV1 dc1 pm1 an1 cd1 ct1), sl1⟩) (c1 : PySem.W.codeIn K cd1 "_law_hand" = true) (k1 : PySem.W.keepIn K (.ref f1) = true)
    (a2 : PySem.W.nsIn K mainGlobals "_law_take" = some (some (.ref f2))) (l2 : K.lookup f2 = some ⟨oc2, od2, .func (PySem.W.fnOf "_law_take" "_law_take" (defArgs sTake) (defBody sTake) (defScope sTake) .none kV2 dc2 pm2 an2 cd2 ct2), sl2⟩) (c2 : PySem.W.codeIn K cd2 "_law_take" = true) (k2 : PySem.W.keepIn K (.ref f2) = true)
    (a3 : PySem.W.nsIn K mainGlobals "_law_pick" = some (some (.ref f3))) (l3 : K.lookup f3 = some ⟨oc3, od3, .func (PySem.W.fnOf "_law_pick" "_law_pick" (defArgs sPick) (defBody sPick) (defScope sPick) .none kV3 dc3 pm3 an3 cd3 ct3), sl3⟩) (c3 : PySem.W.codeIn K cd3 "_law_pick" = true) (k3 : PySem.W.keepIn K (.ref f3) = true)
    (a4 : PySem.W.nsIn K mainGlobals "_law_names" = some (some (.ref f4))) (l4 : K.lookup f4 = some ⟨oc4, od4, .func (PySem.W.fnOf "_law_names" "_law_names" (defArgs sNames) (defBody sNames) (defScope sNames) .none kV4 dc4 pm4 an4 cd4 ct4), sl4⟩) (c4 : PySem.W.codeIn K cd4 "_law_names" = true) (k4 : PySem.W.keepIn K (.ref f4) = true)
    (a5 : PySem.W.nsIn K mainGlobals "_law_shuffled" = some (some (.ref f5))) (l5 : K.lookup f5 = some ⟨oc5, od5, .func (PySem.W.fnOf "_law_shuffled" "_law_shuffled" (defArgs sShuf) (defBody sShuf) (defScope sShuf) .none kV5 dc5 pm5 an5 cd5 ct5), sl5⟩) (c5 : PySem.W.codeIn K cd5 "_law_shuffled" = true) (k5 : PySem.W.keepIn K (.ref f5) = true)
    (a6 : PySem.W.nsIn K mainGlobals "_law_changed" = some (some (.ref f6))) (l6 : K.lookup f6 = some ⟨oc6, od6, .func (PySem.W.fnOf "_law_changed" "_law_changed" (defArgs sChg) (defBody sChg) (defScope sChg) .none kV6 dc6 pm6 an6 cd6 ct6), sl6⟩) (c6 : PySem.W.codeIn K cd6 "_law_changed" = true) (k6 : PySem.W.keepIn K (.ref f6) = true)
    (a7 : PySem.W.nsIn K mainGlobals "_law_history" = some (some (.ref f7))) (l7 : K.lookup f7 = some ⟨oc7, od7, .func (PySem.W.fnOf "_law_history" "_law_history" (defArgs sHist) (defBody sHist) (defScope sHist) .none kV7 dc7 pm7 an7 cd7 ct7), sl7⟩) (c7 : PySem.W.codeIn K cd7 "_law_history" = true) (k7 : PySem.W.keepIn K (.ref f7) = true)
    (a8 : PySem.W.nsIn K mainGlobals "_law_bent" = some (some (.ref f8))) (l8 : K.lookup f8 = some ⟨oc8, od8, .func (PySem.W.fnOf "_law_bent" "_law_bent" (defArgs sBent) (defBody sBent) (defScope sBent) .none kV8 dc8 pm8 an8 cd8 ct8), sl8⟩) (c8 : PySem.W.codeIn K cd8 "_law_bent" = true) (k8 : PySem.W.keepIn K (.ref f8) = true)
    (a9 : PySem.W.nsIn K mainGlobals "_law_is_row" = some (some (.ref f9))) (l9 : K.lookup f9 = some ⟨oc9, od9, .func (PySem.W.fnOf "_law_is_row" "_law_is_row" (defArgs sLRow) (defBody sLRow) (defScope sLRow) .none kV9 dc9 pm9 an9 cd9 ct9), sl9⟩) (c9 : PySem.W.codeIn K cd9 "_law_is_row" = true) (k9 : PySem.W.keepIn K (.ref f9) = true)
    (a10 : PySem.W.nsIn K mainGlobals "_law_is_version" = some (some (.ref f10))) (l10 : K.lookup f10 = some ⟨oc10, od10, .func (PySem.W.fnOf "_law_is_version" "_law_is_version" (defArgs sLVer) (defBody sLVer) (defScope sLVer) .none kV10 dc10 pm10 an10 cd10 ct10), sl10⟩) (c10 : PySem.W.codeIn K cd10 "_law_is_version" = true) (k10 : PySem.W.keepIn K (.ref f10) = true)
    (a11 : PySem.W.nsIn K mainGlobals "_law_flat" = some (some (.ref f11))) (l11 : K.lookup f11 = some ⟨oc11, od11, .func (PySem.W.fnOf "_law_flat" "_law_flat" (defArgs sFlat) (defBody sFlat) (defScope sFlat) .none kV11 dc11 pm11 an11 cd11 ct11), sl11⟩) (c11 : PySem.W.codeIn K cd11 "_law_flat" = true) (k11 : PySem.W.keepIn K (.ref f11) = true)
    (a12 : PySem.W.nsIn K mainGlobals "_law_is_history" = some (some (.ref f12))) (l12 : K.lookup f12 = some ⟨oc12, od12, .func (PySem.W.fnOf "_law_is_history" "_law_is_history" (defArgs sLH) (defBody sLH) (defScope sLH) .none kV12 dc12 pm12 an12 cd12 ct12), sl12⟩) (c12 : PySem.W.codeIn K cd12 "_law_is_history" = true) (k12 : PySem.W.keepIn K (.ref f12) = true)
    (a13 : PySem.W.nsIn K mainGlobals "_law_is_set" = some (some (.ref f13))) (l13 : K.lookup f13 = some ⟨oc13, od13, .func (PySem.W.fnOf "_law_is_set" "_law_is_set" (defArgs sLSet) (defBody sLSet) (defScope sLSet) .none kV13 dc13 pm13 an13 cd13 ct13), sl13⟩) (c13 : PySem.W.codeIn K cd13 "_law_is_set" = true) (k13 : PySem.W.keepIn K (.ref f13) = true)
    (a14 : PySem.W.nsIn K mainGlobals "_law_right" = some (some (.ref f14))) (l14 : K.lookup f14 = some ⟨oc14, od14, .func (PySem.W.fnOf "_law_right" "_law_right" (defArgs sRight) (defBody sRight) (defScope sRight) .none kV14 dc14 pm14 an14 cd14 ct14), sl14⟩) (c14 : PySem.W.codeIn K cd14 "_law_right" = true) (k14 : PySem.W.keepIn K (.ref f14) = true)
    (a15 : PySem.W.nsIn K mainGlobals "is_row" = some (some (.ref f15))) (l15 : K.lookup f15 = some ⟨oc15, od15, .func (PySem.W.fnOf "is_row" "is_row" (defArgs sIsRow) (defBody sIsRow) (defScope sIsRow) .none kV15 dc15 pm15 an15 cd15 ct15), sl15⟩) (c15 : PySem.W.codeIn K cd15 "is_row" = true) (k15 : PySem.W.keepIn K (.ref f15) = true)
    (a16 : PySem.W.nsIn K mainGlobals "is_version" = some (some (.ref f16))) (l16 : K.lookup f16 = some ⟨oc16, od16, .func (PySem.W.fnOf "is_version" "is_version" (defArgs sVer) (defBody sVer) (defScope sVer) .none kV16 dc16 pm16 an16 cd16 ct16), sl16⟩) (c16 : PySem.W.codeIn K cd16 "is_version" = true) (k16 : PySem.W.keepIn K (.ref f16) = true)
    (a17 : PySem.W.nsIn K mainGlobals "is_history" = some (some (.ref f17))) (l17 : K.lookup f17 = some ⟨oc17, od17, .func (PySem.W.fnOf "is_history" "is_history" (defArgs sIsH) (defBody sIsH) (defScope sIsH) .none kV17 dc17 pm17 an17 cd17 ct17), sl17⟩) (c17 : PySem.W.codeIn K cd17 "is_history" = true) (k17 : PySem.W.keepIn K (.ref f17) = true)
    (a18 : PySem.W.nsIn K mainGlobals "some_row_returns" = some (some (.ref f18))) (l18 : K.lookup f18 = some ⟨oc18, od18, .func (PySem.W.fnOf "some_row_returns" "some_row_returns" (defArgs sRet) (defBody sRet) (defScope sRet) .none kV18 dc18 pm18 an18 cd18 ct18), sl18⟩) (c18 : PySem.W.codeIn K cd18 "some_row_returns" = true) (k18 : PySem.W.keepIn K (.ref f18) = true)
    (a19 : PySem.W.nsIn K mainGlobals "has_left" = some (some (.ref f19))) (l19 : K.lookup f19 = some ⟨oc19, od19, .func (PySem.W.fnOf "has_left" "has_left" (defArgs sLeft) (defBody sLeft) (defScope sLeft) .none kV19 dc19 pm19 an19 cd19 ct19), sl19⟩) (c19 : PySem.W.codeIn K cd19 "has_left" = true) (k19 : PySem.W.keepIn K (.ref f19) = true)
    (a20 : PySem.W.nsIn K mainGlobals "live_rows" = some (some (.ref f20))) (l20 : K.lookup f20 = some ⟨oc20, od20, .func (PySem.W.fnOf "live_rows" "live_rows" (defArgs sLive) (defBody sLive) (defScope sLive) .none kV20 dc20 pm20 an20 cd20 ct20), sl20⟩) (c20 : PySem.W.codeIn K cd20 "live_rows" = true) (k20 : PySem.W.keepIn K (.ref f20) = true)
    (a21 : PySem.W.nsIn K mainGlobals "is_row_set" = some (some (.ref f21))) (l21 : K.lookup f21 = some ⟨oc21, od21, .func (PySem.W.fnOf "is_row_set" "is_row_set" (defArgs sRSet) (defBody sRSet) (defScope sRSet) .none kV21 dc21 pm21 an21 cd21 ct21), sl21⟩) (c21 : PySem.W.codeIn K cd21 "is_row_set" = true) (k21 : PySem.W.keepIn K (.ref f21) = true)
    (a22 : PySem.W.nsIn K mainGlobals "live_rows_among" = some (some (.ref f22))) (l22 : K.lookup f22 = some ⟨oc22, od22, .func (PySem.W.fnOf "live_rows_among" "live_rows_among" (defArgs sAmong) (defBody sAmong) (defScope sAmong) .none kV22 dc22 pm22 an22 cd22 ct22), sl22⟩) (c22 : PySem.W.codeIn K cd22 "live_rows_among" = true) (k22 : PySem.W.keepIn K (.ref f22) = true)
    (a23 : PySem.W.nsIn K mainGlobals "law" = some (some (.ref f23))) (l23 : K.lookup f23 = some ⟨oc23, od23, .func (PySem.W.fnOf "law" "law" (defArgs sLaw) (defBody sLaw) (defScope sLaw) .none kV23 dc23 pm23 an23 cd23 ct23), sl23⟩) (c23 : PySem.W.codeIn K cd23 "law" = true) (k23 : PySem.W.keepIn K (.ref f23) = true)
    {tk1 tk2 tk3 : Tok} (u1 : PySem.W.nsIn K mainGlobals "MOST_LETTERS" = some (some (.int 8 tk1))) (u2 : PySem.W.nsIn K mainGlobals "MOST_ROWS" = some (some (.int 24 tk2))) (u3 : PySem.W.nsIn K mainGlobals "MOST_VERSIONS" = some (some (.int 40 tk3)))
    (z1 : PySem.W.nsIn K mainGlobals "len" = some none) (z2 : PySem.W.nsIn K mainGlobals "abs" = some none) (z3 : PySem.W.nsIn K mainGlobals "int" = some none) (z4 : PySem.W.nsIn K mainGlobals "range" = some none) (z5 : PySem.W.nsIn K mainGlobals "list" = some none) (z6 : PySem.W.nsIn K mainGlobals "tuple" = some none) (z7 : PySem.W.nsIn K mainGlobals "repr" = some none) (z8 : PySem.W.nsIn K mainGlobals "max" = some none) (z9 : PySem.W.nsIn K mainGlobals "min" = some none) (z10 : PySem.W.nsIn K mainGlobals "sorted" = some none) (z11 : PySem.W.nsIn K mainGlobals "isinstance" = some none) (z12 : PySem.W.nsIn K mainGlobals "str" = some none) (z13 : PySem.W.nsIn K mainGlobals "all" = some none) (z14 : PySem.W.nsIn K mainGlobals "any" = some none) (z15 : PySem.W.nsIn K mainGlobals "dict" = some none) (z16 : PySem.W.nsIn K mainGlobals "enumerate" = some none) (z17 : PySem.W.nsIn K mainGlobals "set" = some none) :
    ∃ fd : FuncData, (∀ (s : Shared) (v : Value), BindsTo s fd ⟨[v], []⟩ [("_law_script", v)]) ∧ ∀ base : Heap, K.In base → base.Ns mainGlobals mg → FnG l.prog w K mg base 10 fa fd ["_law_script"] (spLaw K) := by
  have e := hfa.symm.trans (PySem.W.mg_of X G a23)
  cases e
  have F1 := fun_mk (st := sHand) l1 c1 k1
  have b1 := F1.binds (ps := ["_law_script", "_law_k"]) fun _ _ _ _ _ _ us hl => match us, hl with | [_, _], _ => rfl
  have F2 := fun_mk (st := sTake) l2 c2 k2
  have b2 := F2.binds (ps := ["_law_hand_here", "_law_many"]) fun _ _ _ _ _ _ us hl => match us, hl with | [_, _], _ => rfl
  have F3 := fun_mk (st := sPick) l3 c3 k3
  have b3 := F3.binds (ps := ["_law_hand_here", "_law_items"]) fun _ _ _ _ _ _ us hl => match us, hl with | [_, _], _ => rfl
  have F4 := fun_mk (st := sNames) l4 c4 k4
  have b4 := F4.binds (ps := ["_law_hand_here", "_law_count"]) fun _ _ _ _ _ _ us hl => match us, hl with | [_, _], _ => rfl
  have F5 := fun_mk (st := sShuf) l5 c5 k5
  have b5 := F5.binds (ps := ["_law_hand_here", "_law_items"]) fun _ _ _ _ _ _ us hl => match us, hl with | [_, _], _ => rfl
  have F6 := fun_mk (st := sChg) l6 c6 k6
  have b6 := F6.binds (ps := ["_law_hand_here", "_law_version", "_law_fresh"]) fun _ _ _ _ _ _ us hl => match us, hl with | [_, _, _], _ => rfl
  have F7 := fun_mk (st := sHist) l7 c7 k7
  have b7 := F7.binds (ps := ["_law_hand_here", "_law_most_rows", "_law_most_versions"]) fun _ _ _ _ _ _ us hl => match us, hl with | [_, _, _], _ => rfl
  have F8 := fun_mk (st := sBent) l8 c8 k8
  have b8 := F8.binds (ps := ["_law_hand_here", "_law_item"]) fun _ _ _ _ _ _ us hl => match us, hl with | [_, _], _ => rfl
  have F9 := fun_mk (st := sLRow) l9 c9 k9
  have b9 := F9.binds (ps := ["_law_item"]) fun _ _ _ _ _ _ us hl => match us, hl with | [_], _ => rfl
  have F10 := fun_mk (st := sLVer) l10 c10 k10
  have b10 := F10.binds (ps := ["_law_item"]) fun _ _ _ _ _ _ us hl => match us, hl with | [_], _ => rfl
  have F11 := fun_mk (st := sFlat) l11 c11 k11
  have b11 := F11.binds (ps := ["_law_some"]) fun _ _ _ _ _ _ us hl => match us, hl with | [_], _ => rfl
  have F12 := fun_mk (st := sLH) l12 c12 k12
  have b12 := F12.binds (ps := ["_law_item"]) fun _ _ _ _ _ _ us hl => match us, hl with | [_], _ => rfl
  have F13 := fun_mk (st := sLSet) l13 c13 k13
  have b13 := F13.binds (ps := ["_law_history_here", "_law_item"]) fun _ _ _ _ _ _ us hl => match us, hl with | [_, _], _ => rfl
  have F14 := fun_mk (st := sRight) l14 c14 k14
  have b14 := F14.binds (ps := ["_law_hand_here", "_law_history_here"]) fun _ _ _ _ _ _ us hl => match us, hl with | [_, _], _ => rfl
  have F15 := fun_mk (st := sIsRow) l15 c15 k15
  have b15 := F15.binds (ps := ["value"]) fun _ _ _ _ _ _ us hl => match us, hl with | [_], _ => rfl
  have F16 := fun_mk (st := sVer) l16 c16 k16
  have b16 := F16.binds (ps := ["value"]) fun _ _ _ _ _ _ us hl => match us, hl with | [_], _ => rfl
  have F17 := fun_mk (st := sIsH) l17 c17 k17
  have b17 := F17.binds (ps := ["value"]) fun _ _ _ _ _ _ us hl => match us, hl with | [_], _ => rfl
  have F18 := fun_mk (st := sRet) l18 c18 k18
  have b18 := F18.binds (ps := ["versions"]) fun _ _ _ _ _ _ us hl => match us, hl with | [_], _ => rfl
  have F19 := fun_mk (st := sLeft) l19 c19 k19
  have b19 := F19.binds (ps := ["versions", "row"]) fun _ _ _ _ _ _ us hl => match us, hl with | [_, _], _ => rfl
  have F20 := fun_mk (st := sLive) l20 c20 k20
  have b20 := F20.binds (ps := ["history"]) fun _ _ _ _ _ _ us hl => match us, hl with | [_], _ => rfl
  have F21 := fun_mk (st := sRSet) l21 c21 k21
  have b21 := F21.binds (ps := ["history", "value"]) fun _ _ _ _ _ _ us hl => match us, hl with | [_, _], _ => rfl
  have F22 := fun_mk (st := sAmong) l22 c22 k22
  have b22 := F22.binds (ps := ["history", "rows"]) fun _ _ _ _ _ _ us hl => match us, hl with | [_, _], _ => rfl
  have F23 := fun_mk (st := sLaw) l23 c23 k23
  exact ⟨PySem.W.fnOf "law" "law" (defArgs sLaw) (defBody sLaw) (defScope sLaw) .none kV23 dc23 pm23 an23 cd23 ct23, fun s v => .of_eq rfl, fun base _ _ => ok_law F23 ⟨F1, b1, PySem.W.mg_of X G a1, F2, b2, PySem.W.mg_of X G a2, F3, b3, PySem.W.mg_of X G a3, F4, b4, PySem.W.mg_of X G a4, F5, b5, PySem.W.mg_of X G a5, F6, b6, PySem.W.mg_of X G a6, F7, b7, PySem.W.mg_of X G a7, F8, b8, PySem.W.mg_of X G a8, F9, b9, PySem.W.mg_of X G a9, F10, b10, PySem.W.mg_of X G a10, F11, b11, PySem.W.mg_of X G a11, F12, b12, PySem.W.mg_of X G a12, F13, b13, PySem.W.mg_of X G a13, F14, b14, PySem.W.mg_of X G a14, F15, b15, PySem.W.mg_of X G a15, F16, b16, PySem.W.mg_of X G a16, F17, b17, PySem.W.mg_of X G a17, F18, b18, PySem.W.mg_of X G a18, F19, b19, PySem.W.mg_of X G a19, F20, b20, PySem.W.mg_of X G a20, F21, b21, PySem.W.mg_of X G a21, F22, b22, PySem.W.mg_of X G a22, PySem.W.mg_none_of X G z1, PySem.W.mg_none_of X G z2, PySem.W.mg_none_of X G z3, PySem.W.mg_none_of X G z4, PySem.W.mg_none_of X G z5, PySem.W.mg_none_of X G z6, PySem.W.mg_none_of X G z7, PySem.W.mg_none_of X G z8, PySem.W.mg_none_of X G z9, PySem.W.mg_none_of X G z10, PySem.W.mg_none_of X G z11, PySem.W.mg_none_of X G z12, PySem.W.mg_none_of X G z13, PySem.W.mg_none_of X G z14, PySem.W.mg_none_of X G z15, PySem.W.mg_none_of X G z16, PySem.W.mg_none_of X G z17, ⟨_, PySem.W.mg_of X G u1⟩, ⟨_, PySem.W.mg_of X G u2⟩, ⟨_, PySem.W.mg_of X G u3⟩⟩⟩
end M
open PySem PySem.W PyProof.Rows
set_option maxHeartbeats 0 in
theorem PySem.Challenge.cw_movingpages_k02_histories_of_any_value_holds : PySem.Challenge.rw_movingpages_k02_histories_of_any_value.Holds := by
  w_on; o_law; k_head; (case hw => w_witness2)
  k_fill
  refine Gd.walkG (l := PySem.Challenge.rw_movingpages_k02_histories_of_any_value) (n := 63) (k := 10) (x := "_law_script") (sp := M.spLaw) rfl (by decide) rfl ⟨rfl, by decide, by decide⟩ (fun w h Y => PySem.W.kIn_of Y) ?F (fun _ _ a ns hl _ hS => ⟨a, ns, rfl, hS, hl, fun _ => rfl⟩)
  case F =>
    intro w mg fa h KX G hmg
    refine' M.all_mk KX G hmg ?a1 ?l1 ?c1 ?k1 ?a2 ?l2 ?c2 ?k2 ?a3 ?l3 ?c3 ?k3 ?a4 ?l4 ?c4 ?k4 ?a5 ?l5 ?c5 ?k5 ?a6 ?l6 ?c6 ?k6 ?a7 ?l7 ?c7 ?k7 ?a8 ?l8 ?c8 ?k8 ?a9 ?l9 ?c9 ?k9 ?a10 ?l10 ?c10 ?k10 ?a11 ?l11 ?c11 ?k11 ?a12 ?l12 ?c12 ?k12 ?a13 ?l13 ?c13 ?k13 ?a14 ?l14 ?c14 ?k14 ?a15 ?l15 ?c15 ?k15 ?a16 ?l16 ?c16 ?k16 ?a17 ?l17 ?c17 ?k17 ?a18 ?l18 ?c18 ?k18 ?a19 ?l19 ?c19 ?k19 ?a20 ?l20 ?c20 ?k20 ?a21 ?l21 ?c21 ?k21 ?a22 ?l22 ?c22 ?k22 ?a23 ?l23 ?c23 ?k23 ?u1 ?u2 ?u3 ?z1 ?z2 ?z3 ?z4 ?z5 ?z6 ?z7 ?z8 ?z9 ?z10 ?z11 ?z12 ?z13 ?z14 ?z15 ?z16 ?z17
    (case a1 => k_is)
    (case l1 => k_is)
    (case c1 => k_is)
    (case k1 => k_is)
    (case a2 => k_is)
    (case l2 => k_is)
    (case c2 => k_is)
    (case k2 => k_is)
    (case a3 => k_is)
    (case l3 => k_is)
    (case c3 => k_is)
    (case k3 => k_is)
    (case a4 => k_is)
    (case l4 => k_is)
    (case c4 => k_is)
    (case k4 => k_is)
    (case a5 => k_is)
    (case l5 => k_is)
    (case c5 => k_is)
    (case k5 => k_is)
    (case a6 => k_is)
    (case l6 => k_is)
    (case c6 => k_is)
    (case k6 => k_is)
    (case a7 => k_is)
    (case l7 => k_is)
    (case c7 => k_is)
    (case k7 => k_is)
    (case a8 => k_is)
    (case l8 => k_is)
    (case c8 => k_is)
    (case k8 => k_is)
    (case a9 => k_is)
    (case l9 => k_is)
    (case c9 => k_is)
    (case k9 => k_is)
    (case a10 => k_is)
    (case l10 => k_is)
    (case c10 => k_is)
    (case k10 => k_is)
    (case a11 => k_is)
    (case l11 => k_is)
    (case c11 => k_is)
    (case k11 => k_is)
    (case a12 => k_is)
    (case l12 => k_is)
    (case c12 => k_is)
    (case k12 => k_is)
    (case a13 => k_is)
    (case l13 => k_is)
    (case c13 => k_is)
    (case k13 => k_is)
    (case a14 => k_is)
    (case l14 => k_is)
    (case c14 => k_is)
    (case k14 => k_is)
    (case a15 => k_is)
    (case l15 => k_is)
    (case c15 => k_is)
    (case k15 => k_is)
    (case a16 => k_is)
    (case l16 => k_is)
    (case c16 => k_is)
    (case k16 => k_is)
    (case a17 => k_is)
    (case l17 => k_is)
    (case c17 => k_is)
    (case k17 => k_is)
    (case a18 => k_is)
    (case l18 => k_is)
    (case c18 => k_is)
    (case k18 => k_is)
    (case a19 => k_is)
    (case l19 => k_is)
    (case c19 => k_is)
    (case k19 => k_is)
    (case a20 => k_is)
    (case l20 => k_is)
    (case c20 => k_is)
    (case k20 => k_is)
    (case a21 => k_is)
    (case l21 => k_is)
    (case c21 => k_is)
    (case k21 => k_is)
    (case a22 => k_is)
    (case l22 => k_is)
    (case c22 => k_is)
    (case k22 => k_is)
    (case a23 => k_is)
    (case l23 => k_is)
    (case c23 => k_is)
    (case k23 => k_is)
    (case u1 => k_is)
    (case u2 => k_is)
    (case u3 => k_is)
    (case z1 => k_is)
    (case z2 => k_is)
    (case z3 => k_is)
    (case z4 => k_is)
    (case z5 => k_is)
    (case z6 => k_is)
    (case z7 => k_is)
    (case z8 => k_is)
    (case z9 => k_is)
    (case z10 => k_is)
    (case z11 => k_is)
    (case z12 => k_is)
    (case z13 => k_is)
    (case z14 => k_is)
    (case z15 => k_is)
    (case z16 => k_is)
    (case z17 => k_is)
