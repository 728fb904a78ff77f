import PyProof.Rows.All
import Wide.All
import OpenK.AllK
import Wide.FinOn
import HandS.Base
import HandS.Call
import HandS.List
import HandS.Comp
import HandS.Ends
import HandS.Words
import PyProof.ReprRoads
import PyProof.ReprReads
import HandS.Wide
import HandS.Text
import HandS.Iter
import PyProof.StrBlock2
import KE.KxText
import HandS.TupAny
import PyProof.ReprLen
import HandS.Style
import HandS.More
import HandS.SortInts
import PyProof.Rows.StrMeet
import HandS.Dict
import HandS.WordsDict
import PySem.Challenge.RW_movingpages_k08_schedules_run
set_option Elab.async false
set_option linter.all false
set_option maxRecDepth 100000
set_option maxHeartbeats 4000000
/-! Promises of defs that are called while no repr is under way: then repr of data is its text. -/
namespace Gd
open PySem PySem.Spec PyProof.Rows L2
structure FnG (P : Program) (w : World) (K : PySem.W.Frag) (mg : Str → Option Value) (base : Heap) (k : Nat) (f : Addr) (fd : FuncData) (ps : List Str) (sp : Sp) : Prop where
  len : ∀ vs H Q E, sp vs H Q E → vs.length = ps.length
  go : ∀ {A : Around} {outer : List Env} {s : Shared} {H : Hp} {args : Args} {us : List Value} {vs : List V} {Q : VK} {E : XK}, A.guards = some [] → Room k A →
    Env0 P w K mg base A outer s H → BindsTo s fd args (ps.zip us) → Vals vs us → sp vs H Q E → codeAny (model P w) A (.call (.ref f) args) (CR CX0 outer P w H s Q E) s
section
variable {P : Program} {w : World} {K : PySem.W.Frag} {mg : Str → Option Value} {base : Heap} {k : Nat} {f : Addr} {fd : FuncData} {ps : List Str} {sp : Sp}
theorem FnG.up {j : Nat} (G : FnG P w K mg base j f fd ps sp) (h : j ≤ k) : FnG P w K mg base k f fd ps sp :=
  ⟨G.len, fun g r e b v q => G.go g (r.mono h) e b v q⟩
/-- a def's body, walked while no repr is under way -/
theorem okG {x qual : Str} {st : Stmt} {N : List Str} (F : Fun K x qual st f fd) (S : FnScope N ps (defScope st)) (len : ∀ vs H Q E, sp vs H Q E → vs.length = ps.length)
    (B : ∀ (cdv : Value) (A : Around) (outer : List Env) (s : Shared) (H : Hp) (vs : List V) (Q : VK) (E : XK), A.guards = some [] → Room k (A.deeper (envOfC qual (defScope st) s.heap.objs.size f cdv)) → sp vs H Q E →
      ∃ t, PSs (cxOf CX0 P w K mg base N qual (defScope st) f cdv A outer s H E).nox (defBody st) t ∧ t { nx := fun _ H' => Q .non H', rt := Q } (start N vs) H) : FnG P w K mg base (k + 1) f fd ps sp := by
  obtain ⟨oc, od, kV, doc, pm, an, cdv, ct, osl, rfl, lk, hcd⟩ := F.ex
  refine ⟨len, fun {A outer s H args us vs Q E} g room env0 bt rel want => ?_⟩
  have kin : K.In s.heap := env0.mod.kin.keeps fun b o q => (env0.bs b o q).1
  have nol : s.heap.NoLimit := env0.mod.nolimit.keeps fun b o q => (env0.bs b o q).1
  refine codeAny_call_function room.depth (kin _ _ lk) rfl S.co S.gen rfl (PySem.W.codeRec_of kin hcd) (bt _ _ _ _ ?_)
  refine wpAny_newFunctionEnv_cells S.kind ?_ fun env ee s1 inn => ?_
  · rintro ⟨n, v⟩ hy
    refine (S.par n (List.of_mem_zip hy).1).elim Or.inl fun q => Or.inr ⟨q, ?_⟩
    exact PySem.W.cellsFrom_some _ _ _ (Or.inl q)
  subst ee
  refine ⟨nol.keeps inn.toInCall.keep, codeAny_func ?_⟩
  obtain ⟨t, ht, hq⟩ := B cdv A outer s H vs Q E g (room.deeper _) want
  have I0 := inv_start (CX := CX0) (E := E) S room.hd env0 (len _ _ _ _ want) rel inn
  refine wpAny_mono (ht.nox.run [] s1 (start N vs) H _ I0 hq) (fun fl s' z => ?_) fun _ _ z => z
  cases fl with
  | ret u =>
    obtain ⟨v, σ', H', J, rv, q⟩ := z
    exact ⟨v, H', J.os, J.bare, J.base, J.hok, rv, q⟩
  | next =>
    obtain ⟨σ', H', J, q⟩ := z
    exact ⟨V.non, H', J.os, J.bare, J.base, J.hok, rfl, q⟩
  | brk => exact z.elim fun _ z => z.elim fun _ z => z.2.elim
  | cont => exact z.elim fun _ z => z.elim fun _ z => z.2.elim
end
section
variable {X : Cx} {k : Nat} {f : Addr} {fd : FuncData} {ps : List Str} {sp : Sp} {x : Str} {p pos : Pos} {e : Expr} {es : List Expr} {t : TA}
/-- f(e, ..) of such a def -/
theorem pe_callG (F : FnG X.prog X.w X.K X.mg X.base k f fd ps sp) (g : X.A.guards = some []) (room : Room k X.A) (hg : Gl X x) (hm : X.mg x = some (.ref f)) (hk : PySem.W.keepIn X.K (.ref f) = true) (hb : Binds X.K fd ps [])
    (ha : PA X (e :: es) t) (hdb : (x == ("__debug__" : Str)) = false := by decide) (he : starEach (e :: es) X.env = (false, eval e X.env) :: starEach es X.env := by rfl) (hpl : (backTo pos (starEach es X.env)).any (·.1) = false := by rfl) :
    PE X (.Call (.Name x p) (e :: es) [] pos) (tCall sp [] E0 t) := ⟨fun pins s σ H Q I h => by
  refine wpAny_Call_Name_kw (ld_glob I hg hm ?_ hdb)
  refine PySem.W.callWith_K (h₀ := X.base) I.ok.mod.kin hk (thn (ha.run pos pins s σ H _ I h) ?_) he hpl
  rintro us s1 ⟨vs, H1, I1, r, q⟩
  refine ⟨I1.kIn, ?_⟩
  have r0 : Vals (vs ++ []) (us ++ []) := r.append .nil
  have z := F.len _ _ _ _ q
  rw [r0.length] at z
  refine wpAny_call (codeAny_mono (F.go g room I1.env0 (hb s1 us I1.kIn z) r0 q) fun res s' hq => ?_)
  cases res with
  | error _ => exact False.elim hq
  | ok fl =>
    cases fl with
    | ret u => exact I1.after hq
    | next => exact False.elim hq
    | brk => exact False.elim hq
    | cont => exact False.elim hq⟩
end
/-- repr(x) of data without dicts -/
def rShow (K : PySem.W.Frag) : List V → Hp → VK → Prop := fun xs H Q => ∃ x d, xs = [x] ∧ Dp K H x d ∧ d.showable = true ∧ d.hasDict = false ∧ d.depth ≤ 60 ∧ d.shown.length ≤ sizeLine ∧ Q (.str d.shown) H
theorem call_show {X : Cx} (g : X.A.guards = some []) (hu : X.A.units + 64 < cLine) : CallR X (.builtin "repr") (rShow X.K) := by
  rintro pins s σ H xs us Q I r ⟨x, d, rfl, hd, hs, hn, hz, hl, q⟩
  obtain ⟨u, rfl, rx⟩ := vals1 r
  obtain ⟨as, rd⟩ := Dp.reads I d x u hd rx
  have keep : ∀ (h' : Heap) (tk : Nat), (∀ b o, s.heap.get? b = some o → h'.get? b = some o) → Inv X pins σ H { s with heap := h', toks := tk } := fun h' tk hk => I.un (Un.kept hk) (I.hok.kept hk)
  cases rd with
  | none => exact PySem.P.repr_of_none ⟨.str _, H, I.tok _, ⟨_, rfl⟩, q⟩
  | bool b => exact PySem.P.repr_of_bool ⟨.str _, H, I.tok _, ⟨_, rfl⟩, q⟩
  | int i t => exact PySem.P.repr_of_int (of_decide_eq_true hs) ⟨.str _, H, I.tok _, ⟨_, rfl⟩, q⟩
  | str x t => exact PySem.P.repr_of_str ⟨.str _, H, I.tok _, ⟨_, rfl⟩, q⟩ hl
  | list h1 h2 h3 h4 => exact repr_of_reads' (.list h1 h2 h3 h4) hs (PyData.noDict_hsm hn) g (by omega) (fun _ _ z => z) (fun h' v tk hk => ⟨.str _, H, keep h' tk hk, ⟨v, rfl⟩, q⟩) hl
  | tuple h1 h2 h3 h4 => exact repr_of_reads' (.tuple h1 h2 h3 h4) hs (PyData.noDict_hsm hn) g (by omega) (fun _ _ z => z) (fun h' v tk hk => ⟨.str _, H, keep h' tk hk, ⟨v, rfl⟩, q⟩) hl
  | dict h1 h2 h3 h4 h5 => cases hn
/-- the goal that k_head leaves, by such a promise of the law -/
theorem law_callG {P : Program} {w : World} {K : PySem.W.Frag} {mg mb : Str → Option Value} {k : Nat} {fa a : Addr} {fd : FuncData} {x : Str} {sp : Sp} {s₁ : Shared} {vs : List Value} {ns : List Int}
    (kin : K.In s₁.heap) (hns : s₁.heap.Ns mainGlobals mg) (hb : s₁.heap.Ns builtinsNs mb) (hbb : ∀ x : Str, x ≠ "__name__" → mb x = bootBuiltins x) (hlim : s₁.heap.NoLimit) (hg : s₁.gens = #[])
    (ha : s₁.heap.get? a = some { cls := .type "list", data := .seq vs.toArray }) (hi : IntsAre vs ns) (hl : ns.length ≤ sizeLine) (room : Room k callerA)
    (F : ∀ base : Heap, K.In base → base.Ns mainGlobals mg → FnG P w K mg base k fa fd [x] sp) (bind : ∀ (s : Shared) (u : Value), BindsTo s fd ⟨[u], []⟩ [(x, u)])
    (want : ∀ H : Hp, Only H → SqL K H a (ns.map V.int) → sp [.ref a] H (fun v _ => v = .bl true) fun _ _ _ => False) :
    codeAny (model P w) callerA (.call (.ref fa) ⟨[.ref a], []⟩) (fun r s' => r = .ok (.ret (.bool true)) ∧ OldK s₁.heap s'.heap ∧ s'.os = s₁.os ∧ AllBare s'.gens) s₁ := by
  have main : ∀ H : Hp, Only H → SqL K H a (ns.map V.int) → HOk P w H s₁.heap → (∀ b u, H b = some u → b = a ∧ K.lookup a = none) →
      codeAny (model P w) callerA (.call (.ref fa) ⟨[.ref a], []⟩) (fun r s' => r = .ok (.ret (.bool true)) ∧ OldK s₁.heap s'.heap ∧ s'.os = s₁.os ∧ AllBare s'.gens) s₁ := by
    intro H hO hS hok hA
    have off : ∀ {b : Addr} {o : Obj} {es : Array DictEntry} {ep : Nat}, s₁.heap.get? b = some o → o.data = .dict es ep → H b = none := by
      intro b o es ep e d
      cases q : H b with
      | none => rfl
      | some u =>
        obtain ⟨rfl, _⟩ := hA b u q
        rw [ha] at e
        cases e
        exact Data.noConfusion d
    have names : ∀ {b : Addr} {m : Str → Option Value}, s₁.heap.Ns b m → (hidT s₁.heap H).Ns b m := by
      rintro b m ⟨o, es, ep, e, d, r⟩
      exact ⟨o, es, ep, hidT_get e (off e d), d, r⟩
    have kin' : K.In (hidT s₁.heap H) := by
      intro b o e
      refine hidT_get (kin b o e) ?_
      cases q : H b with
      | none => rfl
      | some u =>
        obtain ⟨rfl, z⟩ := hA b u q
        rw [z] at e
        cases e
    obtain ⟨mc, l1, l2⟩ := hlim
    have hM : Mod K mg (hidT s₁.heap H) := ⟨kin', names hns, ⟨mb, names hb, hbb⟩, ⟨mc, names l1, l2⟩⟩
    have env0 : Env0 P w K mg (hidT s₁.heap H) callerA [] s₁ H :=
      ⟨rfl, hM, fun b o e => of_hidT e, Nat.le_of_eq (hidT_size _ _), trivial, fun b hb => (nomatch hb), hok, .of_eq hg⟩
    refine codeAny_mono ((F _ kin' (names hns)).go (us := [.ref a]) (vs := [.ref a]) rfl room env0 (bind s₁ (.ref a)) (.cons rfl .nil) (want H hO hS)) fun r s' h => ?_
    cases r with
    | error e => exact h.elim
    | ok fl =>
      cases fl with
      | next => exact False.elim h
      | brk => exact False.elim h
      | cont => exact False.elim h
      | ret u =>
        obtain ⟨v, H', os, bare, un, hok', r', q⟩ := h
        have q' : v = .bl true := q
        subst q'
        obtain rfl : u = Value.bool true := r'
        refine ⟨rfl, OldK.of_keep fun b o e => ?_, os, bare⟩
        rcases hO b with z | ⟨ob, xs, z⟩
        · exact un.keep b o e z (fun y => (nomatch y)) (fun y => (nomatch y))
        · obtain ⟨e1, _⟩ := hok b _ z
          obtain ⟨e2, _⟩ := hok' b _ (un.frzs b ob _ z)
          rw [e] at e1
          cases e1
          exact e2
  have lenV := hi.length
  have rv := vals_ints hi
  cases hk : K.lookup a with
  | some o =>
    have e := kin a o hk
    rw [ha] at e
    cases e
    refine main (fun _ => none) (fun _ => .inl rfl) (.inr ⟨_, vs.toArray, _, hk, rfl, rfl, rfl, ?_, ?_⟩) (fun b u z => (nomatch z)) (fun b u z => (nomatch z))
    · rw [List.size_toArray, lenV]
      exact hl
    · simpa using rv
  | none =>
    have at_a : ∀ (b : Addr) (u : HO), (if b = a then some (HO.frz { cls := .type "list", data := .seq vs.toArray } (.lst (ns.map V.int))) else none) = some u → b = a ∧ u = HO.frz { cls := .type "list", data := .seq vs.toArray } (.lst (ns.map V.int)) := by
      intro b u z
      split at z
      · next e => exact ⟨e, (Option.some.inj z).symm⟩
      · cases z
    refine main (fun b => if b = a then some (.frz { cls := .type "list", data := .seq vs.toArray } (.lst (ns.map V.int))) else none) (fun b => ?_) (.inl (.inr ⟨_, if_pos rfl⟩)) (fun b u z => ?_) (fun b u z => ⟨(at_a b u z).1, hk⟩)
    · by_cases hb : b = a
      · exact .inr ⟨_, _, if_pos hb⟩
      · exact .inl (if_neg hb)
    · obtain ⟨rfl, rfl⟩ := at_a b u z
      exact ⟨ha, by rw [List.length_map]; exact hl, vs, _, rv, ha⟩
theorem walkG {l : PySem.W.OpenLaw} {n k : Nat} {q : Program} {loose : List Str} {XP : (Str → Option Value) → Heap → Prop} {YP : World → Heap → Prop} {d : DefRec} {K : Params → PySem.W.Frag} {sp : PySem.W.Frag → Sp} {x : Str}
    (hn : l.most = some n) (hn2 : n ≤ sizeLine) (hdf : d.params.defaults = []) (room : Room k callerA) (hY : ∀ (w : World) (h : Heap), YP w h → (K w.params).In h)
    (F : ∀ (w : World) (mg : Str → Option Value) (fa : Addr) (h : Heap), (K w.params).In h → h.Ns mainGlobals mg → mg d.name = some (.ref fa) → ∃ fd : FuncData, (∀ (s : Shared) (u : Value), BindsTo s fd ⟨[u], []⟩ [(x, u)]) ∧
        ∀ base : Heap, (K w.params).In base → base.Ns mainGlobals mg → FnG l.prog w (K w.params) mg base k fa fd [x] (sp (K w.params)))
    (want : ∀ (K : PySem.W.Frag) (H : Hp) (a : Addr) (ns : List Int), ns.length ≤ n → Only H → SqL K H a (ns.map V.int) → sp K [.ref a] H (fun v _ => v = .bl true) fun _ _ _ => False) :
    PySem.W.WalkO q loose XP YP l.row.toRowW d [] (fun f vs => PySem.call f vs) :=
  Att.attach_call hn hdf fun w s₀ s₁ mg mb fa o pm cd doc a vs ns G Y ho hd hcd hmg hobj hints hlen hg => by
    obtain ⟨fd, hb, hF⟩ := F w mg fa _ (hY w _ Y) G.T.g hmg
    exact law_callG (hY w _ Y) G.T.g G.T.b G.T.builtins G.T.nolimit hg hobj hints (Nat.le_trans hlen hn2) room hF hb fun H hO hS => want _ H a ns hlen hO hS
end Gd
namespace M
open PySem PySem.Spec PyProof.Rows L2 Gd
def topS (i : Nat) : Stmt := PySem.Challenge.pw_movingpages_k08_schedules_run.main.body.getD i (.Pass ⟨0, 0, 0, 0⟩)
/-- the hand at a: its three ints, at most n draws old -/
def Hd (H : Hp) (a : Addr) (n : Nat) : Prop := ∃ g s t : Int, H a = some (.lst [.int g, .int s, .int t]) ∧ 0 ≤ g ∧ 0 ≤ s ∧ s < 2305843009213693952 ∧ 0 ≤ t ∧ t ≤ n
/-- all but what stands at a is as it was -/
def But (a : Addr) (H H' : Hp) : Prop := ∀ b o, b ≠ a → H b = some o → H' b = some o
theorem But.refl (a : Addr) (H : Hp) : But a H H := fun _ _ _ h => h
theorem But.trans {a : Addr} {H H1 H2 : Hp} (x : But a H H1) (y : But a H1 H2) : But a H H2 := fun b o n h => y b o n (x b o n h)
theorem But.new {a p : Addr} {H H1 : Hp} {o : HO} (x : But a H H1) (h : H1 p = none) : But a H (upd H1 p o) := fun b u n e => by
  have e1 := x b u n e
  rw [upd_ne (ne_of_none e1 h)]
  exact e1
theorem But.put {a : Addr} {H H1 : Hp} {o : HO} (x : But a H H1) : But a H (upd H1 a o) := fun b u n e => by
  rw [upd_ne n]
  exact x b u n e
/-- an object that was new ahead of all may change -/
theorem But.own {a p : Addr} {H H1 : Hp} {o : HO} (x : But a H H1) (h : H p = none) : But a H (upd H1 p o) := fun b u n e => by
  rw [upd_ne (ne_of_none e h)]
  exact x b u n e
theorem Hd.up {H : Hp} {a : Addr} {n m : Nat} (h : Hd H a n) (l : n ≤ m) : Hd H a m := by
  obtain ⟨g, s, t, e, h1, h2, h3, h4, h5⟩ := h
  exact ⟨g, s, t, e, h1, h2, h3, h4, by omega⟩
theorem Hd.some {H : Hp} {a : Addr} {n : Nat} (h : Hd H a n) : ∃ xs, H a = some (.lst xs) := by
  obtain ⟨g, s, t, e, _⟩ := h
  exact ⟨_, e⟩
theorem Hd.new {H : Hp} {a p : Addr} {n : Nat} {o : HO} (h : Hd H a n) (hp : H p = none) : Hd (upd H p o) a n := by
  obtain ⟨g, s, t, e, r⟩ := h
  exact ⟨g, s, t, by rw [upd_ne (ne_of_none e hp)]; exact e, r⟩
theorem Hd.ne {H : Hp} {a p : Addr} {n : Nat} (h : Hd H a n) (hp : H p = none) : p ≠ a := fun z => by
  obtain ⟨g, s, t, e, r⟩ := h
  rw [z, e] at hp
  cases hp
theorem Hd.oth {H : Hp} {a p : Addr} {n : Nat} {o : HO} (h : Hd H a n) (hp : p ≠ a) : Hd (upd H p o) a n := by
  obtain ⟨g, s, t, e, r⟩ := h
  exact ⟨g, s, t, by rw [upd_ne (Ne.symm hp)]; exact e, r⟩
/-! ### take -/
abbrev sTake : Stmt := topS 9
theorem scTake : FnScope ["_law_hand_here", "_law_many", "_law_digit", "_law_prime", "_law_turn", "_law_mixed"] ["_law_hand_here", "_law_many"] (defScope sTake) := ⟨rfl, rfl, rfl, by decide +kernel, rfl, by decide +kernel, by decide +kernel⟩
def spTake : Sp := fun vs H Q _ => ∃ (a : Addr) (n : Nat) (m : Int), vs = [.ref a, .int m] ∧ Hd H a n ∧ n < 1000000 ∧ 0 < m ∧ m < 1073741824 ∧
  ∀ H' (v : Int), But a H H' → Hd H' a (n + 1) → 0 ≤ v → v < m → Q (.int v) H'
section
variable {P : Program} {w : World} {K : PySem.W.Frag} {mg : Str → Option Value} {base : Heap}
theorem prime_at {i : Int} (h0 : 0 ≤ i) (h1 : i < 6) : ∃ p : Int, atI [V.int 2147483647, V.int 2147483629, V.int 2147483587, V.int 2147483579, V.int 2147483563, V.int 2147483549] i = some (V.int p) ∧ 0 < p ∧ p < 2147483648 := by
  obtain ⟨j, rfl⟩ := Int.eq_ofNat_of_zero_le h0
  have hj : j < 6 := by omega
  match j, hj with
  | 0, _ => exact ⟨_, atI_nat (j := 0) rfl, by decide, by decide⟩
  | 1, _ => exact ⟨_, atI_nat (j := 1) rfl, by decide, by decide⟩
  | 2, _ => exact ⟨_, atI_nat (j := 2) rfl, by decide, by decide⟩
  | 3, _ => exact ⟨_, atI_nat (j := 3) rfl, by decide, by decide⟩
  | 4, _ => exact ⟨_, atI_nat (j := 4) rfl, by decide, by decide⟩
  | 5, _ => exact ⟨_, atI_nat (j := 5) rfl, by decide, by decide⟩
theorem sq_bound {t : Int} (h0 : 0 ≤ t) (h1 : t ≤ 1000000) : 0 ≤ 65537 * t * t ∧ 65537 * t * t ≤ 65537000000000000 := by
  have a1 : 0 ≤ 65537 * t := by omega
  have a2 : 65537 * t ≤ 65537000000 := by omega
  have b1 : 0 ≤ 65537 * t * t := Int.mul_nonneg a1 h0
  have b2 : 65537 * t * t ≤ 65537000000 * 1000000 := Int.mul_le_mul a2 h1 h0 (by decide)
  exact ⟨b1, by omega⟩
theorem ok_take {f : Addr} {fd : FuncData} {k : Nat} (F : Fun K "_law_take" "_law_take" sTake f fd) : FnOk P w K mg base CX0 (k + 1) f fd ["_law_hand_here", "_law_many"] spTake := by
  refine F.ok scTake (fun vs H Q E h => ?_) (fun cdv A outer s H vs Q E hr h => ?_)
  · obtain ⟨a, n, m, rfl, _⟩ := h
    rfl
  · obtain ⟨a, n, m, rfl, ⟨g, sd, t, ha, g0, s0, s1, t0, t1⟩, hn, m0, m1, q⟩ := h
    refine ⟨_, pss_cons (ps_if (pt_cmpR op_gt (pe_ix ix_list (pv 0) pe_int (fun _ _ => rfl)) pe_int (nomark _))
        (pss_cons (ps_set (i := 2) scTake.nd rfl (.inl rfl) (pe_op op_mod (pe_ix ix_list (pv 0) pe_int (fun _ _ => rfl)) (pv 1)))
        (pss_cons (ps_asg (pe_op op_fdivN (pe_ix ix_list (pv 0) pe_int (fun _ _ => rfl)) (pv 1)) (pg_sub (pv 0) pe_int set_list))
        (pss_one (ps_ret (pv 2))))) pss_nil)
      (pss_cons (ps_asg (pe_op op_add (pe_ix ix_list (pv 0) pe_int (fun _ _ => rfl)) pe_int) (pg_sub (pv 0) pe_int set_list))
      (pss_cons (ps_set (i := 3) scTake.nd rfl (.inl rfl) (pe_ix ix_list (pe_lst (pa_cons pe_int (pa_cons pe_int (pa_cons pe_int (pa_cons pe_int (pa_cons pe_int (pa_cons pe_int pa_nil)))))))
          (pe_op op_mod (pe_ix ix_list (pv 0) pe_int (fun _ _ => rfl)) pe_int) (fun _ _ => rfl)))
      (pss_cons (ps_set (i := 4) scTake.nd rfl (.inl rfl) (pe_ix ix_list (pv 0) pe_int (fun _ _ => rfl)))
      (pss_cons (ps_set (i := 5) scTake.nd rfl (.inl rfl) (pe_op op_mod (pe_op op_pow (pe_op op_add (pe_op op_add (pe_ix ix_list (pv 0) pe_int (fun _ _ => rfl)) (pe_op op_mul (pe_op op_mul pe_int (pv 4)) (pv 4))) (pe_op op_mul pe_int (pv 4))) pe_int) (pv 3)))
      (pss_one (ps_ret (pe_op op_mod (pe_op op_fdivN (pe_op op_mod (pe_op op_mul (pv 5) (pe_op op_add (pe_op op_mod (pv 5) pe_int) (pe_op op_mul pe_int (pv 4)))) pe_int) pe_int) (pv 1)))))))), ?_⟩
    have hA : SqL K H a [.int g, .int sd, .int t] := .inl (.inl ha)
    -- if hand[0] > 0
    refine ⟨.ref a, rfl, a, _, 0, .int g, rfl, rfl, hA, atI_nat (j := 0) rfl, g, 0, rfl, rfl, _, rfl, ite2 (fun e => ?_) (fun e => ?_)⟩
    · -- digit = hand[0] % many
      refine ⟨.ref a, rfl, a, _, 0, .int g, rfl, rfl, hA, atI_nat (j := 0) rfl, .int m, rfl, g, m, rfl, rfl, m0, ?_⟩
      -- hand[0] = hand[0] // many
      refine ⟨.ref a, rfl, a, _, 0, .int g, rfl, rfl, hA, atI_nat (j := 0) rfl, .int m, rfl, g, m, rfl, rfl, ⟨by omega, by omega⟩, ?_⟩
      refine ⟨.ref a, rfl, a, _, 0, 0, rfl, rfl, ha, rfl, ?_⟩
      refine ⟨.int (g % m), rfl, ?_⟩
      refine q _ _ (But.refl a H).put ⟨g.fdiv m, sd, t, upd_same, ?_, s0, s1, t0, by omega⟩ (Int.emod_nonneg _ (by omega)) (Int.emod_lt_of_pos _ m0)
      rw [Int.fdiv_eq_ediv_of_nonneg g (by omega)]
      exact Int.ediv_nonneg g0 (by omega)
    · -- hand[2] = hand[2] + 1
      refine ⟨.ref a, rfl, a, _, 2, .int t, rfl, rfl, hA, atI_nat (j := 2) rfl, t, 1, rfl, rfl, ?_⟩
      refine ⟨.ref a, rfl, a, _, 2, 2, rfl, rfl, ha, rfl, ?_⟩
      have hB : (upd H a (.lst [.int g, .int sd, .int (t + 1)])) a = some (.lst [.int g, .int sd, .int (t + 1)]) := upd_same
      -- prime
      refine ⟨(by show 6 ≤ sizeLine; decide), fun l hl => ?_⟩
      have nal : a ≠ l := ne_of_none hB hl
      have hC : (upd (upd H a (.lst [.int g, .int sd, .int (t + 1)])) l (.lst [.int 2147483647, .int 2147483629, .int 2147483587, .int 2147483579, .int 2147483563, .int 2147483549])) a = some (.lst [.int g, .int sd, .int (t + 1)]) := by
        rw [upd_ne nal]
        exact hB
      obtain ⟨p, hp, p0, p1⟩ := prime_at (i := (t + 1) % 6) (Int.emod_nonneg _ (by decide)) (Int.emod_lt_of_pos _ (by decide))
      refine ⟨.ref a, rfl, a, _, 2, .int (t + 1), rfl, rfl, .inl (.inl hC), atI_nat (j := 2) rfl, t + 1, 6, rfl, rfl, (by show (0 : Int) < 6; decide), ?_⟩
      refine ⟨l, _, (t + 1) % 6, .int p, rfl, rfl, .inl (.inl upd_same), hp, ?_⟩
      -- turn
      refine ⟨.ref a, rfl, a, _, 2, .int (t + 1), rfl, rfl, .inl (.inl hC), atI_nat (j := 2) rfl, ?_⟩
      -- mixed
      have B := sq_bound (t := t + 1) (by omega) (by omega)
      have hb : (sd + 65537 * (t + 1) * (t + 1) + 31 * (t + 1)).natAbs < 2 ^ 64 := by omega
      refine ⟨.ref a, rfl, a, _, 1, .int sd, rfl, rfl, .inl (.inl hC), atI_nat (j := 1) rfl, .int (t + 1), rfl, 65537, t + 1, rfl, rfl, .inl ⟨by decide, by decide⟩, .int (t + 1), rfl, _, t + 1, rfl, rfl, .inr ⟨by omega, by omega⟩,
        _, _, rfl, rfl, .int (t + 1), rfl, 31, t + 1, rfl, rfl, .inl ⟨by decide, by decide⟩, _, _, rfl, rfl, _, 3, rfl, rfl, ⟨by decide, by decide, hb⟩, .int p, rfl, _, p, rfl, rfl, p0, ?_⟩
      -- the end
      have x0 : 0 ≤ (sd + 65537 * (t + 1) * (t + 1) + 31 * (t + 1)) ^ (3 : Int).toNat % p := Int.emod_nonneg _ (by omega)
      have x1 : (sd + 65537 * (t + 1) * (t + 1) + 31 * (t + 1)) ^ (3 : Int).toNat % p < p := Int.emod_lt_of_pos _ p0
      refine ⟨_, rfl, _, rfl, _, 10007, rfl, rfl, (by show (0 : Int) < 10007; decide), .int (t + 1), rfl, 13, t + 1, rfl, rfl, .inl ⟨by decide, by decide⟩, _, _, rfl, rfl, _, _, rfl, rfl, .inl ⟨by omega, by omega⟩,
        _, 2305843009213693907, rfl, rfl, (by show (0 : Int) < 2305843009213693907; decide), _, 97, rfl, rfl, ⟨by decide, by decide⟩, .int m, rfl, _, m, rfl, rfl, m0, ?_⟩
      refine q _ _ ((But.refl a H).put.new hl) ⟨g, sd, t + 1, hC, g0, s0, s1, by omega, by omega⟩ (Int.emod_nonneg _ (by omega)) (Int.emod_lt_of_pos _ m0)
end
end M
namespace M
open PySem PySem.Spec PyProof.Rows L2 Gd
/-! ### pick -/
abbrev sPick : Stmt := topS 10
theorem scPick : FnScope ["_law_hand_here", "_law_items"] ["_law_hand_here", "_law_items"] (defScope sPick) := ⟨rfl, rfl, rfl, by decide +kernel, rfl, by decide +kernel, by decide +kernel⟩
def spPick : Sp := fun vs H Q _ => ∃ (a : Addr) (n : Nat) (x : V), vs = [.ref a, x] ∧ Hd H a n ∧ n < 1000000 ∧
  ((∃ b xs, x = .ref b ∧ b ≠ a ∧ (H b = some (.lst xs) ∨ H b = some (.tup xs)) ∧ 0 < xs.length ∧ xs.length ≤ 1000 ∧ ∀ H' v, But a H H' → Hd H' a (n + 1) → v ∈ xs → Q v H') ∨
   (∃ z : Str, x = .str z ∧ 0 < z.length ∧ z.length ≤ 1000 ∧ ∀ H' c, But a H H' → Hd H' a (n + 1) → c ∈ z.cps.toList → Q (.str ⟨#[c]⟩) H'))
theorem at_in {α : Type} {xs : List α} {i : Int} (h0 : 0 ≤ i) (h1 : i < (xs.length : Int)) : ∃ v, v ∈ xs ∧ atI xs i = some v := by
  obtain ⟨j, rfl⟩ := Int.eq_ofNat_of_zero_le h0
  have hj : j < xs.length := by omega
  exact ⟨xs[j], List.getElem_mem hj, atI_nat (List.getElem?_eq_getElem hj)⟩
theorem sz1000 {n : Nat} (h : n ≤ 1000) : n ≤ sizeLine := Nat.le_trans h (by decide)
section
variable {P : Program} {w : World} {K : PySem.W.Frag} {mg : Str → Option Value} {base : Heap}
theorem ok_pick {f fT : Addr} {fd fdT : FuncData} {k : Nat} (F : Fun K "_law_pick" "_law_pick" sPick f fd) (FT : Fun K "_law_take" "_law_take" sTake fT fdT) (bT : Binds K fdT ["_law_hand_here", "_law_many"] []) (gT : mg "_law_take" = some (.ref fT)) (ml : mg "len" = none) :
    FnOk P w K mg base CX0 (k + 2) f fd ["_law_hand_here", "_law_items"] spPick := by
  have GT : FnOk P w K mg base CX0 (k + 1) fT fdT ["_law_hand_here", "_law_many"] spTake := ok_take FT
  refine F.ok scPick (fun vs H Q E h => ?_) (fun cdv A outer s H vs Q E hr h => ?_)
  · obtain ⟨a, n, x, rfl, _⟩ := h
    rfl
  · obtain ⟨a, n, x, rfl, hh, hn, h⟩ := h
    refine ⟨_, pss_one (ps_ret (pe_ix ix_seq (pv 1) (pe_call GT hr (by rfl) gT FT.kp bT .nil pass0 (pa_cons (pv 0) (pa_cons (pe_callB call_len (by rfl) ml PySem.boot_len (pa_cons (pv 1) pa_nil)) pa_nil))) (fun _ _ => rfl))), ?_⟩
    rcases h with ⟨b, xs, rfl, nb, hb, l0, l1, q⟩ | ⟨z, rfl, l0, l1, q⟩
    · have hl : LenV K (.ref b) H xs.length := by
        rcases hb with hb | hb
        · exact .inl ⟨xs, SqL.of hb, rfl⟩
        · exact .inr ⟨xs, SqT.of hb, rfl⟩
      refine ⟨.ref b, rfl, .ref a, rfl, .ref b, rfl, _, xs.length, rfl, hl, a, n, xs.length, rfl, hh, hn, by omega, by omega, fun H' v sb hd v0 v1 => ?_⟩
      obtain ⟨y, hy, ey⟩ := at_in (xs := xs) v0 v1
      rcases hb with hb | hb
      · exact .inl ⟨b, xs, v, y, rfl, rfl, SqL.of (sb b _ nb hb), ey, q H' y sb hd hy⟩
      · exact .inr (.inl ⟨b, xs, v, y, rfl, rfl, SqT.of (sb b _ nb hb), ey, q H' y sb hd hy⟩)
    · refine ⟨.str z, rfl, .ref a, rfl, .str z, rfl, _, z.length, rfl, ⟨sz1000 l1, rfl⟩, a, n, z.length, rfl, hh, hn, by omega, by omega, fun H' v sb hd v0 v1 => ?_⟩
      obtain ⟨y, hy, ey⟩ := at_in (xs := z.cps.toList) v0 (by rw [show z.cps.toList.length = z.length from Array.length_toList]; exact v1)
      exact .inr (.inr ⟨z, v, y, rfl, rfl, sz1000 l1, ey, q H' y sb hd hy⟩)
end
/-! ### names -/
theorem op_rep_str {X : Cx} : OpR X (binaryOp .Mult) (fun x y H Q => ∃ z n, x = .str z ∧ y = .int n ∧ MulOk z n ∧ Q (.str (Txt.mul z n)) H) := by
  rintro pins s σ H x y v u Q I rx ry ⟨z, n, rfl, rfl, ok, q⟩
  obtain ⟨t, rfl⟩ := rx
  obtain ⟨t', rfl⟩ := ry
  exact SB.mul ok fun _ k => ⟨.str _, H, I.tok _, ⟨_, rfl⟩, q⟩
/-- a row -/
def RowS (z : Str) : Prop := 1 ≤ z.length ∧ z.length ≤ 8 ∧ ∀ c ∈ z.cps.toList, 97 ≤ c ∧ c ≤ 122
abbrev abc : Str := "abcdefghijklmnopqrstuvwxyz"
theorem abc_len : abc.length = 26 := by decide +kernel
theorem abc_at : ∀ j : Nat, j < 26 → abc.cps.toList[j]? = some (97 + j) := by decide +kernel
theorem abc_mem : ∀ c ∈ abc.cps.toList, 97 ≤ c ∧ c ≤ 122 := by decide +kernel
def nmS (z : Str) (k : Nat) (c : Nat) : Str := cutS z none (some (k : Int)) ++ ⟨#[c]⟩ ++ cutS z (some (k : Int)) none
theorem len_cps (z : Str) : z.cps.toList.length = z.length := Array.length_toList
theorem nmS_list {z : Str} {k c : Nat} (hk : k ≤ z.length) : (nmS z k c).cps.toList = z.cps.toList.take k ++ c :: z.cps.toList.drop k := by
  unfold nmS cutS
  rw [PySem.W.KT.app_list, PySem.W.KT.app_list, HT.sIx_none, HT.sIx_none, HT.sIx_nat, HT.sIx_nat, Nat.min_eq_left hk]
  show (List.take (k - 0) (List.drop 0 z.cps.toList)) ++ [c] ++ List.take (z.length - k) (List.drop k z.cps.toList) = _
  rw [List.drop_zero, Nat.sub_zero, List.append_assoc]
  have e : List.take (z.length - k) (List.drop k z.cps.toList) = List.drop k z.cps.toList := List.take_of_length_le (by rw [List.length_drop, len_cps]; omega)
  rw [e]
  rfl
theorem nmS_len {z : Str} {k c : Nat} (hk : k ≤ z.length) : (nmS z k c).length = z.length + 1 := by
  rw [← len_cps, nmS_list hk, List.length_append, List.length_cons, List.length_take, List.length_drop, len_cps]
  omega
theorem nmS_inj {z : Str} {k c d : Nat} (hk : k ≤ z.length) (h : nmS z k c = nmS z k d) : c = d := by
  have e := congrArg (fun s : Str => s.cps.toList) h
  simp only [nmS_list hk] at e
  have e2 := List.append_cancel_left e
  exact (List.cons.inj e2).1
theorem nmS_row {z : Str} {k c : Nat} (hk : k ≤ z.length) (hz : z.length ≤ 7) (ha : ∀ x ∈ z.cps.toList, 97 ≤ x ∧ x ≤ 122) (hc : 97 ≤ c ∧ c ≤ 122) : RowS (nmS z k c) := by
  refine ⟨by rw [nmS_len hk]; omega, by rw [nmS_len hk]; omega, fun x hx => ?_⟩
  rw [nmS_list hk] at hx
  rcases List.mem_append.mp hx with hx | hx
  · exact ha x (List.mem_of_mem_take hx)
  · rcases List.mem_cons.mp hx with hx | hx
    · rw [hx]; exact hc
    · exact ha x (List.mem_of_mem_drop hx)
/-- the j-th letter's place -/
def plc (first leap : Int) (j : Nat) : Nat := ((first + leap * (j : Int)) % 26).toNat
theorem plc_lt (first leap : Int) (j : Nat) : plc first leap j < 26 := by
  unfold plc
  have := Int.emod_nonneg (first + leap * (j : Int)) (show (26 : Int) ≠ 0 by decide)
  have := Int.emod_lt_of_pos (first + leap * (j : Int)) (show (0 : Int) < 26 by decide)
  omega
theorem plc_inj {first leap : Int} (hl : leap ∈ [(1 : Int), 3, 5, 7, 9, 11, 25]) {i j : Nat} (hi : i < 26) (hj : j < 26) (h : plc first leap i = plc first leap j) : i = j := by
  unfold plc at h
  simp only [List.mem_cons, List.not_mem_nil, or_false] at hl
  rcases hl with rfl | rfl | rfl | rfl | rfl | rfl | rfl <;> omega
def nmL (z : Str) (k : Nat) (first leap : Int) (n : Nat) : List Str := (List.range n).map fun j => nmS z k (97 + plc first leap j)
theorem nmL_nodup {z : Str} {k n : Nat} {first leap : Int} (hk : k ≤ z.length) (hl : leap ∈ [(1 : Int), 3, 5, 7, 9, 11, 25]) (hn : n ≤ 26) : (nmL z k first leap n).Nodup := by
  unfold nmL
  rw [List.nodup_iff_pairwise_ne, List.pairwise_map]
  refine List.Pairwise.imp_of_mem ?_ (List.nodup_iff_pairwise_ne.mp List.nodup_range)
  intro i j hi hj ne e
  have hi := List.mem_range.mp hi
  have hj := List.mem_range.mp hj
  have e2 := nmS_inj hk e
  exact ne (plc_inj (first := first) hl (by omega) (by omega) (by omega))
theorem nmL_len {z : Str} {k n : Nat} {first leap : Int} : (nmL z k first leap n).length = n := by
  unfold nmL
  rw [List.length_map, List.length_range]
theorem nmL_row {z : Str} {k n : Nat} {first leap : Int} (hk : k ≤ z.length) (hz : z.length ≤ 7) (ha : ∀ x ∈ z.cps.toList, 97 ≤ x ∧ x ≤ 122) : ∀ y ∈ nmL z k first leap n, RowS y := by
  intro y hy
  unfold nmL at hy
  obtain ⟨j, _, rfl⟩ := List.mem_map.mp hy
  have := plc_lt first leap j
  exact nmS_row hk hz ha (by omega)
/-- a stem -/
theorem stem_ok {c : Nat} (hc : 97 ≤ c ∧ c ≤ 122) {n : Int} (hn : V.int n ∈ [V.int 0, V.int 0, V.int 1, V.int 3, V.int 7]) : MulOk ⟨#[c]⟩ n ∧ (Txt.mul ⟨#[c]⟩ n).length ≤ 7 ∧ ∀ x ∈ (Txt.mul ⟨#[c]⟩ n).cps.toList, 97 ≤ x ∧ x ≤ 122 := by
  have hn2 : n = 0 ∨ n = 1 ∨ n = 3 ∨ n = 7 := by
    simp only [List.mem_cons, List.not_mem_nil, or_false, V.int.injEq] at hn
    omega
  have one : ∀ l : List Nat, (∀ x ∈ l, x = c) → ∀ x ∈ l, 97 ≤ x ∧ x ≤ 122 := fun l h x hx => by rw [h x hx]; exact hc
  rcases hn2 with rfl | rfl | rfl | rfl
  · exact ⟨⟨by decide, fun h => absurd (by decide) h, fun h => absurd (by decide) h⟩, by show 0 ≤ 7; decide, one _ (fun x hx => by cases hx)⟩
  · exact ⟨⟨by decide, fun (_ : ¬ (1 : Int) < 1) h => Bool.noConfusion h, fun _ h => Bool.noConfusion h⟩, by show 1 ≤ 7; decide, one _ (fun x hx => by
      have hx : x ∈ [c] := hx
      simpa using hx)⟩
  · exact ⟨⟨by decide, fun _ _ => by show ¬ ((1 : Nat) : Int) > _; decide, fun _ _ => by show Builtin.Str.tooLong 3 = false; decide⟩, by show 3 ≤ 7; decide, one _ (fun x hx => by
      have hx : x ∈ [c, c, c] := hx
      simpa using hx)⟩
  · exact ⟨⟨by decide, fun _ _ => by show ¬ ((1 : Nat) : Int) > _; decide, fun _ _ => by show Builtin.Str.tooLong 7 = false; decide⟩, by show 7 ≤ 7; decide, one _ (fun x hx => by
      have hx : x ∈ [c, c, c, c, c, c, c] := hx
      simpa using hx)⟩
end M
namespace M
open PySem PySem.Spec PyProof.Rows L2 Gd
/-- what is new behind was new ahead -/
theorem fr {a p : Addr} {H H' : Hp} {n m : Nat} (b : But a H H') (h : Hd H a n) (h' : Hd H' a m) (hp : H' p = none) : H p = none := by
  cases e : H p with
  | none => rfl
  | some o =>
    rw [b p o (h'.ne hp) e] at hp
    cases hp
theorem lc_yes {σ : L2.St} {H : Hp} {A B : Hp → Prop} (h : A H) : tYes σ H (fun b H3 => if b = true then A H3 else B H3) := by
  show (if true = true then A H else B H)
  rw [if_pos rfl]
  exact h
abbrev sNames : Stmt := topS 11
abbrev nNames : List Str := ["_law_hand_here", "_law_count", "_law_letters", "_law_first", "_law_leap", "_law_stem", "_law_cut", "_law_nth"]
theorem scNames : FnScope nNames ["_law_hand_here", "_law_count"] (defScope sNames) := ⟨rfl, rfl, rfl, by decide +kernel, rfl, by decide +kernel, by decide +kernel⟩
def spNames : Sp := fun vs H Q _ => ∃ (a : Addr) (n : Nat) (c : Nat), vs = [.ref a, .int c] ∧ Hd H a n ∧ n < 900000 ∧ c ≤ 26 ∧
  ∀ H' p (ns : List Str), But a H H' → Hd H' a (n + 5) → H p = none → H' p = some (.lst (ns.map V.str)) → ns.length = c → ns.Nodup → (∀ z ∈ ns, RowS z) → Q (.ref p) H'
section
variable {P : Program} {w : World} {K : PySem.W.Frag} {mg : Str → Option Value} {base : Heap}
theorem ok_names {f fT fP : Addr} {fd fdT fdP : FuncData} {k : Nat} (F : Fun K "_law_names" "_law_names" sNames f fd) (FT : Fun K "_law_take" "_law_take" sTake fT fdT) (bT : Binds K fdT ["_law_hand_here", "_law_many"] []) (gT : mg "_law_take" = some (.ref fT))
    (FP : Fun K "_law_pick" "_law_pick" sPick fP fdP) (bP : Binds K fdP ["_law_hand_here", "_law_items"] []) (gP : mg "_law_pick" = some (.ref fP)) (ml : mg "len" = none) (mr : mg "range" = none) :
    FnOk P w K mg base CX0 (k + 3) f fd ["_law_hand_here", "_law_count"] spNames := by
  have GT : FnOk P w K mg base CX0 (k + 1) fT fdT ["_law_hand_here", "_law_many"] spTake := ok_take FT
  have GP : FnOk P w K mg base CX0 (k + 2) fP fdP ["_law_hand_here", "_law_items"] spPick := ok_pick FP FT bT gT ml
  refine F.ok scNames (fun vs H Q E h => ?_) (fun cdv A outer s H vs Q E hr h => ?_)
  · obtain ⟨a, n, c, rfl, _⟩ := h
    rfl
  · obtain ⟨a, n, c, rfl, hh, hn, hc, q⟩ := h
    have hr1 := hr.mono (show k + 1 ≤ k + 2 by omega)
    refine ⟨_, pss_cons (ps_set (i := 2) scNames.nd rfl (.inr rfl) pe_str)
      (pss_cons (ps_asg (pe_tup (pa_cons (pe_call GT hr1 (by rfl) gT FT.kp bT .nil pass0 (pa_cons (pv 0) (pa_cons pe_int pa_nil)))
          (pa_cons (pe_call GP hr (by rfl) gP FP.kp bP .nil pass0 (pa_cons (pv 0) (pa_cons (pe_lst (pa_cons pe_int (pa_cons pe_int (pa_cons pe_int (pa_cons pe_int (pa_cons pe_int (pa_cons pe_int (pa_cons pe_int pa_nil)))))))) pa_nil))) pa_nil)))
        (pg_tup rfl (pgs_cons (pg_name (i := 3) scNames.nd rfl (.inr rfl)) (pgs_cons (pg_name (i := 4) scNames.nd rfl (.inr rfl)) pgs_nil))))
      (pss_cons (ps_set (i := 5) scNames.nd rfl (.inr rfl) (pe_op op_rep_str (pe_call GP hr (by rfl) gP FP.kp bP .nil pass0 (pa_cons (pv 0) (pa_cons (pv 2) pa_nil)))
          (pe_call GP hr (by rfl) gP FP.kp bP .nil pass0 (pa_cons (pv 0) (pa_cons (pe_lst (pa_cons pe_int (pa_cons pe_int (pa_cons pe_int (pa_cons pe_int (pa_cons pe_int pa_nil)))))) pa_nil)))))
      (pss_cons (ps_set (i := 6) scNames.nd rfl (.inr rfl) (pe_call GT hr1 (by rfl) gT FT.kp bT .nil pass0 (pa_cons (pv 0) (pa_cons (pe_op op_add (pe_callB call_len (by rfl) ml PySem.boot_len (pa_cons (pv 5) pa_nil)) pe_int) pa_nil))))
      (pss_one (ps_ret (pe_lc (own := [("_law_nth", 7)]) (g := gName 7) (tt := tYes) rfl scNames.nd (pi_range1 rfl mr (pa_cons (pv 1) pa_nil)) (blkOk_by (own := [("_law_nth", 7)]) (N := nNames) (sc := defScope sNames) (by decide +kernel))
        (fun _ _ _ _ _ => pg_name (i := 7) scNames.nd rfl (.inl rfl)) (fun _ _ _ _ _ => pts_nil)
        (fun _ _ _ _ _ => pe_op op_add_str (pe_op op_add_str (pe_slice sl_str (pv 5) po_none (po_some (pv 6))) (pe_ix ix_str (pv 2) (pe_op op_mod (pe_op op_add (pv 3) (pe_op op_mul (pv 4) (pv 7))) pe_int) (fun _ _ => rfl))) (pe_slice sl_str (pv 5) (po_some (pv 6)) po_none)))))))), ?_⟩
    -- first, leap
    refine ⟨.ref a, rfl, a, n, 26, rfl, hh, by omega, by decide, by decide, fun H1 first sb1 hd1 f0 f1 => ?_⟩
    refine ⟨.ref a, rfl, (by show 7 ≤ sizeLine; decide), fun l hl => ?_⟩
    refine ⟨a, n + 1, .ref l, rfl, hd1.new hl, by omega, .inl ⟨l, _, rfl, hd1.ne hl, .inl upd_same, by decide, by decide, fun H2 v sb2 hd2 hv => ?_⟩⟩
    obtain ⟨leap, rfl, hleap⟩ : ∃ leap : Int, v = .int leap ∧ leap ∈ [(1 : Int), 3, 5, 7, 9, 11, 25] := by
      have hv : v ∈ [(1 : Int), 3, 5, 7, 9, 11, 25].map V.int := hv
      obtain ⟨x, hx, rfl⟩ := List.mem_map.mp hv
      exact ⟨x, rfl, hx⟩
    refine ⟨(by show 2 ≤ sizeLine; decide), fun t ht => ?_⟩
    refine ⟨t, _, rfl, SqT.of upd_same, rfl, _, _, rfl, _, _, rfl, rfl, ?_⟩
    have b3 : But a H (upd H2 t (.tup [.int first, .int leap])) := ((sb1.new hl).trans sb2).new ht
    have hd3 : Hd (upd H2 t (.tup [.int first, .int leap])) a (n + 2) := hd2.new ht
    generalize upd H2 t (.tup [.int first, .int leap]) = H3 at b3 hd3 ⊢
    -- stem
    refine ⟨.ref a, rfl, .str abc, rfl, a, n + 2, .str abc, rfl, hd3, by omega, .inr ⟨abc, rfl, by rw [abc_len]; decide, by rw [abc_len]; decide, fun H4 ch sb4 hd4 hch => ?_⟩⟩
    refine ⟨.ref a, rfl, (by show 5 ≤ sizeLine; decide), fun l5 hl5 => ?_⟩
    refine ⟨a, n + 3, .ref l5, rfl, hd4.new hl5, by omega, .inl ⟨l5, _, rfl, hd4.ne hl5, .inl upd_same, by decide, by decide, fun H5 v5 sb5 hd5 hv5 => ?_⟩⟩
    obtain ⟨r, rfl⟩ : ∃ r : Int, v5 = .int r := by
      have hv5 : v5 ∈ [(0 : Int), 0, 1, 3, 7].map V.int := hv5
      obtain ⟨x, hx, rfl⟩ := List.mem_map.mp hv5
      exact ⟨x, rfl⟩
    obtain ⟨ok, sl, sa⟩ := stem_ok (abc_mem ch hch) hv5
    refine ⟨_, r, rfl, rfl, ok, ?_⟩
    have b5 : But a H H5 := (b3.trans sb4).trans (((But.refl a H4).new hl5).trans sb5)
    generalize Txt.mul ⟨#[ch]⟩ r = stem at sl sa ⊢
    -- cut
    refine ⟨.ref a, rfl, .str stem, rfl, _, stem.length, rfl, ⟨sz1000 (by omega), rfl⟩, _, 1, rfl, rfl, a, n + 4, _, rfl, hd5, by omega, by omega, by omega, fun H6 cut sb6 hd6 c0 c1 => ?_⟩
    obtain ⟨ct, rfl⟩ := Int.eq_ofNat_of_zero_le c0
    have hct : ct ≤ stem.length := by omega
    have b6 : But a H H6 := b5.trans sb6
    have leapB : 1 ≤ leap ∧ leap ≤ 25 := by
      simp only [List.mem_cons, List.not_mem_nil, or_false] at hleap
      omega
    -- the list
    refine ⟨.int c, rfl, c, rfl, by omega, by omega, fun D hD => lc_range (lo := 0) (n := c) (fun i H' => But a H H' ∧ Hd H' a (n + 5) ∧ H' D = some (.lst ((nmL stem ct first leap i).map V.str))) ⟨b6.new hD, hd6.new hD, by rw [upd_same]; rfl⟩ (fun i H' hi hP => ?_) (fun H' hP => ?_)⟩
    · have hDH : H D = none := fr b6 hh hd6 hD
      obtain ⟨p1, p2, p3⟩ := hP
      refine ⟨rfl, lc_yes ?_⟩
      have hx : atI abc.cps.toList ((first + leap * (0 + (i : Int))) % 26) = some (97 + plc first leap i) := by
        have e : (first + leap * (0 + (i : Int))) % 26 = ((plc first leap i : Nat) : Int) := by
          unfold plc
          rw [Int.zero_add, Int.toNat_of_nonneg (Int.emod_nonneg _ (by decide))]
        rw [e]
        exact atI_nat (abc_at _ (plc_lt _ _ _))
      have le : (nmS stem ct (97 + plc first leap i)).length = stem.length + 1 := nmS_len hct
      refine ⟨_, rfl, _, rfl, _, rfl, stem, rfl, sz1000 (by omega), ?_⟩
      refine ⟨.str abc, rfl, .int first, rfl, .int leap, rfl, _, rfl, leap, _, rfl, rfl, ?_, first, _, rfl, rfl, _, 26, rfl, rfl, (by show (0 : Int) < 26; decide), abc, _, _, rfl, rfl, sz1000 (by rw [abc_len]; decide), hx, ?_⟩
      · refine .inl ⟨?_, ?_⟩ <;> omega
      have l1 : (cutS stem none (some (ct : Int))).length + (⟨#[97 + plc first leap i]⟩ : Str).length ≤ sizeLine := sz1000 (Nat.le_trans (Nat.add_le_add_right (cutS_length stem none (some (ct : Int))) _) (by show stem.length + 1 ≤ 1000; omega))
      refine ⟨_, _, rfl, rfl, l1, ?_⟩
      refine ⟨_, rfl, _, rfl, _, rfl, stem, rfl, sz1000 (by omega), _, _, rfl, rfl, ?_, ?_⟩
      · have e : (cutS stem none (some (ct : Int)) ++ ⟨#[97 + plc first leap i]⟩ ++ cutS stem (some (ct : Int)) none).length = (cutS stem none (some (ct : Int)) ++ ⟨#[97 + plc first leap i]⟩).length + (cutS stem (some (ct : Int)) none).length := by
          rw [← len_cps, PySem.W.KT.app_list, List.length_append, len_cps, len_cps]
        rw [← e]
        exact sz1000 (Nat.le_trans (Nat.le_of_eq le) (by omega))
      · refine ⟨_, p3, ?_, p1.own hDH, p2.oth (hd6.ne hD), ?_⟩
        · rw [List.length_map, nmL_len]
          exact small1000 (by omega)
        · rw [upd_same]
          unfold nmL
          rw [List.range_succ, List.map_append, List.map_append]
          rfl
    · have hDH : H D = none := fr b6 hh hd6 hD
      obtain ⟨p1, p2, p3⟩ := hP
      exact q H' D _ p1 p2 hDH p3 nmL_len (nmL_nodup hct hleap hc) (nmL_row hct sl sa)
end
end M
namespace M
open PySem PySem.Spec PyProof.Rows L2 Gd
/-! ### data of texts -/
theorem dp_strs {K : PySem.W.Frag} {H : Hp} : ∀ ns : List Str, DpAll K H (ns.map V.str) (ns.map PyData.str)
  | [] => .nil
  | x :: ns => .cons (.str x) (dp_strs ns)
theorem lay_strs : ∀ ns : List Str, (∀ z ∈ ns, PyData.strOk z = true) → PyData.canLayAll0 (ns.map PyData.str) = true
  | [], _ => rfl
  | x :: ns, h => by
    show (PyData.strOk x && PyData.canLayAll0 (ns.map PyData.str)) = true
    rw [lay_strs ns fun z hz => h z (List.mem_cons_of_mem _ hz), h x List.mem_cons_self]
    rfl
theorem deep_strs : ∀ ns : List Str, PyData.depthAll (ns.map PyData.str) = 0
  | [] => rfl
  | x :: ns => by
    show max 0 (PyData.depthAll (ns.map PyData.str)) = 0
    rw [deep_strs ns]
    rfl
theorem shaped_lst {ns : List Str} (h : ∀ z ∈ ns, PyData.strOk z = true) : SeqAt.shaped (.list (ns.map PyData.str)) = true := by
  unfold SeqAt.shaped
  rw [show PyData.canLay0 (.list (ns.map PyData.str)) = true from lay_strs ns h]
  refine decide_eq_true ?_
  show PyData.depthAll (ns.map PyData.str) + 1 ≤ 64
  rw [deep_strs]
  decide
theorem shaped_tup {ns : List Str} (h : ∀ z ∈ ns, PyData.strOk z = true) : SeqAt.shaped (.tuple (ns.map PyData.str)) = true := by
  unfold SeqAt.shaped
  rw [show PyData.canLay0 (.tuple (ns.map PyData.str)) = true from lay_strs ns h]
  refine decide_eq_true ?_
  show PyData.depthAll (ns.map PyData.str) + 1 ≤ 64
  rw [deep_strs]
  decide
theorem RowS.ok {z : Str} (h : RowS z) : PyData.strOk z = true := by
  unfold PyData.strOk
  rw [Array.all_eq_true_iff_forall_mem]
  intro c hc
  have := h.2.2 c (Array.mem_toList_iff.mpr hc)
  exact decide_eq_true (by omega)
/-! ### shuffled -/
abbrev sShuf : Stmt := topS 12
theorem scShuf : FnScope ["_law_hand_here", "_law_items", "_law_rest", "_law_found"] ["_law_hand_here", "_law_items"] (defScope sShuf) := ⟨rfl, rfl, rfl, by decide +kernel, rfl, by decide +kernel, by decide +kernel⟩
def spShuf : Sp := fun vs H Q _ => ∃ (a b : Addr) (n : Nat) (ns : List Str), vs = [.ref a, .ref b] ∧ Hd H a n ∧ b ≠ a ∧ (H b = some (.lst (ns.map V.str)) ∨ H b = some (.tup (ns.map V.str))) ∧ ns.length ≤ 1000 ∧ n + ns.length < 900000 ∧ (∀ z ∈ ns, RowS z) ∧
  ∀ H' p (ns' : List Str), But a H H' → Hd H' a (n + ns.length) → H p = none → H' p = some (.lst (ns'.map V.str)) → ns'.Perm ns → Q (.ref p) H'
def lenAt (H : Hp) (p : Addr) : Nat := match H p with
  | some (.lst xs) => xs.length
  | _ => 0
theorem er_map {α β : Type} (f : α → β) : ∀ (l : List α) (i : Nat), (l.map f).eraseIdx i = (l.eraseIdx i).map f
  | [], _ => rfl
  | x :: l, 0 => rfl
  | x :: l, i + 1 => by
    show f x :: (l.map f).eraseIdx i = f x :: (l.eraseIdx i).map f
    rw [er_map f l i]
theorem er_perm {α : Type} : ∀ {l : List α} {i : Nat} (h : i < l.length), (l[i] :: l.eraseIdx i).Perm l
  | x :: l, 0, _ => .refl _
  | x :: l, i + 1, h => by
    have h2 : i < l.length := Nat.lt_of_succ_lt_succ h
    exact (List.Perm.swap x l[i] (l.eraseIdx i)).trans ((er_perm h2).cons x)
theorem lenAt_eq {H : Hp} {p : Addr} {ns : List Str} (h : H p = some (.lst (ns.map V.str))) : lenAt H p = ns.length := by
  unfold lenAt
  rw [h]
  exact List.length_map ..
theorem seq_at {n : Nat} {v : Int} (h0 : 0 ≤ v) (h1 : v < (n : Int)) : seqIndex? v n = some v.toNat := by
  refine (ixN_seq ?_).1
  unfold ixN
  rw [if_pos h0, if_pos h1]
section
variable {P : Program} {w : World} {K : PySem.W.Frag} {mg : Str → Option Value} {base : Heap}
theorem ok_shuf {f fT : Addr} {fd fdT : FuncData} {k : Nat} (F : Fun K "_law_shuffled" "_law_shuffled" sShuf f fd) (FT : Fun K "_law_take" "_law_take" sTake fT fdT) (bT : Binds K fdT ["_law_hand_here", "_law_many"] []) (gT : mg "_law_take" = some (.ref fT)) (ml : mg "len" = none) (mli : mg "list" = none) :
    FnOk P w K mg base CX0 (k + 2) f fd ["_law_hand_here", "_law_items"] spShuf := by
  have GT : FnOk P w K mg base CX0 (k + 1) fT fdT ["_law_hand_here", "_law_many"] spTake := ok_take FT
  refine F.ok scShuf (fun vs H Q E h => ?_) (fun cdv A outer s H vs Q E hr h => ?_)
  · obtain ⟨a, b, n, ns, rfl, _⟩ := h
    rfl
  · obtain ⟨a, b, n, ns, rfl, hh, nb, hb, l1, hn, rw, q⟩ := h
    refine ⟨_, pss_cons (ps_par (i := 2) (j := 3) (by rfl) scShuf.nd rfl rfl (by decide) rfl rfl (pa_cons (pe_callTy call_list_of (by rfl) mli (by decide +kernel) (pa_cons (pv 1) pa_nil)) (pa_cons (pe_lst pa_nil) pa_nil)) (by rfl))
      (pss_cons (ps_while PassesOwn.never (pt_cmpR (op_neD hr.units) (pv 2) (pe_lst pa_nil) (nomark _))
        (pss_one (ps_expr (pe_bm PySem.F.plainAttrs_list PySem.F.slot_list_append PySem.F.type_list_append mt_append (pv 3) (pa_cons
          (pe_bm PySem.F.plainAttrs_list PySem.F.slot_list_pop PySem.F.type_list_pop mt_popAt (pv 2) (pa_cons (pe_call GT hr (by rfl) gT FT.kp bT .nil pass0 (pa_cons (pv 0) (pa_cons (pe_callB call_len (by rfl) ml PySem.boot_len (pa_cons (pv 2) pa_nil)) pa_nil))) pa_nil)) pa_nil)))))
      (pss_one (ps_ret (pv 3)))), ?_⟩
    have hB : SqL K H b (ns.map V.str) ∨ SqT K H b (ns.map V.str) := by
      rcases hb with hb | hb
      · exact .inl (SqL.of hb)
      · exact .inr (SqT.of hb)
    refine ⟨.ref b, rfl, b, _, rfl, hB, fun r hrr => ?_⟩
    refine ⟨Nat.zero_le _, fun o ho => ?_⟩
    refine ⟨.ref r, .ref o, rfl, ?_⟩
    have nra : r ≠ a := hh.ne hrr
    have hd1 : Hd (upd H r (.lst (ns.map V.str))) a n := hh.new hrr
    have noa : o ≠ a := hd1.ne ho
    have nro : r ≠ o := ne_of_none upd_same ho
    have hoH : H o = none := by
      rw [upd_ne nro.symm] at ho
      exact ho
    refine while_by (fun σ H' => ∃ rs fs : List Str, σ = [some (.ref a), some (.ref b), some (.ref r), some (.ref o)] ∧ But a H H' ∧ Hd H' a (n + fs.length) ∧ H' r = some (.lst (rs.map V.str)) ∧ H' o = some (.lst (fs.map V.str)) ∧ (rs ++ fs).Perm ns)
      (fun _ H' => lenAt H' r) ⟨ns, [], rfl, ((But.refl a H).new hrr).new ho, hd1.new ho, ?_, upd_same, ?_⟩ (fun σ H1 hP => ?_) (fun σ H1 Q1 Q2 hq h => ?_)
    · rw [upd_ne nro]
      exact upd_same
    · rw [List.append_nil]
    · obtain ⟨rs, fs, rfl, b1, h1, e1, e2, pm⟩ := hP
      have lens : rs.length + fs.length = ns.length := by
        rw [← pm.length_eq, List.length_append]
      refine ⟨.ref r, rfl, Nat.zero_le _, fun p hp => ?_⟩
      have npr : r ≠ p := ne_of_none e1 hp
      have npo : o ≠ p := ne_of_none e2 hp
      have e1' : (upd H1 p (.lst [])) r = some (.lst (rs.map V.str)) := by rw [upd_ne npr]; exact e1
      have e2' : (upd H1 p (.lst [])) o = some (.lst (fs.map V.str)) := by rw [upd_ne npo]; exact e2
      have b2 : But a H (upd H1 p (.lst [])) := b1.new hp
      have h2 : Hd (upd H1 p (.lst [])) a (n + fs.length) := h1.new hp
      have hμ : lenAt H1 r = rs.length := lenAt_eq e1
      refine ⟨.list (rs.map PyData.str), .list [], .lst (SqL.of e1') (dp_strs rs), .lst (SqL.of upd_same) .nil, shaped_lst (fun z hz => (rw z (pm.subset (List.mem_append_left _ hz))).ok), rfl, _, rfl, ?_⟩
      generalize upd H1 p (.lst []) = H2 at e1' e2' b2 h2 ⊢
      cases rs with
      | nil =>
        refine iteF ?_
        have e : fs.length = ns.length := by
          have := lens
          rw [List.length_nil] at this
          omega
        rw [e] at h2
        exact ⟨.ref o, rfl, q H2 o fs b2 h2 hoH e2' pm⟩
      | cons x rs =>
        refine iteT ?_
        have hlen : ((x :: rs).map V.str).length = rs.length + 1 := by
          rw [List.length_map, List.length_cons]
        have hl2 : rs.length + 1 + fs.length = ns.length := by
          rw [List.length_cons] at lens
          exact lens
        refine ⟨.ref o, rfl, .inl ⟨rfl, _, SqL.of e2'⟩, .ref r, rfl, .inl ⟨rfl, _, SqL.of e1'⟩, .ref a, rfl, .ref r, rfl, _, rs.length + 1, rfl, .inl ⟨_, SqL.of e1', hlen.symm⟩, a, n + fs.length, _, rfl, h2, by omega, by omega, by omega, fun H3 v sb3 h3 v0 v1 => ?_⟩
        have e1'' := sb3 r _ nra e1'
        have e2'' := sb3 o _ noa e2'
        have hk : v.toNat < (x :: rs).length := by
          rw [List.length_cons]
          omega
        have g : ((x :: rs).map V.str)[v.toNat]? = some (.str (x :: rs)[v.toNat]) := by
          rw [List.getElem?_map, List.getElem?_eq_getElem hk]
          rfl
        refine ⟨r, _, v, v.toNat, _, rfl, rfl, e1'', by omega, by omega, seq_at v0 (by rw [hlen]; omega), g, ?_⟩
        have e2u : (upd H3 r (.lst (((x :: rs).map V.str).eraseIdx v.toNat))) o = some (.lst (fs.map V.str)) := by
          rw [upd_ne nro.symm]
          exact e2''
        have pe : (((x :: rs).map V.str).eraseIdx v.toNat) = ((x :: rs).eraseIdx v.toNat).map V.str := by
          exact er_map V.str _ _
        have pm2 : ((x :: rs).eraseIdx v.toNat ++ (fs ++ [(x :: rs)[v.toNat]])).Perm ns := by
          refine List.Perm.trans ?_ pm
          refine List.Perm.trans ?_ (List.Perm.append_right fs (er_perm hk))
          rw [← List.append_assoc]
          exact List.perm_append_comm
        refine ⟨o, _, _, rfl, rfl, e2u, ?_, ⟨(x :: rs).eraseIdx v.toNat, fs ++ [(x :: rs)[v.toNat]], rfl, ?_, ?_, ?_, ?_, pm2⟩, ?_⟩
        · rw [List.length_map]
          exact small1000 (by omega)
        · exact ((b2.trans sb3).own hrr).own hoH
        · have h4 : Hd H3 a (n + (fs ++ [(x :: rs)[v.toNat]]).length) := by
            rw [List.length_append]
            exact h3
          exact (h4.oth nra).oth noa
        · rw [upd_ne nro, upd_same, pe]
        · rw [upd_same, List.map_append]
          rfl
        · rw [hμ, lenAt_eq (ns := (x :: rs).eraseIdx v.toNat) (by rw [upd_ne nro, upd_same, pe]), List.length_eraseIdx, if_pos hk, List.length_cons]
          omega
    · obtain ⟨v, hv, hz, h⟩ := h
      refine ⟨v, hv, hz, fun p hp => ?_⟩
      obtain ⟨d, e, h1, h2, h3, h4, k, hk, hq'⟩ := h p hp
      exact ⟨d, e, h1, h2, h3, h4, k, hk, hq _ _ hq'⟩
end
end M
namespace M
open PySem PySem.Spec PyProof.Rows L2 Gd
/-! ### hand -/
abbrev sHand : Stmt := topS 8
theorem scHand : FnScope ["_law_script", "_law_k", "_law_cell", "_law_great"] ["_law_script", "_law_k"] (defScope sHand) := ⟨rfl, rfl, rfl, by decide +kernel, rfl, by decide +kernel, by decide +kernel⟩
def spHand (K : PySem.W.Frag) : Sp := fun vs H Q _ => ∃ (a : Addr) (k : Nat) (ns : List Int), vs = [.ref a, .int k] ∧ SqL K H a (ns.map V.int) ∧ k ≤ 1000 ∧ ∀ H' p, Same H H' → H p = none → Hd H' p 0 → Q (.ref p) H'
theorem same_new {H : Hp} {p : Addr} {o : HO} (h : H p = none) : Same H (upd H p o) := fun b x e => by
  rw [upd_ne (ne_of_none e h)]
  exact e
theorem tens : ((10 : Int) ^ (60 : Int).toNat).natAbs < 2 ^ 200 := by decide +kernel
theorem wide3 {i j : Int} {a b c : Nat} (ha : i.natAbs < 2 ^ a) (hb : j.natAbs < 2 ^ b) (hc : c = a + b) : (i * j).natAbs < 2 ^ c := by
  rw [hc]
  exact wide_lt ha hb
theorem tens_pos : (0 : Int) < 10 ^ (60 : Int).toNat * 10 ^ (60 : Int).toNat * 10 ^ (60 : Int).toNat * 10 ^ (60 : Int).toNat := by decide +kernel
theorem bit_ok (b : Bool) : -(2 ^ 64) < (if b = true then (1 : Int) else 0) ∧ (if b = true then (1 : Int) else 0) < 2 ^ 64 := by
  cases b <;> decide
theorem bit_ge (b : Bool) : 0 ≤ (if b = true then (1 : Int) else 0) := by
  cases b <;> decide
theorem w1 : CMulW ((10 : Int) ^ (60 : Int).toNat) ((10 : Int) ^ (60 : Int).toNat) := wide_mul tens tens (by decide) (by decide) (by decide)
theorem w2 : CMulW ((10 : Int) ^ (60 : Int).toNat * (10 : Int) ^ (60 : Int).toNat) ((10 : Int) ^ (60 : Int).toNat) := wide_mul (wide_lt tens tens) tens (by decide) (by decide) (by decide)
theorem w3 : CMulW ((10 : Int) ^ (60 : Int).toNat * (10 : Int) ^ (60 : Int).toNat * (10 : Int) ^ (60 : Int).toNat) ((10 : Int) ^ (60 : Int).toNat) := wide_mul (wide_lt (wide_lt tens tens) tens) tens (by decide) (by decide) (by decide)
section
variable {P : Program} {w : World} {K : PySem.W.Frag} {mg : Str → Option Value} {base : Heap}
theorem ok_hand {f : Addr} {fd : FuncData} {k : Nat} (F : Fun K "_law_hand" "_law_hand" sHand f fd) (ml : mg "len" = none) (ma : mg "abs" = none) (mi : mg "int" = none) :
    FnOk P w K mg base CX0 (k + 1) f fd ["_law_script", "_law_k"] (spHand K) := by
  refine F.ok scHand (fun vs H Q E h => ?_) (fun cdv A outer s H vs Q E hr h => ?_)
  · obtain ⟨a, k, ns, rfl, _⟩ := h
    rfl
  · obtain ⟨a, k, ns, rfl, hS, hk, q⟩ := h
    refine ⟨_, pss_cons (ps_set (i := 2) scHand.nd rfl (.inl rfl) (pe_ifExp (pt_cmpR op_lt (pv 1) (pe_callB call_len (by rfl) ml PySem.boot_len (pa_cons (pv 0) pa_nil)) (nomark _)) (pe_ix ix_list (pv 0) (pv 1) (fun _ _ => rfl)) (pe_op op_add (pe_op op_mul pe_int (pv 1)) pe_int)))
      (pss_cons (ps_set (i := 3) scHand.nd rfl (.inl rfl) (pe_op op_mul (pe_op op_mod (pe_callB call_abs (by rfl) ma (by decide +kernel) (pa_cons (pv 2) pa_nil)) (pe_op op_mulW (pe_op op_mulW (pe_op op_mulW (pe_op op_pow pe_int pe_int) (pe_op op_pow pe_int pe_int)) (pe_op op_pow pe_int pe_int)) (pe_op op_pow pe_int pe_int)))
          (pe_callTy call_int1 (by rfl) mi (by decide +kernel) (pa_cons (pe_cmpR op_ge (pe_callB call_abs (by rfl) ma (by decide +kernel) (pa_cons (pv 2) pa_nil)) (pe_op op_pow pe_int pe_int) (nomark _)) pa_nil))))
      (pss_one (ps_ret (pe_lst (pa_cons (pv 3) (pa_cons (pe_op op_mod (pe_op op_mul (pe_op op_add (pe_op op_add (pe_op op_mod (pv 2) pe_int) (pe_op op_mul (pe_op op_mul pe_int (pv 1)) (pv 1))) pe_int) pe_int) pe_int) (pa_cons pe_int pa_nil))))))), ?_⟩
    refine ⟨_, rfl, .ref a, rfl, _, ns.length, rfl, .inl ⟨_, hS, (List.length_map ..).symm⟩, _, _, rfl, rfl, _, rfl, ite2 (fun e => ?_) (fun e => ?_)⟩
    · have e : (k : Int) < (ns.length : Int) := of_decide_eq_true e
      have hk2 : k < ns.length := by omega
      refine ⟨.ref a, rfl, _, rfl, a, _, k, .int ns[k], rfl, rfl, hS, atI_nat (by rw [List.getElem?_map, List.getElem?_eq_getElem hk2]; rfl), ?_⟩
      generalize ns[k] = cell
      refine ⟨_, rfl, cell, rfl, 10, 60, rfl, rfl, ⟨by decide, by decide, by decide⟩, 10, 60, rfl, rfl, ⟨by decide, by decide, by decide⟩, _, _, rfl, rfl, w1, 10, 60, rfl, rfl, ⟨by decide, by decide, by decide⟩, _, _, rfl, rfl, w2,
        10, 60, rfl, rfl, ⟨by decide, by decide, by decide⟩, _, _, rfl, rfl, w3, _, _, rfl, rfl, tens_pos, _, rfl, cell, rfl, 10, 18, rfl, rfl, ⟨by decide, by decide, by decide⟩, _, _, rfl, rfl, .inr ⟨_, rfl, _, _, rfl, rfl, .inr (bit_ok _), ?_⟩⟩
      refine ⟨_, rfl, _, rfl, cell, 2305843009213693951, rfl, rfl, (by show (0 : Int) < 2305843009213693951; decide), _, rfl, 104729, k, rfl, rfl, .inl ⟨by decide, by decide⟩, _, rfl, _, k, rfl, rfl, .inr ⟨by omega, by omega⟩, _, _, rfl, rfl, _, 29, rfl, rfl, _, 48271, rfl, rfl, .inr ⟨by decide, by decide⟩,
        _, 2305843009213693921, rfl, rfl, (by show (0 : Int) < 2305843009213693921; decide), (by show 3 ≤ sizeLine; decide), fun p hp => ?_⟩
      refine q _ p (same_new hp) hp ⟨_, _, _, upd_same, ?_, Int.emod_nonneg _ (by decide), Int.lt_of_lt_of_le (Int.emod_lt_of_pos _ (by decide)) (by decide), by decide, by decide⟩
      exact Int.mul_nonneg (Int.emod_nonneg _ (Int.ne_of_gt tens_pos)) (bit_ge _)
    · refine ⟨_, rfl, 7, k, rfl, rfl, .inl ⟨by decide, by decide⟩, _, 3, rfl, rfl, ?_⟩
      refine ⟨_, rfl, 7 * (k : Int) + 3, rfl, 10, 60, rfl, rfl, ⟨by decide, by decide, by decide⟩, 10, 60, rfl, rfl, ⟨by decide, by decide, by decide⟩, _, _, rfl, rfl, w1, 10, 60, rfl, rfl, ⟨by decide, by decide, by decide⟩, _, _, rfl, rfl, w2,
        10, 60, rfl, rfl, ⟨by decide, by decide, by decide⟩, _, _, rfl, rfl, w3, _, _, rfl, rfl, tens_pos, _, rfl, 7 * (k : Int) + 3, rfl, 10, 18, rfl, rfl, ⟨by decide, by decide, by decide⟩, _, _, rfl, rfl, .inr ⟨_, rfl, _, _, rfl, rfl, .inr (bit_ok _), ?_⟩⟩
      refine ⟨_, rfl, _, rfl, 7 * (k : Int) + 3, 2305843009213693951, rfl, rfl, (by show (0 : Int) < 2305843009213693951; decide), _, rfl, 104729, k, rfl, rfl, .inl ⟨by decide, by decide⟩, _, rfl, _, k, rfl, rfl, .inr ⟨by omega, by omega⟩, _, _, rfl, rfl, _, 29, rfl, rfl, _, 48271, rfl, rfl, .inr ⟨by decide, by decide⟩,
        _, 2305843009213693921, rfl, rfl, (by show (0 : Int) < 2305843009213693921; decide), (by show 3 ≤ sizeLine; decide), fun p hp => ?_⟩
      refine q _ p (same_new hp) hp ⟨_, _, _, upd_same, ?_, Int.emod_nonneg _ (by decide), Int.lt_of_lt_of_le (Int.emod_lt_of_pos _ (by decide)) (by decide), by decide, by decide⟩
      exact Int.mul_nonneg (Int.emod_nonneg _ (Int.ne_of_gt tens_pos)) (bit_ge _)
end
end M
namespace M
open PySem PySem.Spec PyProof.Rows L2 Gd
/-! ### pages -/
def pageL (vs sent : List Str) (c : Nat) : List Str := (vs.filter fun r => !sent.contains r).take c
theorem inV_strs (x : Str) : ∀ ns : List Str, inV (.str x) (ns.map V.str) = ns.contains x
  | [] => rfl
  | y :: ns => by
    have h := inV_strs x ns
    unfold inV at h ⊢
    rw [List.map_cons, List.any_cons, h, List.contains_cons]
    show ((y == x) || ns.contains x) = _
    rw [show (y == x) = (x == y) from Bool.eq_iff_iff.mpr (by rw [beq_iff_eq, beq_iff_eq]; exact eq_comm)]
theorem flat_strs : ∀ ns : List Str, (ns.map V.str).all flatV = true
  | [] => rfl
  | y :: ns => by
    rw [List.map_cons, List.all_cons, flat_strs ns]
    rfl
theorem pageL_snoc (l sent : List Str) (x : Str) (c : Nat) : pageL (l ++ [x]) sent c = if (pageL l sent c).length < c ∧ sent.contains x = false then pageL l sent c ++ [x] else pageL l sent c := by
  unfold pageL
  rw [List.filter_append, List.take_append]
  cases hx : sent.contains x with
  | true =>
    rw [if_neg (by simp)]
    have e : List.filter (fun r => !sent.contains r) [x] = [] := by
      rw [List.filter_cons, hx]
      rfl
    rw [e, List.take_nil, List.append_nil]
  | false =>
    have e : List.filter (fun r => !sent.contains r) [x] = [x] := by
      rw [List.filter_cons, hx]
      rfl
    rw [e, List.length_take]
    by_cases h : (List.filter (fun r => !sent.contains r) l).length < c
    · rw [if_pos ⟨by omega, rfl⟩, List.take_of_length_le (l := [x]) (by show 1 ≤ _; omega)]
    · rw [if_neg (by omega), show c - (List.filter (fun r => !sent.contains r) l).length = 0 by omega, List.take_zero, List.append_nil]
theorem pageL_le (l sent : List Str) (c : Nat) : (pageL l sent c).length ≤ l.length := by
  unfold pageL
  rw [List.length_take]
  exact Nat.le_trans (Nat.min_le_right _ _) (List.length_filter_le _ _)
theorem cut_to (xs : List V) (c : Nat) : cutV xs none (some (c : Int)) = xs.take c := by
  unfold cutV
  rw [HT.sIx_none, HT.sIx_nat, List.drop_zero, Nat.sub_zero]
  by_cases h : c ≤ xs.length
  · rw [Nat.min_eq_left h]
  · rw [Nat.min_eq_right (by omega), List.take_length, List.take_of_length_le (by omega)]
abbrev sPage : Stmt := topS 4
abbrev nPage : List Str := ["version", "sent", "count", "unsent", "row"]
theorem scPage : FnScope nPage ["version", "sent", "count"] (defScope sPage) := ⟨rfl, rfl, rfl, by decide +kernel, rfl, by decide +kernel, by decide +kernel⟩
def spPage (K : PySem.W.Frag) : Sp := fun vs H Q _ => ∃ (a b : Addr) (rows sent : List Str) (c : Nat), vs = [.ref a, .ref b, .int c] ∧ SqT K H a (rows.map V.str) ∧ SqT K H b (sent.map V.str) ∧ rows.length ≤ 1000 ∧
  ∀ H' p, Same H H' → H p = none → H' p = some (.tup ((pageL rows sent c).map V.str)) → Q (.ref p) H'
theorem same_t {K : PySem.W.Frag} {H H' : Hp} {a : Addr} {xs : List V} (e : Same H H') (h : SqT K H a xs) : SqT K H' a xs := by
  rcases h with (h | ⟨o, h⟩) | h
  · exact .inl (.inl (e _ _ h))
  · exact .inl (.inr ⟨o, e _ _ h⟩)
  · exact .inr h
theorem same_own {H H' : Hp} {p : Addr} {o : HO} (e : Same H H') (h : H p = none) : Same H (upd H' p o) := fun b x q => by
  rw [upd_ne (ne_of_none q h)]
  exact e b x q
section
variable {P : Program} {w : World} {K : PySem.W.Frag} {mg : Str → Option Value} {base : Heap}
theorem ok_page {f : Addr} {fd : FuncData} {k : Nat} (F : Fun K "page_of" "page_of" sPage f fd) (mt : mg "tuple" = none) : FnOk P w K mg base CX0 (k + 1) f fd ["version", "sent", "count"] (spPage K) := by
  refine F.ok scPage (fun vs H Q E h => ?_) (fun cdv A outer s H vs Q E hr h => ?_)
  · obtain ⟨a, b, rows, sent, c, rfl, _⟩ := h
    rfl
  · obtain ⟨a, b, rows, sent, c, rfl, hA, hB, hl, q⟩ := h
    refine ⟨_, pss_cons (ps_setLc (i := 3) (own := [("row", 4)]) (g := gName 4) (tt := tTest (tOp (rIn K true) (tVar 4) (tVar 1))) (te := tVar 4) (by rfl) scPage.nd rfl rfl (sw_true rfl rfl rfl (by decide +kernel)) (pi_tup (pv 0)) (blkOk_by (own := [("row", 4)]) (N := nPage) (sc := defScope sPage) (by decide +kernel))
        (fun _ _ _ _ _ => pg_name (i := 4) scPage.nd rfl (.inl rfl)) (fun _ _ _ _ _ => pts_one (pt_cmpR op_notIn_seq (pv 4) (pv 1) (by rfl))) (fun _ _ _ _ _ => pv 4))
      (pss_one (ps_ret (pe_callTy call_tuple_of (by rfl) mt (by decide +kernel) (pa_cons (pe_slice sl_list (pv 3) po_none (po_some (pv 2))) pa_nil)))), ?_⟩
    refine ⟨.ref a, rfl, a, rfl, ⟨_, hA⟩, fun D hD => lc_tup (xs := rows.map V.str) (fun i H' => Same H H' ∧ H' D = some (.lst (((rows.take i).filter fun r => !sent.contains r).map V.str))) ⟨same_new hD, by rw [upd_same]; rfl⟩ (fun i H' _ hP => same_t hP.1 hA) (fun i x H' hx hP => ?_) (fun H' hP => ?_)⟩
    · obtain ⟨p1, p2⟩ := hP
      rw [List.getElem?_map] at hx
      obtain ⟨y, hy, rfl⟩ := Option.map_eq_some_iff.mp hx
      refine ⟨rfl, _, rfl, _, rfl, b, _, rfl, .inr (same_t p1 hB), rfl, flat_strs sent, _, rfl, ?_⟩
      have e : (rows.take (i + 1)).filter (fun r => !sent.contains r) = (rows.take i).filter (fun r => !sent.contains r) ++ (if (!sent.contains y) = true then [y] else []) := by
        rw [List.take_add_one, hy, List.filter_append, Option.toList_some, List.filter_cons, List.filter_nil]
      show if (!inV (.str y) (sent.map V.str)) = true then _ else _
      rw [inV_strs]
      refine ite2 (fun h => ?_) (fun h => ?_)
      · refine ⟨_, rfl, _, p2, ?_, same_own p1 hD, ?_⟩
        · rw [List.length_map]
          exact small1000 (Nat.le_trans (List.length_filter_le _ _) (by rw [List.length_take]; omega))
        · rw [upd_same, e, if_pos h, List.map_append]
          rfl
      · refine ⟨p1, ?_⟩
        rw [e, if_neg h, List.append_nil]
        exact p2
    · obtain ⟨p1, p2⟩ := hP
      rw [List.length_map, List.take_length] at p2
      refine ⟨.ref D, rfl, _, rfl, c, rfl, D, _, rfl, SqL.of p2, fun l hl => ?_⟩
      refine ⟨l, _, rfl, .inl ⟨SqL.of upd_same, fun t ht => ?_⟩⟩
      have hlH : H l = none := p1.free hl
      have htH : H t = none := p1.free (by
        rw [upd_ne (ne_of_none upd_same ht).symm] at ht
        exact ht)
      refine q _ t (same_own (same_own p1 hlH) htH) htH ?_
      rw [upd_same, cut_to, ← List.map_take]
      rfl
end
end M
namespace M
open PySem PySem.Spec PyProof.Rows L2 Gd
/-! ### the mathematics of pages -/
theorem filter_take {F : List Str} (h : F.Nodup) (i : Nat) : F.filter (fun r => !(F.take i).contains r) = F.drop i := by
  have e : F = F.take i ++ F.drop i := (List.take_append_drop i F).symm
  have hd : (F.take i ++ F.drop i).Nodup := by rw [← e]; exact h
  have hx := List.nodup_append.mp hd
  have g : ∀ G : List Str, G = F.take i → F.filter (fun r => !G.contains r) = F.drop i := by
    intro G hG
    rw [e, List.filter_append]
    rw [← e]
    have e1 : (F.take i).filter (fun r => !G.contains r) = [] := by
      rw [List.filter_eq_nil_iff]
      intro r hr
      rw [hG]
      simp [List.contains_iff_mem, hr]
    have e2 : (F.drop i).filter (fun r => !G.contains r) = F.drop i := by
      rw [List.filter_eq_self]
      intro r hr
      rw [hG]
      have : r ∉ F.take i := fun z => hx.2.2 r z r hr rfl
      simp [List.contains_iff_mem, this]
    rw [e1, e2, List.nil_append]
  exact g _ rfl
theorem page_two {rows sm : List Str} (h : rows.Nodup) (i j : Nat) : pageL rows sm i ++ pageL rows (sm ++ pageL rows sm i) j = pageL rows sm (i + j) := by
  have hF : (rows.filter fun r => !sm.contains r).Nodup := h.sublist List.filter_sublist
  have e : (rows.filter fun r => !(sm ++ pageL rows sm i).contains r) = (rows.filter fun r => !sm.contains r).drop i := by
    rw [← filter_take hF i, List.filter_filter]
    refine List.filter_congr fun r _ => ?_
    unfold pageL
    rw [List.contains_append, Bool.not_or, Bool.and_comm]
  have e2 : pageL rows (sm ++ pageL rows sm i) j = ((rows.filter fun r => !sm.contains r).drop i).take j := by
    rw [← e]
    rfl
  rw [e2]
  unfold pageL
  rw [List.take_add]
theorem page_self (rows : List Str) (c : Nat) : pageL rows rows c = [] := by
  unfold pageL
  have e : rows.filter (fun r => !rows.contains r) = [] := by
    rw [List.filter_eq_nil_iff]
    intro r hr
    simp [List.contains_iff_mem, hr]
  rw [e, List.take_nil]
theorem page_off {rows sm : List Str} {c : Nat} {x : Str} (h : x ∈ pageL rows sm c) : sm.contains x = false := by
  have := List.mem_of_mem_take h
  have h2 := (List.mem_filter.mp this).2
  simpa using h2
theorem page_sub {rows sm : List Str} {c : Nat} {x : Str} (h : x ∈ pageL rows sm c) : x ∈ rows := (List.mem_filter.mp (List.mem_of_mem_take h)).1
/-! ### what texts show -/
theorem shown_strs : ∀ ns : List Str, PyData.shownAll (ns.map PyData.str) = ns.map reprText
  | [] => rfl
  | x :: ns => by
    show reprText x :: PyData.shownAll (ns.map PyData.str) = _
    rw [shown_strs ns]
    rfl
theorem showable_strs : ∀ ns : List Str, PyData.showableAll (ns.map PyData.str) = true
  | [] => rfl
  | x :: ns => by
    show (true && PyData.showableAll (ns.map PyData.str)) = true
    rw [showable_strs ns]
    rfl
theorem noDict_strs : ∀ ns : List Str, PyData.hasDictAll (ns.map PyData.str) = false
  | [] => rfl
  | x :: ns => by
    show (false || PyData.hasDictAll (ns.map PyData.str)) = false
    rw [noDict_strs ns]
    rfl
theorem sum_row : ∀ ns : List Str, (∀ z ∈ ns, RowS z) → ((ns.map reprText).map (·.length)).sum ≤ 82 * ns.length
  | [], _ => Nat.le_refl _
  | x :: ns, h => by
    have h1 := sum_row ns fun z hz => h z (List.mem_cons_of_mem _ hz)
    have h2 := StrLaws.reprText_len x (fun c hc => by
      have := (h x List.mem_cons_self).2.2 c hc
      omega)
    have h3 := (h x List.mem_cons_self).2.1
    simp only [List.map_cons, List.sum_cons, List.length_cons] at h1 ⊢
    omega
theorem shown_tup {ns : List Str} (h : ∀ z ∈ ns, RowS z) : (PyData.shown (.tuple (ns.map PyData.str))).length ≤ 84 * ns.length + 3 := by
  show (tupleText (PyData.shownAll (ns.map PyData.str))).length ≤ _
  rw [shown_strs]
  have h1 := tupleText_len_le (ns.map reprText)
  have h2 := sum_row ns h
  rw [List.length_map] at h1
  omega
theorem show_tup {K : PySem.W.Frag} {H : Hp} {p : Addr} {ns : List Str} {Q : VK} (hp : SqT K H p (ns.map V.str)) (h : ∀ z ∈ ns, RowS z) (hl : ns.length ≤ 1000) (q : Q (.str (PyData.shown (.tuple (ns.map PyData.str)))) H) : rShow K [.ref p] H Q := by
  refine ⟨.ref p, .tuple (ns.map PyData.str), rfl, .tup hp (dp_strs ns), showable_strs ns, noDict_strs ns, ?_, ?_, q⟩
  · show PyData.depthAll (ns.map PyData.str) + 1 ≤ 60
    rw [deep_strs]
    decide
  · have := shown_tup h
    have e : sizeLine = 16777216 := by decide
    omega
def two (xs ys : List Str) : PyData := .tuple [.tuple (xs.map PyData.str), .tuple (ys.map PyData.str)]
theorem show_two {K : PySem.W.Frag} {H : Hp} {p a b : Addr} {xs ys : List Str} {Q : VK} (hp : SqT K H p [.ref a, .ref b]) (ha : SqT K H a (xs.map V.str)) (hb : SqT K H b (ys.map V.str)) (h : ∀ z ∈ xs, RowS z) (h' : ∀ z ∈ ys, RowS z) (hl : xs.length ≤ 1000) (hl' : ys.length ≤ 1000)
    (q : Q (.str (two xs ys).shown) H) : rShow K [.ref p] H Q := by
  refine ⟨.ref p, two xs ys, rfl, .tup hp (.cons (.tup ha (dp_strs xs)) (.cons (.tup hb (dp_strs ys)) .nil)), ?_, ?_, ?_, ?_, q⟩
  · show (PyData.showableAll (xs.map PyData.str) && (PyData.showableAll (ys.map PyData.str) && true)) = true
    rw [showable_strs, showable_strs]
    rfl
  · show (PyData.hasDictAll (xs.map PyData.str) || (PyData.hasDictAll (ys.map PyData.str) || false)) = false
    rw [noDict_strs, noDict_strs]
    rfl
  · show max (PyData.depthAll (xs.map PyData.str) + 1) (max (PyData.depthAll (ys.map PyData.str) + 1) 0) + 1 ≤ 60
    rw [deep_strs, deep_strs]
    decide
  · have h1 := shown_tup h
    have h2 := shown_tup h'
    have h3 := tupleText_len_le [PyData.shown (.tuple (xs.map PyData.str)), PyData.shown (.tuple (ys.map PyData.str))]
    have e : sizeLine = 16777216 := by decide
    show (tupleText [PyData.shown (.tuple (xs.map PyData.str)), PyData.shown (.tuple (ys.map PyData.str))]).length ≤ _
    simp only [List.map_cons, List.map_nil, List.sum_cons, List.sum_nil, List.length_cons, List.length_nil] at h3
    omega
theorem catA_of {K : PySem.W.Frag} {H : Hp} {Q : VK} {a b : Addr} {xs ys : List Str} (ha : SqT K H a (xs.map V.str)) (hb : SqT K H b (ys.map V.str)) (hz : xs.length + ys.length ≤ 1000) (q : ∀ H' p, Same H H' → SqT K H' p ((xs ++ ys).map V.str) → Q (.ref p) H') : rCatA K (.ref a) (.ref b) H Q := by
  refine ⟨a, b, _, _, rfl, rfl, ha, hb, by rw [List.length_map, List.length_map]; exact sz1000 hz, fun e => ?_, fun _ e => ?_, fun _ _ p hp => ?_⟩
  · refine q H b (Same.refl H) ?_
    rw [List.map_append, e, List.nil_append]
    exact hb
  · refine q H a (Same.refl H) ?_
    rw [List.map_append, e, List.append_nil]
    exact ha
  · refine q _ p (same_new hp) ?_
    rw [List.map_append]
    exact SqT.of upd_same
theorem but_t {K : PySem.W.Frag} {H H' : Hp} {a v : Addr} {n : Nat} {xs : List V} (b : But a H H') (h : Hd H a n) (hv : SqT K H v xs) : SqT K H' v xs := by
  obtain ⟨ys, e⟩ := h.some
  rcases hv with (hv | ⟨o, hv⟩) | hv
  · exact .inl (.inl (b v _ (fun z => by rw [z, e] at hv; cases hv) hv))
  · exact .inl (.inr ⟨o, b v _ (fun z => by rw [z, e] at hv; cases hv) hv⟩)
  · exact .inr hv
theorem same_but {H H' : Hp} {a : Addr} (h : Same H H') : But a H H' := fun b o _ e => h b o e
theorem same_hd {H H' : Hp} {a : Addr} {n : Nat} (h : Same H H') (hd : Hd H a n) : Hd H' a n := by
  obtain ⟨g, s, t, e, r⟩ := hd
  exact ⟨g, s, t, h _ _ e, r⟩
theorem eqv_strs {ns : List Str} (h : ∀ z ∈ ns, RowS z) : PyData.eqv (.tuple (ns.map PyData.str)) (.tuple (ns.map PyData.str)) = true := SeqAt.eqv_refl _ (lay_strs ns fun z hz => (h z hz).ok)
end M
namespace M
open PySem PySem.Spec PyProof.Rows L2 Gd
/-! ### changed -/
def elseOf (s : Stmt) : List Stmt := match s with
  | .If _ _ e _ => e
  | _ => []
abbrev sChg : Stmt := topS 13
abbrev nChg : List Str := ["_law_hand_here", "_law_version", "_law_fresh", "_law_way", "_law_rows", "_law_row"]
theorem scChg : FnScope nChg ["_law_hand_here", "_law_version", "_law_fresh"] (defScope sChg) := ⟨rfl, rfl, rfl, by decide +kernel, rfl, by decide +kernel, by decide +kernel⟩
/-- all but what stands at a and at c is as it was -/
def But2 (a c : Addr) (H H' : Hp) : Prop := ∀ b o, b ≠ a → b ≠ c → H b = some o → H' b = some o
theorem But.two {a c : Addr} {H H' : Hp} (h : But a H H') : But2 a c H H' := fun b o n _ e => h b o n e
theorem But2.trans {a c : Addr} {H H1 H2 : Hp} (x : But2 a c H H1) (y : But2 a c H1 H2) : But2 a c H H2 := fun b o n m h => y b o n m (x b o n m h)
theorem But2.put {a c : Addr} {H H1 : Hp} {o : HO} (x : But2 a c H H1) : But2 a c H (upd H1 c o) := fun b u n m e => by
  rw [upd_ne m]
  exact x b u n m e
theorem But2.own {a c p : Addr} {H H1 : Hp} {o : HO} (x : But2 a c H H1) (h : H p = none) : But2 a c H (upd H1 p o) := fun b u n m e => by
  rw [upd_ne (ne_of_none e h)]
  exact x b u n m e
/-- what a change does: a fresh row comes, or a row may leave -/
def Chg (rows fresh rows' fresh' : List Str) : Prop := rows'.length ≤ 24 ∧ ((∃ x, fresh = x :: fresh' ∧ rows'.Perm (x :: rows)) ∨ (fresh' = fresh ∧ ∃ l, l.Sublist rows ∧ rows'.Perm l))
def spChg (K : PySem.W.Frag) : Sp := fun vs H Q _ => ∃ (a v c : Addr) (n : Nat) (rows fresh : List Str), vs = [.ref a, .ref v, .ref c] ∧ Hd H a n ∧ n < 900000 ∧ SqT K H v (rows.map V.str) ∧ c ≠ a ∧ H c = some (.lst (fresh.map V.str)) ∧ rows.length ≤ 24 ∧ fresh.length ≤ 30 ∧
  (∀ z ∈ rows, RowS z) ∧ (∀ z ∈ fresh, RowS z) ∧ ∀ H' p (rows' fresh' : List Str), But2 a c H H' → Hd H' a (n + 4) → H p = none → H' p = some (.tup (rows'.map V.str)) → H' c = some (.lst (fresh'.map V.str)) → Chg rows fresh rows' fresh' → Q (.ref p) H'
/-- what is known between two statements of the change: rows stands at r, fresh at c -/
structure Mid (H : Hp) (a c : Addr) (n : Nat) (H1 : Hp) (r : Addr) (rows fresh : List Str) : Prop where
  but : But2 a c H H1
  hd : Hd H1 a n
  new : H r = none
  ra : r ≠ a
  rc : r ≠ c
  ar : H1 r = some (.lst (rows.map V.str))
  ac : H1 c = some (.lst (fresh.map V.str))
theorem Mid.up {H H1 : Hp} {a c r : Addr} {n m : Nat} {rows fresh : List Str} (M : Mid H a c n H1 r rows fresh) (h : n ≤ m) : Mid H a c m H1 r rows fresh := ⟨M.but, M.hd.up h, M.new, M.ra, M.rc, M.ar, M.ac⟩
theorem Mid.laid {H H1 : Hp} {a c r p : Addr} {n : Nat} {o : HO} {rows fresh : List Str} (M : Mid H a c n H1 r rows fresh) (hp : H1 p = none) : Mid H a c n (upd H1 p o) r rows fresh :=
  ⟨fun b u x y e => by
    have z := M.but b u x y e
    rw [upd_ne (ne_of_none z hp)]
    exact z, M.hd.new hp, M.new, M.ra, M.rc, by rw [upd_ne (ne_of_none M.ar hp)]; exact M.ar, by rw [upd_ne (ne_of_none M.ac hp)]; exact M.ac⟩
theorem Mid.took {H H1 H2 : Hp} {a c r : Addr} {n m : Nat} {rows fresh : List Str} (M : Mid H a c n H1 r rows fresh) (nca : c ≠ a) (b : But a H1 H2) (h : Hd H2 a m) : Mid H a c m H2 r rows fresh :=
  ⟨M.but.trans b.two, h, M.new, M.ra, M.rc, b _ _ M.ra M.ar, b _ _ nca M.ac⟩
theorem Mid.row {H H1 : Hp} {a c r : Addr} {n : Nat} {rows rows' fresh : List Str} (M : Mid H a c n H1 r rows fresh) : Mid H a c n (upd H1 r (.lst (rows'.map V.str))) r rows' fresh :=
  ⟨M.but.own M.new, M.hd.oth M.ra, M.new, M.ra, M.rc, upd_same, by rw [upd_ne M.rc.symm]; exact M.ac⟩
theorem Mid.frs {H H1 : Hp} {a c r : Addr} {n : Nat} {rows fresh fresh' : List Str} (M : Mid H a c n H1 r rows fresh) (nca : c ≠ a) : Mid H a c n (upd H1 c (.lst (fresh'.map V.str))) r rows fresh' :=
  ⟨M.but.put, M.hd.oth nca, M.new, M.ra, M.rc, by rw [upd_ne M.rc]; exact M.ar, upd_same⟩
theorem Mid.free {H H1 : Hp} {a c r t : Addr} {n : Nat} {rows fresh fr0 : List Str} (M : Mid H a c n H1 r rows fresh) (hc : H c = some (.lst (fr0.map V.str))) (ht : H1 t = none) (hh : ∃ m, Hd H a m) : H t = none := by
  cases e : H t with
  | none => rfl
  | some o =>
    have z := M.but t o (M.hd.ne ht) (fun q => by rw [q, M.ac] at ht; cases ht) e
    rw [z] at ht
    cases ht
/-- fresh != [], rows != [] -/
theorem ne_nil {K : PySem.W.Frag} {H : Hp} {r : Addr} {rows : List Str} {Q : VK} (e : H r = some (.lst (rows.map V.str))) (h : ∀ z ∈ rows, RowS z) (q : ∀ p, H p = none → Q (.bl (!rows.isEmpty)) (upd H p (.lst []))) :
    ∀ p, H p = none → rNeD K (.ref r) (.ref p) (upd H p (.lst [])) Q := fun p hp => by
  refine ⟨.list (rows.map PyData.str), .list [], .lst (SqL.of (by rw [upd_ne (ne_of_none e hp)]; exact e)) (dp_strs rows), .lst (SqL.of upd_same) .nil, shaped_lst fun z hz => (h z hz).ok, rfl, ?_⟩
  have z := q p hp
  cases rows with
  | nil => exact z
  | cons x l => exact z
theorem ins_map (xs : List Str) (i : Nat) (x : Str) : (xs.map V.str).take i ++ [V.str x] ++ (xs.map V.str).drop i = (xs.take i ++ [x] ++ xs.drop i).map V.str := by
  rw [List.map_append, List.map_append, List.map_take, List.map_drop]
  rfl
theorem ins_perm (xs : List Str) (i : Nat) (x : Str) : (xs.take i ++ [x] ++ xs.drop i).Perm (x :: xs) := by
  have h : (xs.take i ++ x :: xs.drop i).Perm (x :: (xs.take i ++ xs.drop i)) := List.perm_middle
  rw [List.take_append_drop] at h
  rw [List.append_assoc]
  exact h
section
variable {P : Program} {w : World} {K : PySem.W.Frag} {mg : Str → Option Value} {base : Heap}
theorem ok_chg {f fT fP : Addr} {fd fdT fdP : FuncData} {k : Nat} (F : Fun K "_law_changed" "_law_changed" sChg f fd) (FT : Fun K "_law_take" "_law_take" sTake fT fdT) (bT : Binds K fdT ["_law_hand_here", "_law_many"] []) (gT : mg "_law_take" = some (.ref fT))
    (FP : Fun K "_law_pick" "_law_pick" sPick fP fdP) (bP : Binds K fdP ["_law_hand_here", "_law_items"] []) (gP : mg "_law_pick" = some (.ref fP)) (ml : mg "len" = none) (mli : mg "list" = none) (mt : mg "tuple" = none) :
    FnOk P w K mg base CX0 (k + 3) f fd ["_law_hand_here", "_law_version", "_law_fresh"] (spChg K) := by
  have GT : FnOk P w K mg base CX0 (k + 2) fT fdT ["_law_hand_here", "_law_many"] spTake := ok_take FT
  have GP : FnOk P w K mg base CX0 (k + 2) fP fdP ["_law_hand_here", "_law_items"] spPick := ok_pick FP FT bT gT ml
  refine F.ok scChg (fun vs H Q E h => ?_) (fun cdv A outer s H vs Q E hr h => ?_)
  · obtain ⟨a, v, c, n, rows, fresh, rfl, _⟩ := h
    rfl
  · obtain ⟨a, v, c, n, rows, fresh, rfl, hh, hn, hV, nca, hc, l1, l2, r1, r2, q⟩ := h
    -- the elif of way 2, and the last one
    obtain ⟨t2, h2, e2⟩ : ∃ t2, PSs (cxOf CX0 P w K mg base nChg "_law_changed" (defScope sChg) f cdv A outer s H E).nox (elseOf ((elseOf ((defBody sChg).getD 1 (.Pass ⟨0, 0, 0, 0⟩))).getD 0 (.Pass ⟨0, 0, 0, 0⟩))) t2 ∧
        ∀ (D : Ends) (way : Int) (r : Addr) (y : Option V) (H1 : Hp), Mid H a c (n + 1) H1 r rows fresh → (∀ r' y' H2 rows', Mid H a c (n + 4) H2 r' rows' fresh → (∃ l, l.Sublist rows ∧ rows'.Perm l) → D.nx [some (.ref a), some (.ref v), some (.ref c), some (.int way), some (.ref r'), y'] H2) →
          t2 D [some (.ref a), some (.ref v), some (.ref c), some (.int way), some (.ref r), y] H1 := by
      refine ⟨_, pss_one (ps_if (pt_cmpR op_eq (pv 3) pe_int (nomark _)) (pss_one (ps_set (i := 4) scChg.nd rfl (.inl rfl) (pe_revL (pv 4))))
        (pss_one (ps_if (pt_cmpR (op_neD hr.units) (pv 4) (pe_lst pa_nil) (nomark _))
          (pss_cons (ps_set (i := 5) scChg.nd rfl (.inl rfl) (pe_bm PySem.F.plainAttrs_list PySem.F.slot_list_pop PySem.F.type_list_pop mt_popAt (pv 4) (pa_cons (pe_call GT hr (by rfl) gT FT.kp bT .nil pass0 (pa_cons (pv 0) (pa_cons (pe_callB call_len (by rfl) ml PySem.boot_len (pa_cons (pv 4) pa_nil)) pa_nil))) pa_nil)))
          (pss_one (ps_expr (pe_bm PySem.F.plainAttrs_list PySem.F.slot_list_insert PySem.F.type_list_insert mt_insert (pv 4) (pa_cons (pe_call GP hr (by rfl) gP FP.kp bP .nil pass0 (pa_cons (pv 0) (pa_cons (pe_lst (pa_cons pe_int (pa_cons (pe_call GT hr (by rfl) gT FT.kp bT .nil pass0 (pa_cons (pv 0) (pa_cons (pe_op op_add (pe_callB call_len (by rfl) ml PySem.boot_len (pa_cons (pv 4) pa_nil)) pe_int) pa_nil))) (pa_cons (pe_callB call_len (by rfl) ml PySem.boot_len (pa_cons (pv 4) pa_nil)) pa_nil)))) pa_nil))) (pa_cons (pv 5) pa_nil)))))) pss_nil))), ?_⟩
      intro D way r y H1 M fin
      refine ⟨_, rfl, rfl, _, rfl, ite2 (fun h0 => ?_) (fun h0 => ?_)⟩
      · refine ⟨.ref r, rfl, r, _, rfl, SqL.of M.ar, fun p hp => ?_⟩
        have M2 := (M.laid (o := .lst (rows.map V.str).reverse) hp).up (show n + 1 ≤ n + 4 by omega)
        have npH := M.free hc hp ⟨n, hh⟩
        refine fin p y _ rows.reverse ⟨M2.but, M2.hd, npH, M.hd.ne hp, fun z => ?_, ?_, M2.ac⟩ ⟨rows, List.Sublist.refl _, List.reverse_perm rows⟩
        · rw [z, M.ac] at hp
          cases hp
        · rw [upd_same, List.map_reverse]
      · refine ⟨.ref r, rfl, Nat.zero_le _, fun p hp => ?_⟩
        refine ne_nil (K := K) M.ar r1 (fun p hp => ?_) p hp
        have M2 := M.laid (o := .lst []) hp
        generalize upd H1 p (.lst []) = H2 at M2 ⊢
        refine ⟨_, rfl, ?_⟩
        cases rows with
        | nil => exact iteF (fin r y H2 [] (M2.up (by omega)) ⟨[], List.Sublist.refl _, List.Perm.refl _⟩)
        | cons x xs =>
          refine iteT ?_
          have hlen : ((x :: xs).map V.str).length = xs.length + 1 := by rw [List.length_map, List.length_cons]
          have l1' : xs.length + 1 ≤ 24 := l1
          -- row = rows.pop(..)
          refine ⟨.ref r, rfl, .inl ⟨rfl, _, SqL.of M2.ar⟩, .ref a, rfl, .ref r, rfl, _, xs.length + 1, rfl, .inl ⟨_, SqL.of M2.ar, hlen.symm⟩, a, n + 1, _, rfl, M2.hd, by omega, by omega, by omega, fun H3 i sb3 h3 i0 i1 => ?_⟩
          have M3 := M2.took nca sb3 h3
          have hk : i.toNat < (x :: xs).length := by rw [List.length_cons]; omega
          have g : ((x :: xs).map V.str)[i.toNat]? = some (.str (x :: xs)[i.toNat]) := by
            rw [List.getElem?_map, List.getElem?_eq_getElem hk]
            rfl
          refine ⟨r, _, i, i.toNat, _, rfl, rfl, M3.ar, by omega, by omega, seq_at i0 (by rw [hlen]; omega), g, ?_⟩
          rw [er_map]
          have M4 := M3.row (rows' := (x :: xs).eraseIdx i.toNat)
          generalize upd H3 r (.lst (((x :: xs).eraseIdx i.toNat).map V.str)) = H4 at M4 ⊢
          have le : ((x :: xs).eraseIdx i.toNat).length = xs.length := by
            rw [List.length_eraseIdx, if_pos hk, List.length_cons]
            omega
          -- rows.insert(..)
          refine ⟨.ref r, rfl, .inl ⟨rfl, _, SqL.of M4.ar⟩, .ref a, rfl, .ref a, rfl, .ref r, rfl, _, xs.length, rfl, .inl ⟨_, SqL.of M4.ar, by rw [List.length_map, le]⟩, _, 1, rfl, rfl, a, n + 2, _, rfl, M4.hd, by omega, by omega, by omega, fun H5 j sb5 h5 j0 j1 => ?_⟩
          have M5 := M4.took nca sb5 h5
          refine ⟨.ref r, rfl, _, xs.length, rfl, .inl ⟨_, SqL.of M5.ar, by rw [List.length_map, le]⟩, (by show 3 ≤ sizeLine; decide), fun l6 hl6 => ?_⟩
          refine ⟨a, n + 3, .ref l6, rfl, M5.hd.new hl6, by omega, .inl ⟨l6, _, rfl, M5.hd.ne hl6, .inl upd_same, (by show 0 < 3; decide), (by show 3 ≤ 1000; decide), fun H7 v7 sb7 h7 hv7 => ?_⟩⟩
          have M7 := (M5.laid hl6).took nca sb7 h7
          obtain ⟨m, rfl, hm⟩ : ∃ m : Nat, v7 = .int m ∧ m ≤ 24 := by
            simp only [List.mem_cons, List.not_mem_nil, or_false] at hv7
            rcases hv7 with rfl | rfl | rfl
            · exact ⟨0, rfl, by omega⟩
            · obtain ⟨j', rfl⟩ := Int.eq_ofNat_of_zero_le j0
              exact ⟨j', rfl, by omega⟩
            · exact ⟨xs.length, rfl, by omega⟩
          refine ⟨_, rfl, r, _, m, _, rfl, rfl, M7.ar, ?_, by omega, by omega, ?_⟩
          · rw [List.length_map, le]
            exact small1000 (by omega)
          · rw [Int.toNat_natCast, ins_map]
            refine fin r _ _ _ M7.row ⟨(x :: xs), List.Sublist.refl _, ?_⟩
            exact (ins_perm _ _ _).trans (er_perm hk)
    -- the elif of way 1
    obtain ⟨t1, h1, e1⟩ : ∃ t1, PSs (cxOf CX0 P w K mg base nChg "_law_changed" (defScope sChg) f cdv A outer s H E).nox (elseOf ((defBody sChg).getD 1 (.Pass ⟨0, 0, 0, 0⟩))) t1 ∧
        ∀ (D : Ends) (way : Int) (r : Addr) (y : Option V) (H1 : Hp), Mid H a c (n + 1) H1 r rows fresh → (∀ r' y' H2 rows', Mid H a c (n + 4) H2 r' rows' fresh → (∃ l, l.Sublist rows ∧ rows'.Perm l) → D.nx [some (.ref a), some (.ref v), some (.ref c), some (.int way), some (.ref r'), y'] H2) →
          t1 D [some (.ref a), some (.ref v), some (.ref c), some (.int way), some (.ref r), y] H1 := by
      refine ⟨_, pss_one (ps_if (PW.pt (pw_and (pt_cmpR op_eq (pv 3) pe_int (nomark _)) (pw_and1 (pt_cmpR (op_neD hr.units) (pv 4) (pe_lst pa_nil) (nomark _)))))
        (pss_one (ps_expr (pe_bm PySem.F.plainAttrs_list PySem.F.slot_list_pop PySem.F.type_list_pop mt_popAt (pv 4) (pa_cons (pe_call GT hr (by rfl) gT FT.kp bT .nil pass0 (pa_cons (pv 0) (pa_cons (pe_callB call_len (by rfl) ml PySem.boot_len (pa_cons (pv 4) pa_nil)) pa_nil))) pa_nil)))) h2), ?_⟩
      intro D way r y H1 M fin
      refine ⟨_, rfl, rfl, _, rfl, ite2 (fun h0 => ?_) (fun h0 => iteF (e2 D way r y H1 M fin))⟩
      refine ⟨.ref r, rfl, Nat.zero_le _, fun p hp => ?_⟩
      refine ne_nil (K := K) M.ar r1 (fun p hp => ?_) p hp
      have M2 := M.laid (o := .lst []) hp
      generalize upd H1 p (.lst []) = H2 at M2 ⊢
      refine ⟨_, rfl, ?_⟩
      cases hrows : rows with
      | nil => exact iteF (e2 D way r y H2 M2 fin)
      | cons x xs =>
        refine iteT ?_
        rw [hrows] at M2 l1 fin
        have hlen : ((x :: xs).map V.str).length = xs.length + 1 := by rw [List.length_map, List.length_cons]
        have l1' : xs.length + 1 ≤ 24 := l1
        refine ⟨.ref r, rfl, .inl ⟨rfl, _, SqL.of M2.ar⟩, .ref a, rfl, .ref r, rfl, _, xs.length + 1, rfl, .inl ⟨_, SqL.of M2.ar, hlen.symm⟩, a, n + 1, _, rfl, M2.hd, by omega, by omega, by omega, fun H3 i sb3 h3 i0 i1 => ?_⟩
        have M3 := M2.took nca sb3 h3
        have hk : i.toNat < (x :: xs).length := by rw [List.length_cons]; omega
        have g : ((x :: xs).map V.str)[i.toNat]? = some (.str (x :: xs)[i.toNat]) := by
          rw [List.getElem?_map, List.getElem?_eq_getElem hk]
          rfl
        refine ⟨r, _, i, i.toNat, _, rfl, rfl, M3.ar, by omega, by omega, seq_at i0 (by rw [hlen]; omega), g, ?_⟩
        rw [er_map]
        exact fin r y _ _ (M3.row.up (by omega)) ⟨_, List.eraseIdx_sublist _ _, List.Perm.refl _⟩
    refine ⟨_, pss_cons (ps_par (i := 3) (j := 4) (by rfl) scChg.nd rfl rfl (by decide) rfl rfl (pa_cons (pe_call GT hr (by rfl) gT FT.kp bT .nil pass0 (pa_cons (pv 0) (pa_cons pe_int pa_nil))) (pa_cons (pe_callTy call_list_of (by rfl) mli (by decide +kernel) (pa_cons (pv 1) pa_nil)) pa_nil)) (by rfl))
      (pss_cons (ps_if (PW.pt (pw_and (pt_cmpR op_eq (pv 3) pe_int (nomark _)) (pw_and (pt_cmpR (op_neD hr.units) (pv 2) (pe_lst pa_nil) (nomark _)) (pw_and1 (pt_cmpR op_lt (pe_callB call_len (by rfl) ml PySem.boot_len (pa_cons (pv 4) pa_nil)) pe_int (nomark _))))))
        (pss_one (ps_expr (pe_bm PySem.F.plainAttrs_list PySem.F.slot_list_insert PySem.F.type_list_insert mt_insert (pv 4) (pa_cons (pe_call GT hr (by rfl) gT FT.kp bT .nil pass0 (pa_cons (pv 0) (pa_cons (pe_op op_add (pe_callB call_len (by rfl) ml PySem.boot_len (pa_cons (pv 4) pa_nil)) pe_int) pa_nil)))
          (pa_cons (pe_bm PySem.F.plainAttrs_list PySem.F.slot_list_pop PySem.F.type_list_pop mt_popAt (pv 2) (pa_cons pe_int pa_nil)) pa_nil))))) h1)
      (pss_one (ps_ret (pe_callTy call_tuple_of (by rfl) mt (by decide +kernel) (pa_cons (pv 4) pa_nil))))), ?_⟩
    -- way, rows
    refine ⟨.ref a, rfl, a, n, 10, rfl, hh, by omega, by decide, by decide, fun H1 way sb1 hd1 _ _ => ?_⟩
    refine ⟨.ref v, rfl, v, _, rfl, .inr (but_t sb1 hh hV), fun r hrr => ?_⟩
    refine ⟨_, _, rfl, ?_⟩
    have nra : r ≠ a := hd1.ne hrr
    have hc1 := sb1 c _ nca hc
    have nrc : r ≠ c := fun z => by
      rw [z, hc1] at hrr
      cases hrr
    have M0 : Mid H a c (n + 1) (upd H1 r (.lst (rows.map V.str))) r rows fresh := ⟨(sb1.new hrr).two, hd1.new hrr, fr sb1 hh hd1 hrr, nra, nrc, upd_same, by rw [upd_ne nrc.symm]; exact hc1⟩
    generalize upd H1 r (.lst (rows.map V.str)) = H2 at M0 ⊢
    have fin : ∀ (r' : Addr) (y' : Option V) (H2 : Hp) (rows' fresh' : List Str), Mid H a c (n + 4) H2 r' rows' fresh' → Chg rows fresh rows' fresh' → ∃ x, ([some (.ref a), some (.ref v), some (.ref c), some (.int way), some (.ref r'), y'] : L2.St)[4]? = some (some x) ∧ ∃ p ys, [x] = [V.ref p] ∧ ((SqL K H2 p ys ∧ ∀ l, H2 l = none → Q (.ref l) (upd H2 l (.tup ys))) ∨ (SqT K H2 p ys ∧ Q (.ref p) H2)) := by
      intro r' y' H3 rows' fresh' M3 ch
      refine ⟨.ref r', rfl, r', _, rfl, .inl ⟨SqL.of M3.ar, fun t ht => ?_⟩⟩
      have htH := M3.free hc ht ⟨n, hh⟩
      have M4 := M3.laid (o := .tup (rows'.map V.str)) ht
      exact q _ t rows' fresh' M4.but M4.hd htH upd_same M4.ac ch
    have fin1 : ∀ r' y' H2 rows', Mid H a c (n + 4) H2 r' rows' fresh → (∃ l, l.Sublist rows ∧ rows'.Perm l) → ∃ x, ([some (.ref a), some (.ref v), some (.ref c), some (.int way), some (.ref r'), y'] : L2.St)[4]? = some (some x) ∧ ∃ p ys, [x] = [V.ref p] ∧ ((SqL K H2 p ys ∧ ∀ l, H2 l = none → Q (.ref l) (upd H2 l (.tup ys))) ∨ (SqT K H2 p ys ∧ Q (.ref p) H2)) := by
      rintro r' y' H3 rows' M3 ⟨l, hl, pl⟩
      refine fin r' y' H3 rows' fresh M3 ⟨?_, .inr ⟨rfl, l, hl, pl⟩⟩
      rw [pl.length_eq]
      exact Nat.le_trans hl.length_le l1
    refine ⟨_, rfl, rfl, _, rfl, ite2 (fun h0 => ?_) (fun h0 => iteF (e1 _ way r none H2 M0 fin1))⟩
    refine ⟨.ref c, rfl, Nat.zero_le _, fun p hp => ?_⟩
    refine ne_nil (K := K) M0.ac r2 (fun p hp => ?_) p hp
    have M2 := M0.laid (o := .lst []) hp
    generalize upd H2 p (.lst []) = H3 at M2 ⊢
    refine ⟨_, rfl, ?_⟩
    cases hf : fresh with
    | nil => exact iteF (e1 _ way r none H3 M2 fin1)
    | cons x fs =>
      refine iteT ?_
      refine ⟨.ref r, rfl, _, rows.length, rfl, .inl ⟨_, SqL.of M2.ar, (List.length_map ..).symm⟩, _, 24, rfl, rfl, _, rfl, ite2 (fun h1 => ?_) (fun h1 => e1 _ way r none H3 M2 fin1)⟩
      have h1 : (rows.length : Int) < 24 := of_decide_eq_true h1
      refine ⟨.ref r, rfl, .inl ⟨rfl, _, SqL.of M2.ar⟩, .ref a, rfl, .ref r, rfl, _, rows.length, rfl, .inl ⟨_, SqL.of M2.ar, (List.length_map ..).symm⟩, _, 1, rfl, rfl, a, n + 1, _, rfl, M2.hd, by omega, by omega, by omega, fun H4 i sb4 h4 i0 i1 => ?_⟩
      have M4 := M2.took nca sb4 h4
      obtain ⟨m, rfl⟩ := Int.eq_ofNat_of_zero_le i0
      have hac := M4.ac
      rw [hf] at hac
      refine ⟨.ref c, rfl, .inl ⟨rfl, _, SqL.of hac⟩, c, _, 0, 0, .str x, rfl, rfl, hac, by decide, by decide, seq_at (Int.le_refl 0) (by rw [List.length_map, List.length_cons]; omega), rfl, ?_⟩
      have M5 := M4.frs (fresh' := fs) nca
      refine ⟨r, _, m, _, rfl, rfl, M5.ar, ?_, by omega, by omega, ?_⟩
      · rw [List.length_map]
        exact small1000 (by omega)
      · rw [Int.toNat_natCast, ins_map]
        refine fin r none _ _ fs (M5.row.up (by omega)) ⟨?_, .inl ⟨x, hf, ins_perm _ _ _⟩⟩
        rw [(ins_perm rows m x).length_eq, List.length_cons]
        omega
end
end M
namespace M
open PySem PySem.Spec PyProof.Rows L2 Gd
/-! ### histories -/
/-- the versions of a history, as the items of a list or tuple -/
def VsAt (K : PySem.W.Frag) (H : Hp) : List V → List (List Str) → Prop
  | [], [] => True
  | x :: xs, v :: vs => (∃ a, x = .ref a ∧ SqT K H a (v.map V.str)) ∧ VsAt K H xs vs
  | _, _ => False
theorem VsAt.keep {K : PySem.W.Frag} {H H' : Hp} (k : ∀ b ys, SqT K H b ys → SqT K H' b ys) : ∀ {xs : List V} {vs : List (List Str)}, VsAt K H xs vs → VsAt K H' xs vs
  | [], [], _ => trivial
  | _ :: _, _ :: _, ⟨⟨a, e, h⟩, r⟩ => ⟨⟨a, e, k _ _ h⟩, VsAt.keep k r⟩
theorem VsAt.len {K : PySem.W.Frag} {H : Hp} : ∀ {xs : List V} {vs : List (List Str)}, VsAt K H xs vs → xs.length = vs.length
  | [], [], _ => rfl
  | _ :: _, _ :: _, ⟨_, r⟩ => by rw [List.length_cons, List.length_cons, VsAt.len r]
theorem VsAt.get {K : PySem.W.Frag} {H : Hp} : ∀ {xs : List V} {vs : List (List Str)} {i : Nat} {v : List Str}, VsAt K H xs vs → vs[i]? = some v → ∃ a, xs[i]? = some (.ref a) ∧ SqT K H a (v.map V.str)
  | [], [], _, _, _, g => by simp at g
  | x :: _, u :: _, 0, v, ⟨⟨a, e, h⟩, _⟩, g => by
    have g : u = v := Option.some.inj g
    subst g e
    exact ⟨a, rfl, h⟩
  | _ :: xs, _ :: vs, i + 1, v, ⟨_, r⟩, g => VsAt.get (i := i) r g
theorem VsAt.snoc {K : PySem.W.Frag} {H : Hp} {a : Addr} {v : List Str} (h : SqT K H a (v.map V.str)) : ∀ {xs : List V} {vs : List (List Str)}, VsAt K H xs vs → VsAt K H (xs ++ [.ref a]) (vs ++ [v])
  | [], [], _ => ⟨⟨a, rfl, h⟩, trivial⟩
  | _ :: _, _ :: _, ⟨e, r⟩ => ⟨e, VsAt.snoc h r⟩
theorem VsAt.dp {K : PySem.W.Frag} {H : Hp} : ∀ {xs : List V} {vs : List (List Str)}, VsAt K H xs vs → DpAll K H xs (vs.map fun v => PyData.tuple (v.map PyData.str))
  | [], [], _ => .nil
  | _ :: _, v :: _, ⟨⟨a, e, h⟩, r⟩ => by
    subst e
    exact .cons (.tup h (dp_strs v)) (VsAt.dp r)
def HistAt (K : PySem.W.Frag) (H : Hp) (p : Addr) (hs : List (List Str)) : Prop := ∃ xs, SqT K H p xs ∧ VsAt K H xs hs
theorem HistAt.keep {K : PySem.W.Frag} {H H' : Hp} {p : Addr} {hs : List (List Str)} (k : ∀ b ys, SqT K H b ys → SqT K H' b ys) (h : HistAt K H p hs) : HistAt K H' p hs := by
  obtain ⟨xs, h1, h2⟩ := h
  exact ⟨xs, k _ _ h1, h2.keep k⟩
theorem HistAt.same {K : PySem.W.Frag} {H H' : Hp} {p : Addr} {hs : List (List Str)} (s : Same H H') (h : HistAt K H p hs) : HistAt K H' p hs := h.keep fun _ _ => same_t s
theorem HistAt.but {K : PySem.W.Frag} {H H' : Hp} {p a : Addr} {n : Nat} {hs : List (List Str)} (b : But a H H') (hd : Hd H a n) (h : HistAt K H p hs) : HistAt K H' p hs := h.keep fun _ _ => but_t b hd
theorem upd_t {K : PySem.W.Frag} {H : Hp} {l b : Addr} {z ys : List V} {o : HO} (hl : H l = some (.lst z)) (h : SqT K H b ys) : SqT K (upd H l o) b ys := by
  rcases h with (h | ⟨u, h⟩) | h
  · exact .inl (.inl (by rw [upd_ne (fun e => by rw [e, hl] at h; cases h)]; exact h))
  · exact .inl (.inr ⟨u, by rw [upd_ne (fun e => by rw [e, hl] at h; cases h)]; exact h⟩)
  · exact .inr h
theorem but2_t {K : PySem.W.Frag} {H H' : Hp} {a c v : Addr} {n : Nat} {z xs : List V} (b : But2 a c H H') (h : Hd H a n) (hc : H c = some (.lst z)) (hv : SqT K H v xs) : SqT K H' v xs := by
  obtain ⟨ys, e⟩ := h.some
  rcases hv with (hv | ⟨o, hv⟩) | hv
  · exact .inl (.inl (b v _ (fun z => by rw [z, e] at hv; cases hv) (fun z => by rw [z, hc] at hv; cases hv) hv))
  · exact .inl (.inr ⟨o, b v _ (fun z => by rw [z, e] at hv; cases hv) (fun z => by rw [z, hc] at hv; cases hv) hv⟩)
  · exact .inr hv
def NoRet (hs : List (List Str)) : Prop := ∀ (i j k : Nat) (u v w : List Str), i < j → j < k → hs[i]? = some u → hs[j]? = some v → hs[k]? = some w → ∀ x ∈ u, x ∉ v → x ∉ w
structure VerOk (v : List Str) : Prop where
  nd : v.Nodup
  len : v.length ≤ 24
  row : ∀ z ∈ v, RowS z
structure HistOk (hs : List (List Str)) : Prop where
  ne : hs ≠ []
  ver : ∀ v ∈ hs, VerOk v
  ret : NoRet hs
/-- a history that grows, and the rows that have not come yet -/
structure Grow (names : List Str) (hs : List (List Str)) (fresh : List Str) : Prop where
  ok : HistOk hs
  fnd : fresh.Nodup
  off : ∀ v ∈ hs, ∀ z ∈ v, z ∉ fresh
  inn : ∀ v ∈ hs, ∀ z ∈ v, z ∈ names
  fin : ∀ z ∈ fresh, z ∈ names
  row : ∀ z ∈ names, RowS z
theorem snoc_get {α : Type} {l : List α} {x y : α} {i : Nat} (h : (l ++ [x])[i]? = some y) : (i < l.length ∧ l[i]? = some y) ∨ (i = l.length ∧ x = y) := by
  by_cases hi : i < l.length
  · rw [List.getElem?_append_left hi] at h
    exact .inl ⟨hi, h⟩
  · rw [List.getElem?_append_right (by omega)] at h
    by_cases e : i - l.length = 0
    · rw [e] at h
      exact .inr ⟨by omega, Option.some.inj h⟩
    · obtain ⟨d, hd⟩ : ∃ d, i - l.length = d + 1 := ⟨i - l.length - 1, by omega⟩
      rw [hd] at h
      cases h
theorem Grow.step {names : List Str} {hs : List (List Str)} {fresh last rows' fresh' : List Str} (G : Grow names hs fresh) (hl : hs.getLast? = some last) (C : Chg last fresh rows' fresh') : Grow names (hs ++ [rows']) fresh' := by
  have lm : last ∈ hs := List.mem_of_getLast? hl
  have L := G.ok.ver last lm
  obtain ⟨len', C⟩ := C
  -- a row of the new version is a fresh one or one of the last
  have src : ∀ z ∈ rows', (z ∈ fresh ∧ z ∉ fresh') ∨ (z ∈ last ∧ z ∉ fresh') := by
    rcases C with ⟨x, e, pm⟩ | ⟨e, l, sl, pm⟩
    · intro z hz
      have hf := G.fnd
      rw [e] at hf
      rcases List.mem_cons.mp (pm.subset hz) with h | h
      · rw [h, e]
        exact .inl ⟨List.mem_cons_self, (List.nodup_cons.mp hf).1⟩
      · exact .inr ⟨h, fun q => G.off last lm z h (by rw [e]; exact List.mem_cons_of_mem _ q)⟩
    · intro z hz
      have h := sl.subset (pm.subset hz)
      exact .inr ⟨h, fun q => G.off last lm z h (by rw [← e]; exact q)⟩
  have nd' : rows'.Nodup := by
    rcases C with ⟨x, e, pm⟩ | ⟨e, l, sl, pm⟩
    · refine pm.nodup_iff.mpr (List.nodup_cons.mpr ⟨fun q => G.off last lm x q (by rw [e]; exact List.mem_cons_self), L.nd⟩)
    · exact pm.nodup_iff.mpr (L.nd.sublist sl)
  have sub' : ∀ z ∈ fresh', z ∈ fresh := by
    rcases C with ⟨x, e, pm⟩ | ⟨e, l, sl, pm⟩
    · intro z hz
      rw [e]
      exact List.mem_cons_of_mem _ hz
    · intro z hz
      rw [← e]
      exact hz
  have inn' : ∀ z ∈ rows', z ∈ names := fun z hz => (src z hz).elim (fun h => G.fin z h.1) fun h => G.inn last lm z h.1
  refine ⟨⟨?_, ?_, ?_⟩, ?_, ?_, ?_, fun z hz => G.fin z (sub' z hz), G.row⟩
  · intro z
    cases hs <;> cases z
  · intro v hv
    rcases List.mem_append.mp hv with h | h
    · exact G.ok.ver v h
    · rw [List.mem_singleton.mp h]
      exact ⟨nd', len', fun z hz => G.row z (inn' z hz)⟩
  · intro i j k u v w ij jk hu hv hw x xu xv
    rcases snoc_get hw with ⟨hk, ew⟩ | ⟨hk, ew⟩
    · rw [List.getElem?_append_left (by omega)] at hu hv
      exact G.ok.ret i j k u v w ij jk hu hv ew x xu xv
    · rw [List.getElem?_append_left (by omega)] at hu hv
      subst ew
      intro xw
      have um := List.mem_of_getElem? hu
      rcases src x xw with h | h
      · exact G.off u um x xu h.1
      · rw [List.getLast?_eq_getElem?] at hl
        by_cases e : j = hs.length - 1
        · rw [← e, hv] at hl
          cases hl
          exact xv h.1
        · exact G.ok.ret i j (hs.length - 1) u v last ij (by omega) hu hv hl x xu xv h.1
  · rcases C with ⟨x, e, pm⟩ | ⟨e, l, sl, pm⟩
    · have hf := G.fnd
      rw [e] at hf
      exact (List.nodup_cons.mp hf).2
    · rw [e]
      exact G.fnd
  · intro v hv z hz
    rcases List.mem_append.mp hv with h | h
    · exact fun q => G.off v h z hz (sub' z q)
    · rw [List.mem_singleton.mp h] at hz
      exact (src z hz).elim (·.2) (·.2)
  · intro v hv z hz
    rcases List.mem_append.mp hv with h | h
    · exact G.inn v h z hz
    · rw [List.mem_singleton.mp h] at hz
      exact inn' z hz
theorem Grow.first {names rows fresh : List Str} (nd : names.Nodup) (row : ∀ z ∈ names, RowS z) (m : Nat) (pm : rows.Perm (names.take m)) (e : fresh = names.drop m) (l : rows.length ≤ 24) : Grow names [rows] fresh := by
  have nd2 : (names.take m ++ names.drop m).Nodup := by
    rw [List.take_append_drop]
    exact nd
  have x := List.nodup_append.mp nd2
  have one : ∀ v ∈ [rows], v = rows := fun v hv => List.mem_singleton.mp hv
  refine ⟨⟨(by intro z; cases z), ?_, ?_⟩, ?_, ?_, ?_, ?_, row⟩
  · intro v hv
    rw [one v hv]
    exact ⟨pm.nodup_iff.mpr x.1, l, fun z hz => row z (List.mem_of_mem_take (pm.subset hz))⟩
  · intro i j k u v w ij jk hu hv hw
    have hj := (List.getElem?_eq_some_iff.mp hv).1
    have : [rows].length = 1 := rfl
    omega
  · rw [e]
    exact x.2.1
  · intro v hv z hz q
    rw [one v hv] at hz
    rw [e] at q
    exact x.2.2 z (pm.subset hz) z q rfl
  · intro v hv z hz
    rw [one v hv] at hz
    exact List.mem_of_mem_take (pm.subset hz)
  · intro z hz
    rw [e] at hz
    exact List.mem_of_mem_drop hz
theorem cut_from (xs : List V) (c : Nat) : cutV xs (some (c : Int)) none = xs.drop c := by
  unfold cutV
  rw [HT.sIx_none, HT.sIx_nat]
  by_cases h : c ≤ xs.length
  · rw [Nat.min_eq_left h, List.take_of_length_le (by rw [List.length_drop]; omega)]
  · rw [Nat.min_eq_right (by omega), List.drop_of_length_le (l := xs) (by omega), List.drop_of_length_le (l := xs) (by omega), List.take_nil]
abbrev sHist : Stmt := topS 14
abbrev nHist : List Str := ["_law_hand_here", "_law_most_rows", "_law_most_versions", "_law_names_here", "_law_many", "_law_versions", "_law_fresh", "_law_turn"]
theorem scHist : FnScope nHist ["_law_hand_here", "_law_most_rows", "_law_most_versions"] (defScope sHist) := ⟨rfl, rfl, rfl, by decide +kernel, rfl, by decide +kernel, by decide +kernel⟩
def spHist (K : PySem.W.Frag) : Sp := fun vs H Q _ => ∃ (a : Addr) (n r m : Nat), vs = [.ref a, .int r, .int m] ∧ Hd H a n ∧ n < 800000 ∧ r ≤ 24 ∧ 0 < m ∧ m ≤ 100 ∧
  ∀ H' p (hs : List (List Str)) (names : List Str), But a H H' → Hd H' a (n + 500) → H p = none → HistAt K H' p hs → HistOk hs → hs.length ≤ m → names.Nodup → names.length ≤ r + 4 → (∀ v ∈ hs, ∀ z ∈ v, z ∈ names) → Q (.ref p) H'
section
variable {P : Program} {w : World} {K : PySem.W.Frag} {mg : Str → Option Value} {base : Heap}
theorem ok_hist {f fT fN fS fC : Addr} {fd fdT fdN fdS fdC : FuncData} {k : Nat} (F : Fun K "_law_history" "_law_history" sHist f fd) (gT : mg "_law_take" = some (.ref fT)) (FT : Fun K "_law_take" "_law_take" sTake fT fdT) (bT : Binds K fdT ["_law_hand_here", "_law_many"] [])
    (gN : mg "_law_names" = some (.ref fN)) (FN : Fun K "_law_names" "_law_names" sNames fN fdN) (bN : Binds K fdN ["_law_hand_here", "_law_count"] []) (GN : FnOk P w K mg base CX0 (k + 3) fN fdN ["_law_hand_here", "_law_count"] spNames)
    (gS : mg "_law_shuffled" = some (.ref fS)) (FS : Fun K "_law_shuffled" "_law_shuffled" sShuf fS fdS) (bS : Binds K fdS ["_law_hand_here", "_law_items"] []) (GS : FnOk P w K mg base CX0 (k + 3) fS fdS ["_law_hand_here", "_law_items"] spShuf)
    (gC : mg "_law_changed" = some (.ref fC)) (FC : Fun K "_law_changed" "_law_changed" sChg fC fdC) (bC : Binds K fdC ["_law_hand_here", "_law_version", "_law_fresh"] []) (GC : FnOk P w K mg base CX0 (k + 3) fC fdC ["_law_hand_here", "_law_version", "_law_fresh"] (spChg K))
    (mmin : mg "min" = none) (mt : mg "tuple" = none) (mr : mg "range" = none) : FnOk P w K mg base CX0 (k + 4) f fd ["_law_hand_here", "_law_most_rows", "_law_most_versions"] (spHist K) := by
  have GT : FnOk P w K mg base CX0 (k + 3) fT fdT ["_law_hand_here", "_law_many"] spTake := ok_take FT
  refine F.ok scHist (fun vs H Q E h => ?_) (fun cdv A outer s H vs Q E hr h => ?_)
  · obtain ⟨a, n, r, m, rfl, _⟩ := h
    rfl
  · obtain ⟨a, n, r, m, rfl, hh, hn, hrr, m0, m1, q⟩ := h
    refine ⟨_, pss_cons (ps_set (i := 3) scHist.nd rfl (.inl rfl) (pe_call GN hr (by rfl) gN FN.kp bN .nil pass0 (pa_cons (pv 0) (pa_cons (pe_callB (call_min2 rfl) (by rfl) mmin (by decide +kernel) (pa_cons pe_int (pa_cons (pe_op op_add (pv 1) pe_int) pa_nil))) pa_nil))))
      (pss_cons (ps_set (i := 4) scHist.nd rfl (.inl rfl) (pe_call GT hr (by rfl) gT FT.kp bT .nil pass0 (pa_cons (pv 0) (pa_cons (pe_op op_add (pv 1) pe_int) pa_nil))))
      (pss_cons (ps_par (i := 5) (j := 6) (by rfl) scHist.nd rfl rfl (by decide) rfl rfl (pa_cons (pe_lst (pa_cons (pe_callTy call_tuple_of (by rfl) mt (by decide +kernel) (pa_cons (pe_call GS hr (by rfl) gS FS.kp bS .nil pass0 (pa_cons (pv 0) (pa_cons (pe_slice sl_list (pv 3) po_none (po_some (pv 4))) pa_nil))) pa_nil)) pa_nil)) (pa_cons (pe_slice sl_list (pv 3) (po_some (pv 4)) po_none) pa_nil)) (by rfl))
      (pss_cons (ps_for PassesOwn.never rfl (pi_range1 (by rfl) mr (pa_cons (pe_call GT hr (by rfl) gT FT.kp bT .nil pass0 (pa_cons (pv 0) (pa_cons (pv 2) pa_nil))) pa_nil)) (pg_name (i := 7) scHist.nd rfl (.inl rfl))
        (pss_one (ps_expr (pe_bm PySem.F.plainAttrs_list PySem.F.slot_list_append PySem.F.type_list_append mt_append (pv 5) (pa_cons (pe_call GC hr (by rfl) gC FC.kp bC .nil pass0 (pa_cons (pv 0) (pa_cons (pe_ix ix_list (pv 5) (pe_un un_neg pe_int) (fun _ _ => rfl)) (pa_cons (pv 6) pa_nil)))) pa_nil)))))
      (pss_one (ps_ret (pe_callTy call_tuple_of (by rfl) mt (by decide +kernel) (pa_cons (pv 5) pa_nil)))))))  , ?_⟩
    -- names
    obtain ⟨cn, hcn, cn1, cn2⟩ : ∃ cn : Nat, (if (r : Int) + 4 < 24 then (r : Int) + 4 else 24) = (cn : Int) ∧ cn ≤ 24 ∧ cn ≤ r + 4 := by
      by_cases h : (r : Int) + 4 < 24
      · exact ⟨r + 4, by rw [if_pos h]; rfl, by omega, by omega⟩
      · exact ⟨24, by rw [if_neg h]; rfl, by omega, by omega⟩
    refine ⟨.ref a, rfl, _, rfl, _, 4, rfl, rfl, _, _, rfl, a, n, cn, congrArg (fun z => [V.ref a, V.int z]) hcn, hh, by omega, by omega, fun H1 nm nl sb1 hd1 nn1 e1 len1 nd1 row1 => ?_⟩
    -- many
    refine ⟨.ref a, rfl, _, rfl, _, 1, rfl, rfl, a, n + 5, _, rfl, hd1, by omega, by omega, by omega, fun H2 y2 sb2 hd2 y0 y1 => ?_⟩
    obtain ⟨my, rfl⟩ := Int.eq_ofNat_of_zero_le y0
    have nma : nm ≠ a := hh.ne nn1
    have e2 := sb2 nm _ nma e1
    have b2 : But a H H2 := sb1.trans sb2
    -- the first version
    refine ⟨.ref a, rfl, .ref nm, rfl, _, rfl, my, rfl, nm, _, rfl, SqL.of e2, fun l3 hl3 => ?_⟩
    have ec : cutV (nl.map V.str) none (some (my : Int)) = (nl.take my).map V.str := by rw [cut_to, List.map_take]
    refine ⟨a, l3, n + 6, nl.take my, rfl, hd2.new hl3, hd2.ne hl3, .inl (by rw [upd_same, ec]), ?_, ?_, fun z hz => row1 z (List.mem_of_mem_take hz), fun H4 p4 rows sb4 hd4 n4 e4 pm4 => ?_⟩
    · rw [List.length_take]
      omega
    · rw [List.length_take]
      omega
    refine ⟨p4, _, rfl, .inl ⟨SqL.of e4, fun v5 hv5 => ?_⟩⟩
    have b4 : But a H H4 := (b2.new hl3).trans sb4
    have hd4' : Hd H4 a (n + 30) := hd4.up (by rw [List.length_take]; omega)
    have b5 : But a H (upd H4 v5 (.tup (rows.map V.str))) := b4.new hv5
    have hd5 : Hd (upd H4 v5 (.tup (rows.map V.str))) a (n + 30) := hd4'.new hv5
    have e5 : (upd H4 v5 (.tup (rows.map V.str))) v5 = some (.tup (rows.map V.str)) := upd_same
    have e25 : (upd H4 v5 (.tup (rows.map V.str))) nm = some (.lst (nl.map V.str)) := by
      have z : H4 nm = some (.lst (nl.map V.str)) := sb4 nm _ nma (by rw [upd_ne (ne_of_none e2 hl3)]; exact e2)
      rw [upd_ne (ne_of_none z hv5)]
      exact z
    generalize upd H4 v5 (.tup (rows.map V.str)) = H5 at b5 hd5 e5 e25 ⊢
    refine ⟨(by show 1 ≤ sizeLine; decide), fun vl hvl => ?_⟩
    have e256 : (upd H5 vl (.lst [.ref v5])) nm = some (.lst (nl.map V.str)) := by
      rw [upd_ne (ne_of_none e25 hvl)]
      exact e25
    -- fresh
    refine ⟨.ref nm, rfl, _, rfl, my, rfl, nm, _, rfl, SqL.of e256, fun c hc => ?_⟩
    refine ⟨_, _, rfl, ?_⟩
    have vla : vl ≠ a := hd5.ne hvl
    have hd6 := hd5.new (o := .lst [.ref v5]) hvl
    have ca : c ≠ a := hd6.ne hc
    have vlc : vl ≠ c := ne_of_none upd_same hc
    have vlH : H vl = none := fr b5 hh hd5 hvl
    have cH : H c = none := fr (b5.new hvl) hh hd6 hc
    have ef : cutV (nl.map V.str) (some (my : Int)) none = (nl.drop my).map V.str := by rw [cut_from, List.map_drop]
    rw [ef]
    have b7 : But a H (upd (upd H5 vl (.lst [.ref v5])) c (.lst ((nl.drop my).map V.str))) := (b5.new hvl).new hc
    have hd7 : Hd (upd (upd H5 vl (.lst [.ref v5])) c (.lst ((nl.drop my).map V.str))) a (n + 30) := hd6.new hc
    have evl : (upd (upd H5 vl (.lst [.ref v5])) c (.lst ((nl.drop my).map V.str))) vl = some (.lst [.ref v5]) := by
      rw [upd_ne vlc]
      exact upd_same
    have ecc : (upd (upd H5 vl (.lst [.ref v5])) c (.lst ((nl.drop my).map V.str))) c = some (.lst ((nl.drop my).map V.str)) := upd_same
    have ev5 : SqT K (upd (upd H5 vl (.lst [.ref v5])) c (.lst ((nl.drop my).map V.str))) v5 (rows.map V.str) := by
      have z : (upd H5 vl (.lst [.ref v5])) v5 = some (.tup (rows.map V.str)) := by
        rw [upd_ne (ne_of_none e5 hvl)]
        exact e5
      refine SqT.of ?_
      rw [upd_ne (ne_of_none z hc)]
      exact z
    generalize upd (upd H5 vl (.lst [.ref v5])) c (.lst ((nl.drop my).map V.str)) = H7 at b7 hd7 evl ecc ev5 ⊢
    have G7 : Grow nl [rows] (nl.drop my) := Grow.first nd1 row1 my pm4 rfl (by rw [pm4.length_eq, List.length_take]; omega)
    -- the turns
    refine ⟨.ref a, rfl, _, rfl, a, n + 30, m, rfl, hd7, by omega, by omega, by omega, fun H8 tn sb8 hd8 tn0 tn1 => ?_⟩
    obtain ⟨tn, rfl⟩ := Int.eq_ofNat_of_zero_le tn0
    refine ⟨tn, rfl, by omega, by omega, ?_⟩
    refine for_range (lo := 0) (n := tn) (fun i σ H' => ∃ (y : Option V) (xs : List V) (L : List (List Str)) (fresh : List Str), σ = [some (.ref a), some (.int r), some (.int m), some (.ref nm), some (.int my), some (.ref vl), some (.ref c), y] ∧ But a H H' ∧ Hd H' a (n + 31 + 4 * i) ∧ H' vl = some (.lst xs) ∧ VsAt K H' xs L ∧ H' c = some (.lst (fresh.map V.str)) ∧ Grow nl L fresh ∧ L.length = i + 1 ∧ fresh.length ≤ 30)
      ⟨none, [.ref v5], [rows], nl.drop my, rfl, b7.trans sb8, hd8, sb8 _ _ vla evl, ⟨⟨v5, rfl, but_t sb8 hd7 ev5⟩, trivial⟩, sb8 _ _ ca ecc, G7, rfl, ?_⟩ (fun i σ H' hi hP => ?_) (fun σ H' hP => ?_)
    · rw [List.length_drop]
      omega
    · obtain ⟨y, xs, L, fresh, rfl, p1, p2, p3, p4, p5, p6, p7, p8⟩ := hP
      have hlast : ∃ last, L.getLast? = some last := by
        cases L with
        | nil => cases p7
        | cons u L => exact ⟨_, List.getLast?_eq_getLast (List.cons_ne_nil _ _)⟩
      obtain ⟨last, hlast⟩ := hlast
      have lx := p4.len
      have gl : L[L.length - 1]? = some last := by
        rw [← List.getLast?_eq_getElem?]
        exact hlast
      obtain ⟨lv, glv, hlv⟩ := p4.get gl
      have ox := p6.ok.ver last (List.mem_of_getLast? hlast)
      have glx : atI xs (-1) = some (.ref lv) := by
        have ex : xs = xs.dropLast ++ [.ref lv] := by
          rw [← lx, ← List.getLast?_eq_getElem?] at glv
          obtain ⟨ys, rfl⟩ := List.getLast?_eq_some_iff.mp glv
          rw [List.dropLast_concat]
        rw [ex]
        exact atI_last _ _
      refine ⟨.ref vl, rfl, .inl ⟨rfl, _, SqL.of p3⟩, .ref a, rfl, .ref vl, rfl, 1, rfl, vl, _, -1, _, rfl, rfl, SqL.of p3, glx, .ref c, rfl, a, lv, c, n + 31 + 4 * i, last, fresh, rfl, p2, by omega, hlv, ca, p5, ox.len, p8, ox.row, fun z hz => p6.row z (p6.fin z hz), fun H9 p9 rows' fresh' sb9 hd9 n9 e9 ef9 ch9 => ?_⟩
      have evl9 := sb9 vl _ vla vlc p3
      have f8 : fresh'.length ≤ 30 := by
        rcases ch9.2 with ⟨x, e, _⟩ | ⟨e, _⟩
        · rw [e, List.length_cons] at p8
          omega
        · rw [e]
          exact p8
      refine ⟨vl, xs, _, rfl, rfl, evl9, ?_, ?_⟩
      · rw [lx]
        exact small1000 (by omega)
      · have cH' : ∀ b o, H b = some o → b ≠ a → H9 b = some o := fun b o e na => sb9 b o na (ne_of_none e cH) (p1 b o na e)
        refine ⟨_, xs ++ [.ref p9], L ++ [rows'], fresh', rfl, ?_, hd9.oth vla, upd_same, ?_, ?_, p6.step hlast ch9, ?_, f8⟩
        · intro b o na e
          rw [upd_ne (ne_of_none e vlH)]
          exact cH' b o e na
        · refine VsAt.snoc (upd_t evl9 (SqT.of e9)) ((p4.keep fun b ys => but2_t sb9 p2 p5).keep fun b ys => upd_t evl9)
        · rw [upd_ne vlc.symm]
          exact ef9
        · rw [List.length_append, List.length_singleton, p7]
    · obtain ⟨y, xs, L, fresh, rfl, p1, p2, p3, p4, p5, p6, p7, p8⟩ := hP
      refine ⟨.ref vl, rfl, vl, _, rfl, .inl ⟨SqL.of p3, fun t ht => ?_⟩⟩
      have k : ∀ b ys, SqT K H' b ys → SqT K (upd H' t (.tup xs)) b ys := fun b ys => same_t (same_new ht)
      exact q _ t L nl (p1.new ht) ((p2.new ht).up (by omega)) (fr p1 hh p2 ht) ⟨xs, SqT.of upd_same, p4.keep k⟩ p6.ok (by omega) nd1 (by omega) p6.inn
end
end M
namespace M
open PySem PySem.Spec PyProof.Rows L2 Gd
/-! ### sorted(t), t a tuple of texts -/
section
variable {prog : Program} {w : World} {A : Around} {E : Value → Shared → Prop} {s : Shared}
theorem collect_tup {l : Addr} {vs : List Value} {Q : List Value → Shared → Prop} (hl : IsTup s.heap l vs.toArray) (hsz : vs.length ≤ sizeLine)
    (h : ∀ h' : Heap, (∀ b o, s.heap.get? b = some o → h'.get? b = some o) → Q vs { s with heap := h' }) : wpAny (model prog w) A (collect (.ref l)) Q E s := by
  obtain ⟨o, ho, hc, n, hd⟩ := id hl
  unfold collect
  refine wpAny_bind (wpAny_runValue (codeAny_builtin entry_proto_collect' ?_))
  show wpAny _ _ (do again (.builtin "list.__iadd__" ⟨[← newList [], .ref l], []⟩)) _ _ s
  refine wpAny_bind (wpAny_newList (wpAny_pure ⟨Code.quiet_builtin _ (by decide +kernel), codeAny_builtin entry_list_iadd' ?_⟩))
  show wpAny _ _ (Builtin.List.listExtendWith (.ref s.heap.objs.size) (.ref l) (.ref s.heap.objs.size)) _ _ { s with heap := s.heap.push (seqObj "list" #[] 0) }
  unfold Builtin.List.listExtendWith
  have old : ∀ b u, s.heap.get? b = some u → (s.heap.push (seqObj "list" #[] 0)).get? b = some u := fun b u e => Heap.get?_push_of_some _ e
  have new : (s.heap.push (seqObj "list" #[] 0)).get? s.heap.objs.size = some (seqObj "list" #[] 0) := Heap.get?_push_size _ rfl
  refine wpAny_bind (wpAny_typeOf (T := "tuple") ⟨o, old _ _ ho, hc⟩ ?_)
  have tt : (Value.type "tuple" == Value.type "tuple") = true := by rfl
  rw [if_pos (by rw [tt]; simp)]
  refine wpAny_bind (listItems_at (old _ _ ho) hd ?_)
  refine wpAny_bind (listItems_at (xs := #[]) (n := 0) new rfl ?_)
  rw [if_neg (by simp)]
  refine wpAny_bind (listUpdate_at (xs := #[]) (n := 0) new rfl ?_ (Nat.zero_le _) ?_)
  · refine wpAny_pure ?_
    show wpAny (model prog w) A (do
      let o ← load s.heap.objs.size
      match o.data with
      | .seq xs _ => pure xs.toList
      | _ => unsupported "internal:collect") Q E _
    refine wpAny_bind (wpAny_load (get?_update_seq new _) ?_)
    show wpAny _ _ (pure ((#[] : Array Value) ++ vs.toArray).toList) Q E _
    have e : ((#[] : Array Value) ++ vs.toArray).toList = vs := by simp
    rw [e]
    refine wpAny_pure (h _ fun b u e => ?_)
    have ne : b ≠ s.heap.objs.size := Nat.ne_of_lt (Heap.lt_size e)
    rw [Heap.get?_update_ne _ _ _ _ ne]
    exact old b u e
  · show ((#[] : Array Value) ++ vs.toArray).size ≤ sizeLine + 1
    simp only [Array.size_append, List.size_toArray, List.length_nil]
    omega
end
def rSortT (K : PySem.W.Frag) : List V → Hp → VK → Prop := fun vs H Q => ∃ (a : Addr) (xs : List Str), vs = [V.ref a] ∧ SqT K H a (xs.map V.str) ∧ xs.length < 64 ∧ ∀ (ys : List Str) (p : Addr), ys.Perm xs → sortedS ys = true → H p = none → Q (.ref p) (upd H p (.lst (ys.map V.str)))
theorem cr_sortT0 {X : Cx} : CallR X (.builtin "sorted") (rSortT X.K) := by
  rintro pins s σ H vs us Q I r ⟨a, xs, rfl, ht, h64, q⟩
  obtain ⟨u, rfl, rx⟩ := vals1 r
  cases rx
  obtain ⟨its, rv, tp, _⟩ := I.tuple ht
  have hS := rv.strs
  have hlen : its.length = xs.length := by
    have z := rv.length
    rw [List.length_map] at z
    exact z.symm
  have sz : its.length ≤ sizeLine := sz1000 (by omega)
  refine Calls.call_function_entry kind_sorted plain_sorted entry_sorted (args_sorted1 _) ?_
  unfold Builtin.«sorted»
  refine wpAny_bind (m := checkCount "sorted" 1 1 _) (wpAny_pure ?_)
  refine wpAny_bind (collect_tup tp sz fun h' hk => ?_)
  have J : Inv X pins σ H { s with heap := h' } := I.kept (t' := s.toks) hk
  refine wpAny_bind (wpAny_newList ?_ sz)
  have at_new : (h'.push (seqObj "list" its.toArray 0)).get? h'.objs.size = some (seqObj "list" its.toArray 0) := Heap.get?_push_size _ rfl
  show wpAny _ _ _ _ _ { s with heap := h'.push (seqObj "list" its.toArray 0) }
  refine wpAny_bind (wpAny_holding (wpAny_call_entry slot_list_sort ⟨_, at_new, rfl⟩ entry_list_sort (list_sort_treeK strKind_oneLt (s := { s with heap := h'.push (seqObj "list" its.toArray 0) }) at_new hS.keysOf (fun _ _ _ e => keyKind_strs (by rw [← e]; exact hS)) (by omega) fun st hp hs => ⟨_, rfl, ?_⟩) (args_list_sort _)))
  obtain ⟨ys, g1, g2, g3⟩ := sorted_out_str hS hp hs
  obtain ⟨ep, he⟩ := sortedHeap_at (vs := its) (out := (arrOf st).map (·.2)) at_new
  have small : (ys.map V.str).length ≤ sizeLine := by
    rw [List.length_map, g2.length_eq]
    exact sz1000 (by omega)
  refine wpAny_pure ⟨_, rfl, .ref h'.objs.size, upd H h'.objs.size (.lst (ys.map V.str)), J.laid (t' := s.toks) (fun b u e => ?_) (Nat.le_refl _) ?_, rfl, q ys _ g2 g3 (J.hok.fresh (Nat.le_refl _))⟩
  · have lt : b < h'.objs.size := Heap.lt_size e
    rw [sortedHeap_old (Nat.ne_of_lt lt) (by rw [size_push']; exact Nat.lt_succ_of_lt lt)]
    exact Heap.get?_push_of_some _ e
  · exact ⟨small, ((arrOf st).map (·.2)).toList, ep, vals_of_strs g1, by rw [Array.toArray_toList]; exact he⟩
end M
namespace M
open PySem PySem.Spec PyProof.Rows L2 Gd
/-! ### what sorted rows are -/
def leS (x y : Str) : Prop := x.cps.toList ≤ y.cps.toList
instance (x y : Str) : Decidable (leS x y) := inferInstanceAs (Decidable (x.cps.toList ≤ y.cps.toList))
theorem leS_trans {x y z : Str} (a : leS x y) (b : leS y z) : leS x z := List.le_trans a b
theorem leS_total (x y : Str) : leS x y ∨ leS y x := List.le_total _ _
theorem leS_antisymm {x y : Str} (a : leS x y) (b : leS y x) : x = y := by
  have e : x.cps.toList = y.cps.toList := List.le_antisymm a b
  obtain ⟨xs⟩ := x
  obtain ⟨ys⟩ := y
  have e2 : xs = ys := Array.toList_inj.mp e
  rw [e2]
theorem rising_pw : ∀ (l : List Str) (p : Str), risingS p l = true → (p :: l).Pairwise leS
  | [], p, _ => List.pairwise_singleton _ _
  | x :: r, p, h => by
    have h : (!ltCps x.cps.toList p.cps.toList && risingS x r) = true := h
    rw [Bool.and_eq_true] at h
    have ih := rising_pw r x h.2
    have px : leS p x := by
      have z := h.1
      rw [ltCps_eq] at z
      simp only [Bool.not_eq_true', decide_eq_false_iff_not] at z
      exact z
    refine List.pairwise_cons.mpr ⟨fun y hy => ?_, ih⟩
    rcases List.mem_cons.mp hy with e | hy
    · rw [e]
      exact px
    · exact leS_trans px ((List.pairwise_cons.mp ih).1 y hy)
theorem sorted_pw {l : List Str} (h : sortedS l = true) : l.Pairwise leS := by
  cases l with
  | nil => exact List.Pairwise.nil
  | cons x r => exact rising_pw r x h
/-- the one sorted list -/
def srt (l : List Str) : List Str := l.mergeSort fun a b => decide (leS a b)
theorem srt_perm (l : List Str) : (srt l).Perm l := List.mergeSort_perm l _
theorem srt_pw (l : List Str) : (srt l).Pairwise leS := by
  have h := List.pairwise_mergeSort (le := fun a b => decide (leS a b)) (fun a b c h1 h2 => by
    simp only [decide_eq_true_eq] at h1 h2 ⊢
    exact leS_trans h1 h2) (fun a b => by
    simp only [Bool.or_eq_true, decide_eq_true_eq]
    exact leS_total a b) l
  exact h.imp fun h => of_decide_eq_true h
theorem pw_one {l m : List Str} (p : l.Perm m) (h : l.Pairwise leS) (h' : m.Pairwise leS) : l = m := List.Perm.eq_of_pairwise (fun a b _ _ x y => leS_antisymm x y) h h' p
theorem srt_one {l m : List Str} (p : l.Perm m) (h : sortedS l = true) : l = srt m := pw_one (p.trans (srt_perm m).symm) (sorted_pw h) (srt_pw m)
theorem srt_eq {l m : List Str} (p : l.Perm m) (h : l.Pairwise leS) : l = srt m := pw_one (p.trans (srt_perm m).symm) h (srt_pw m)
theorem srt_mem {l : List Str} {x : Str} : x ∈ srt l ↔ x ∈ l := (srt_perm l).mem_iff
theorem srt_len (l : List Str) : (srt l).length = l.length := (srt_perm l).length_eq
theorem srt_nodup {l : List Str} (h : l.Nodup) : (srt l).Nodup := (srt_perm l).nodup_iff.mpr h
/-! ### live rows -/
abbrev sLive : Stmt := topS 1
theorem scLive : FnScope ["history"] ["history"] (defScope sLive) := ⟨rfl, rfl, rfl, by decide +kernel, rfl, by decide +kernel, by decide +kernel⟩
def spLive (K : PySem.W.Frag) : Sp := fun vs H Q _ => ∃ (h : Addr) (hs : List (List Str)) (last : List Str), vs = [.ref h] ∧ HistAt K H h hs ∧ hs.getLast? = some last ∧ last.length ≤ 24 ∧ ∀ H' p, Same H H' → H p = none → H' p = some (.tup ((srt last).map V.str)) → Q (.ref p) H'
theorem hist_last {K : PySem.W.Frag} {H : Hp} {xs : List V} {hs : List (List Str)} {last : List Str} (h : VsAt K H xs hs) (hl : hs.getLast? = some last) : ∃ a, atI xs (-1) = some (.ref a) ∧ SqT K H a (last.map V.str) := by
  have lx := h.len
  have gl : hs[hs.length - 1]? = some last := by
    rw [← List.getLast?_eq_getElem?]
    exact hl
  obtain ⟨a, ga, ha⟩ := h.get gl
  refine ⟨a, ?_, ha⟩
  rw [← lx, ← List.getLast?_eq_getElem?] at ga
  obtain ⟨ys, rfl⟩ := List.getLast?_eq_some_iff.mp ga
  exact atI_last _ _
section
variable {P : Program} {w : World} {K : PySem.W.Frag} {mg : Str → Option Value} {base : Heap}
theorem ok_live {f : Addr} {fd : FuncData} {k : Nat} (F : Fun K "live_rows" "live_rows" sLive f fd) (mt : mg "tuple" = none) (ms : mg "sorted" = none) : FnOk P w K mg base CX0 (k + 1) f fd ["history"] (spLive K) := by
  refine F.ok scLive (fun vs H Q E h => ?_) (fun cdv A outer s H vs Q E hr h => ?_)
  · obtain ⟨a, hs, last, rfl, _⟩ := h
    rfl
  · obtain ⟨a, hs, last, rfl, ⟨xs, hA, hV⟩, hl, l24, q⟩ := h
    refine ⟨_, pss_one (ps_ret (pe_callTy call_tuple_of (by rfl) mt (by decide +kernel) (pa_cons (pe_callB cr_sortT0 (by rfl) ms (by decide +kernel) (pa_cons (pe_ix ix_tup (pv 0) (pe_un un_neg pe_int) (fun _ _ => rfl)) pa_nil)) pa_nil))), ?_⟩
    obtain ⟨v, gv, hv⟩ := hist_last hV hl
    refine ⟨.ref a, rfl, 1, rfl, a, _, -1, _, rfl, rfl, hA, gv, v, last, rfl, hv, by omega, fun ys p pm so hp => ?_⟩
    refine ⟨p, _, rfl, .inl ⟨SqL.of upd_same, fun t ht => ?_⟩⟩
    have htH : H t = none := (same_new hp).free ht
    refine q _ t ((same_new hp).trans (same_new ht)) htH ?_
    rw [upd_same, srt_one pm so]
end
/-! ### live rows among texts -/
abbrev sAmong : Stmt := topS 2
abbrev nAmong : List Str := ["history", "rows", "row"]
theorem scAmong : FnScope nAmong ["history", "rows"] (defScope sAmong) := ⟨rfl, rfl, rfl, by decide +kernel, rfl, by decide +kernel, by decide +kernel⟩
def spAmong (K : PySem.W.Frag) : Sp := fun vs H Q _ => ∃ (h b : Addr) (hs : List (List Str)) (last rows : List Str), vs = [.ref h, .ref b] ∧ HistAt K H h hs ∧ hs.getLast? = some last ∧ last.length ≤ 24 ∧ (SqL K H b (rows.map V.str) ∨ SqT K H b (rows.map V.str)) ∧
  ∀ H' p, Same H H' → H p = none → H' p = some (.tup (((srt last).filter fun r => rows.contains r).map V.str)) → Q (.ref p) H'
section
variable {P : Program} {w : World} {K : PySem.W.Frag} {mg : Str → Option Value} {base : Heap}
theorem ok_among {f fL : Addr} {fd fdL : FuncData} {k : Nat} (F : Fun K "live_rows_among" "live_rows_among" sAmong f fd) (FL : Fun K "live_rows" "live_rows" sLive fL fdL) (bL : Binds K fdL ["history"] []) (gL : mg "live_rows" = some (.ref fL)) (mt : mg "tuple" = none) (ms : mg "sorted" = none) : FnOk P w K mg base CX0 (k + 2) f fd ["history", "rows"] (spAmong K) := by
  have GL : FnOk P w K mg base CX0 (k + 1) fL fdL ["history"] (spLive K) := ok_live FL mt ms
  refine F.ok scAmong (fun vs H Q E h => ?_) (fun cdv A outer s H vs Q E hr h => ?_)
  · obtain ⟨a, b, hs, last, rows, rfl, _⟩ := h
    rfl
  · obtain ⟨a, b, hs, last, rows, rfl, hA, hl, l24, hB, q⟩ := h
    refine ⟨_, pss_one (ps_ret (pe_callTy call_tuple_of (by rfl) mt (by decide +kernel) (pa_cons (pe_lc (own := [("row", 2)]) (g := gName 2) (tt := tTest (tOp (rIn K false) (tVar 2) (tVar 1))) (te := tVar 2) rfl scAmong.nd (pi_tup (pe_call GL hr (by rfl) gL FL.kp bL .nil pass0 (pa_cons (pv 0) pa_nil)))
      (blkOk_by (own := [("row", 2)]) (N := nAmong) (sc := defScope sAmong) (by decide +kernel)) (fun _ _ _ _ _ => pg_name (i := 2) scAmong.nd rfl (.inl rfl)) (fun _ _ _ _ _ => pts_one (pt_cmpR op_in_seq (pv 2) (pv 1) (by rfl))) (fun _ _ _ _ _ => pv 2)) pa_nil))), ?_⟩
    refine ⟨.ref a, rfl, a, hs, last, rfl, hA, hl, l24, fun H1 p s1 np e1 => ?_⟩
    refine ⟨p, rfl, ⟨_, SqT.of e1⟩, fun D hD => lc_tup (xs := (srt last).map V.str) (fun i H' => Same H1 H' ∧ H' D = some (.lst ((((srt last).take i).filter fun r => rows.contains r).map V.str))) ⟨same_new hD, by rw [upd_same]; rfl⟩ (fun i H' _ hP => SqT.of (hP.1 _ _ e1)) (fun i x H' hx hP => ?_) (fun H' hP => ?_)⟩
    · obtain ⟨p1, p2⟩ := hP
      rw [List.getElem?_map] at hx
      obtain ⟨y, hy, rfl⟩ := Option.map_eq_some_iff.mp hx
      have hB' : SqL K H' b (rows.map V.str) ∨ SqT K H' b (rows.map V.str) := hB.elim (fun z => .inl ((s1.trans p1).seq z)) fun z => .inr (same_t (s1.trans p1) z)
      refine ⟨rfl, _, rfl, _, rfl, b, _, rfl, hB', rfl, flat_strs rows, _, rfl, ?_⟩
      have e : ((srt last).take (i + 1)).filter (fun r => rows.contains r) = ((srt last).take i).filter (fun r => rows.contains r) ++ (if rows.contains y = true then [y] else []) := by
        rw [List.take_add_one, hy, List.filter_append, Option.toList_some, List.filter_cons, List.filter_nil]
      show if (inV (.str y) (rows.map V.str)) = true then _ else _
      rw [inV_strs]
      refine ite2 (fun h => ?_) (fun h => ?_)
      · refine ⟨_, rfl, _, p2, ?_, same_own p1 hD, ?_⟩
        · rw [List.length_map]
          exact small1000 (Nat.le_trans (List.length_filter_le _ _) (by rw [List.length_take, srt_len]; omega))
        · rw [upd_same, e, if_pos h, List.map_append]
          rfl
      · refine ⟨p1, ?_⟩
        rw [e, if_neg h, List.append_nil]
        exact p2
    · obtain ⟨p1, p2⟩ := hP
      rw [List.length_map, List.take_length] at p2
      refine ⟨D, _, rfl, .inl ⟨SqL.of p2, fun t ht => ?_⟩⟩
      have s2 := s1.trans p1
      exact q _ t (same_own s2 (s2.free ht)) (s2.free ht) upd_same
end
end M
namespace M
open PySem PySem.Spec PyProof.Rows L2 Gd
/-! ### plans -/
/-- a tuple's items, one by one -/
def AllAt {α : Type} (R : V → α → Prop) : List V → List α → Prop
  | [], [] => True
  | x :: xs, q :: qs => R x q ∧ AllAt R xs qs
  | _, _ => False
theorem AllAt.keep {α : Type} {R R' : V → α → Prop} (k : ∀ x q, R x q → R' x q) : ∀ {xs : List V} {qs : List α}, AllAt R xs qs → AllAt R' xs qs
  | [], [], _ => trivial
  | _ :: _, _ :: _, ⟨h, r⟩ => ⟨k _ _ h, AllAt.keep k r⟩
theorem AllAt.len {α : Type} {R : V → α → Prop} : ∀ {xs : List V} {qs : List α}, AllAt R xs qs → xs.length = qs.length
  | [], [], _ => rfl
  | _ :: _, _ :: _, ⟨_, r⟩ => by rw [List.length_cons, List.length_cons, AllAt.len r]
theorem AllAt.get {α : Type} {R : V → α → Prop} : ∀ {xs : List V} {qs : List α} {i : Nat} {x : V}, AllAt R xs qs → xs[i]? = some x → ∃ q, qs[i]? = some q ∧ R x q
  | [], [], _, _, _, g => by simp at g
  | y :: _, q :: _, 0, x, ⟨h, _⟩, g => by
    have g : y = x := Option.some.inj g
    subst g
    exact ⟨q, rfl, h⟩
  | _ :: xs, _ :: qs, i + 1, x, ⟨_, r⟩, g => AllAt.get (i := i) r g
theorem AllAt.snoc {α : Type} {R : V → α → Prop} {x : V} {q : α} (h : R x q) : ∀ {xs : List V} {qs : List α}, AllAt R xs qs → AllAt R (xs ++ [x]) (qs ++ [q])
  | [], [], _ => ⟨h, trivial⟩
  | _ :: _, _ :: _, ⟨e, r⟩ => ⟨e, AllAt.snoc h r⟩
theorem AllAt.take {α : Type} {R : V → α → Prop} : ∀ {xs : List V} {qs : List α} (n : Nat), AllAt R xs qs → AllAt R (xs.take n) (qs.take n)
  | [], [], _, _ => by rw [List.take_nil, List.take_nil]; exact trivial
  | _ :: _, _ :: _, 0, _ => trivial
  | _ :: _, _ :: _, n + 1, ⟨h, r⟩ => ⟨h, AllAt.take n r⟩
/-- a request: a pair of two ints -/
def ReqAt (K : PySem.W.Frag) (H : Hp) (x : V) (q : Nat × Nat) : Prop := ∃ a, x = .ref a ∧ SqT K H a [.int q.1, .int q.2]
def PlanAt (K : PySem.W.Frag) (H : Hp) (p : Addr) (pl : List (Nat × Nat)) : Prop := ∃ xs, SqT K H p xs ∧ AllAt (ReqAt K H) xs pl
theorem PlanAt.keep {K : PySem.W.Frag} {H H' : Hp} {p : Addr} {pl : List (Nat × Nat)} (k : ∀ b ys, SqT K H b ys → SqT K H' b ys) (h : PlanAt K H p pl) : PlanAt K H' p pl := by
  obtain ⟨xs, h1, h2⟩ := h
  exact ⟨xs, k _ _ h1, h2.keep fun x q ⟨a, e, z⟩ => ⟨a, e, k _ _ z⟩⟩
theorem PlanAt.same {K : PySem.W.Frag} {H H' : Hp} {p : Addr} {pl : List (Nat × Nat)} (s : Same H H') (h : PlanAt K H p pl) : PlanAt K H' p pl := h.keep fun _ _ => same_t s
/-- the pages that a device is sent -/
def runL (hs : List (List Str)) : List (Nat × Nat) → List Str → List (List Str)
  | [], _ => []
  | q :: r, sent => pageL (hs.getD q.1 []) sent q.2 :: runL hs r (sent ++ pageL (hs.getD q.1 []) sent q.2)
theorem runL_snoc (hs : List (List Str)) (q : Nat × Nat) : ∀ (l : List (Nat × Nat)) (s : List Str), runL hs (l ++ [q]) s = runL hs l s ++ [pageL (hs.getD q.1 []) (s ++ (runL hs l s).flatten) q.2]
  | [], s => by
    show [pageL (hs.getD q.1 []) s q.2] = [] ++ [pageL (hs.getD q.1 []) (s ++ []) q.2]
    rw [List.append_nil, List.nil_append]
  | p :: l, s => by
    show pageL (hs.getD p.1 []) s p.2 :: runL hs (l ++ [q]) (s ++ pageL (hs.getD p.1 []) s p.2) = _
    rw [runL_snoc hs q l]
    show _ = pageL (hs.getD p.1 []) s p.2 :: (runL hs l (s ++ pageL (hs.getD p.1 []) s p.2) ++ [pageL (hs.getD q.1 []) (s ++ (pageL (hs.getD p.1 []) s p.2 ++ (runL hs l (s ++ pageL (hs.getD p.1 []) s p.2)).flatten)) q.2])
    rw [List.append_assoc]
theorem runL_len (hs : List (List Str)) : ∀ (l : List (Nat × Nat)) (s : List Str), (runL hs l s).length = l.length
  | [], _ => rfl
  | q :: l, s => by
    show (runL hs l _).length + 1 = l.length + 1
    rw [runL_len hs l]
theorem getD_ver {hs : List (List Str)} (h : ∀ v ∈ hs, v.length ≤ 24) (i : Nat) : (hs.getD i []).length ≤ 24 := by
  rw [List.getD_eq_getElem?_getD]
  cases e : hs[i]? with
  | none => exact Nat.zero_le _
  | some v => exact h v (List.mem_of_getElem? e)
theorem runL_sum {hs : List (List Str)} (h : ∀ v ∈ hs, v.length ≤ 24) : ∀ (l : List (Nat × Nat)) (s : List Str), (runL hs l s).flatten.length ≤ 24 * l.length
  | [], _ => Nat.zero_le _
  | q :: l, s => by
    show (pageL (hs.getD q.1 []) s q.2 ++ (runL hs l _).flatten).length ≤ 24 * (l.length + 1)
    have h1 := runL_sum h l (s ++ pageL (hs.getD q.1 []) s q.2)
    have h2 := pageL_le (hs.getD q.1 []) s q.2
    have h3 := getD_ver h q.1
    rw [List.length_append]
    omega
/-! ### run_schedule -/
abbrev sRun : Stmt := topS 5
abbrev nRun : List Str := ["history", "schedule", "sent", "pages", "index", "count", "page"]
theorem scRun : FnScope nRun ["history", "schedule"] (defScope sRun) := ⟨rfl, rfl, rfl, by decide +kernel, rfl, by decide +kernel, by decide +kernel⟩
def spRun (K : PySem.W.Frag) : Sp := fun vs H Q _ => ∃ (h b : Addr) (hs : List (List Str)) (pl : List (Nat × Nat)), vs = [.ref h, .ref b] ∧ HistAt K H h hs ∧ PlanAt K H b pl ∧ (∀ v ∈ hs, v.length ≤ 24) ∧ pl.length ≤ 40 ∧ (∀ q ∈ pl, q.1 < hs.length) ∧
  ∀ H' p xs, Same H H' → H p = none → H' p = some (.tup xs) → VsAt K H' xs (runL hs pl []) → Q (.ref p) H'
section
variable {P : Program} {w : World} {K : PySem.W.Frag} {mg : Str → Option Value} {base : Heap}
theorem ok_run {f fP : Addr} {fd fdP : FuncData} {k : Nat} (F : Fun K "run_schedule" "run_schedule" sRun f fd) (FP : Fun K "page_of" "page_of" sPage fP fdP) (bP : Binds K fdP ["version", "sent", "count"] []) (gP : mg "page_of" = some (.ref fP)) (mt : mg "tuple" = none) : FnOk P w K mg base CX0 (k + 2) f fd ["history", "schedule"] (spRun K) := by
  have GP : FnOk P w K mg base CX0 (k + 1) fP fdP ["version", "sent", "count"] (spPage K) := ok_page FP mt
  refine F.ok scRun (fun vs H Q E h => ?_) (fun cdv A outer s H vs Q E hr h => ?_)
  · obtain ⟨a, b, hs, pl, rfl, _⟩ := h
    rfl
  · obtain ⟨a, b, hs, pl, rfl, hA, ⟨ys, hB, hP⟩, lv, lp, li, q⟩ := h
    refine ⟨_, pss_cons (ps_set (i := 2) scRun.nd rfl (.inl rfl) (pe_tup pa_nil)) (pss_cons (ps_set (i := 3) scRun.nd rfl (.inl rfl) (pe_lst pa_nil))
      (pss_cons (ps_for PassesOwn.never rfl (pi_tup (pv 1)) (pg_tup (by rfl) (pgs_cons (pg_name (i := 4) scRun.nd rfl (.inl rfl)) (pgs_cons (pg_name (i := 5) scRun.nd rfl (.inl rfl)) pgs_nil)))
        (pss_cons (ps_set (i := 6) scRun.nd rfl (.inl rfl) (pe_call GP hr (by rfl) gP FP.kp bP .nil pass0 (pa_cons (pe_ix ix_tup (pv 0) (pv 4) (fun _ _ => rfl)) (pa_cons (pv 2) (pa_cons (pv 5) pa_nil)))))
        (pss_cons (ps_set (i := 2) scRun.nd rfl (.inl rfl) (pe_op op_catA (pv 2) (pv 6)))
        (pss_one (ps_expr (pe_bm PySem.F.plainAttrs_list PySem.F.slot_list_append PySem.F.type_list_append mt_append (pv 3) (pa_cons (pv 6) pa_nil)))))))
      (pss_one (ps_ret (pe_callTy call_tuple_of (by rfl) mt (by decide +kernel) (pa_cons (pv 3) pa_nil)))))), ?_⟩
    refine ⟨Nat.zero_le _, fun t0 ht0 => ?_⟩
    refine ⟨Nat.zero_le _, fun o ho => ?_⟩
    have s1 : Same H (upd H t0 (.tup [])) := same_new ht0
    have oH : H o = none := s1.free ho
    have s2 : Same H (upd (upd H t0 (.tup [])) o (.lst [])) := s1.trans (same_new ho)
    have e0 : SqT K (upd (upd H t0 (.tup [])) o (.lst [])) t0 [] := same_t (same_new ho) (SqT.of upd_same)
    refine ⟨.ref b, rfl, b, rfl, ⟨_, same_t s2 hB⟩, for_tup (xs := ys) (fun i σ H' => ∃ (st : Addr) (xs : List V) (y4 y5 y6 : Option V), σ = [some (.ref a), some (.ref b), some (.ref st), some (.ref o), y4, y5, y6] ∧ Same H H' ∧ SqT K H' st ((runL hs (pl.take i) []).flatten.map V.str) ∧ H' o = some (.lst xs) ∧ VsAt K H' xs (runL hs (pl.take i) []))
      ⟨t0, [], none, none, none, rfl, s2, by rw [List.take_zero]; exact e0, upd_same, by rw [List.take_zero]; exact trivial⟩ (fun i σ H' _ hP' => ?_) (fun i x σ H' hx hP' => ?_) (fun σ H' hP' => ?_)⟩
    · obtain ⟨st, xs, y4, y5, y6, _, p1, _⟩ := hP'
      exact same_t p1 hB
    · obtain ⟨st, xs, y4, y5, y6, rfl, p1, p2, p3, p4⟩ := hP'
      obtain ⟨rq, hrq, c, rfl, hc⟩ := hP.get hx
      have hi : i < pl.length := (List.getElem?_eq_some_iff.mp hrq).1
      have et : pl.take (i + 1) = pl.take i ++ [rq] := by
        rw [List.take_add_one, hrq]
        rfl
      have er : runL hs (pl.take (i + 1)) [] = runL hs (pl.take i) [] ++ [pageL (hs.getD rq.1 []) (runL hs (pl.take i) []).flatten rq.2] := by
        rw [et, runL_snoc, List.nil_append]
      have hv := li rq (List.mem_of_getElem? hrq)
      obtain ⟨zs, hA1, hA2⟩ := hA.same p1
      have gv : hs[rq.1]? = some (hs.getD rq.1 []) := by
        rw [List.getD_eq_getElem?_getD, List.getElem?_eq_getElem hv]
        rfl
      obtain ⟨v, gx, hv2⟩ := hA2.get gv
      have l3 := getD_ver lv rq.1
      have l4 := runL_sum lv (pl.take i) []
      have l6 : (pl.take i).length = i := by
        rw [List.length_take]
        omega
      refine ⟨c, _, rfl, same_t p1 hc, rfl, _, _, rfl, _, _, rfl, rfl, ?_⟩
      refine ⟨.ref a, rfl, _, rfl, a, _, _, _, rfl, rfl, hA1, atI_nat gx, .ref st, rfl, _, rfl, v, st, _, _, rq.2, rfl, hv2, p2, by omega, fun H5 p5 s5 n5 e5 => ?_⟩
      have l5 := pageL_le (hs.getD rq.1 []) (runL hs (pl.take i) []).flatten rq.2
      refine ⟨.ref st, rfl, .ref p5, rfl, ?_⟩
      dsimp only
      refine catA_of (same_t s5 p2) (SqT.of e5) (by omega) fun H6 p6 s6 e6 => ?_
      have o6 := s6 _ _ (s5 _ _ p3)
      refine ⟨.ref o, rfl, .inl ⟨rfl, _, SqL.of o6⟩, .ref p5, rfl, o, _, _, rfl, rfl, o6, ?_, ?_⟩
      · rw [p4.len, runL_len, l6]
        exact small1000 (by omega)
      · refine ⟨p6, _, _, _, _, rfl, same_own (p1.trans (s5.trans s6)) oH, ?_, upd_same, ?_⟩
        · rw [er, List.flatten_append, List.flatten_singleton]
          exact upd_t o6 e6
        · rw [er]
          exact VsAt.snoc (upd_t o6 (SqT.of (s6 _ _ e5))) ((p4.keep fun _ _ => same_t (s5.trans s6)).keep fun _ _ => upd_t o6)
    · obtain ⟨st, xs, y4, y5, y6, rfl, p1, p2, p3, p4⟩ := hP'
      rw [hP.len, List.take_length] at p4
      refine ⟨.ref o, rfl, o, _, rfl, .inl ⟨SqL.of p3, fun t ht => ?_⟩⟩
      exact q _ t xs (p1.trans (same_new ht)) (p1.free ht) upd_same (p4.keep fun _ _ => same_t (same_new ht))
end
end M
namespace M
open PySem PySem.Spec PyProof.Rows L2 Gd
/-- a walk over a tuple, whatever a turn asks -/
theorem walk_tup {K : PySem.W.Frag} {a : Addr} {xs : List V} {Qd : Hp → Prop} {Step : V → Hp → (Hp → Prop) → Prop} {H0 : Hp} (Pv : Nat → Hp → Prop) (h0 : Pv 0 H0) (hl : ∀ i H, i ≤ xs.length → Pv i H → SqT K H a xs)
    (hs : ∀ i x H, xs[i]? = some x → Pv i H → Step x H (Pv (i + 1))) (hd : ∀ H, Pv xs.length H → Qd H) :
    ∃ W : Nat → Nat → Hp → Prop, (∃ m, W 0 m H0) ∧ ∀ i m H, W i m H → ((Itt K a).stop i H ∧ Qd H) ∨ ((Itt K a).go i H ∧ ∃ Nx : Hp → Prop, (∀ H', Nx H' → ∃ m', m' < m ∧ W (i + 1) m' H') ∧ ∀ x H', (Itt K a).yld i H x H' → Step x H' Nx) := by
  refine ⟨fun i m H => (m + i = xs.length) ∧ Pv i H, ⟨xs.length, rfl, h0⟩, fun i m H h => ?_⟩
  obtain ⟨em, p⟩ := h
  have sq := hl i H (by omega) p
  rcases Nat.lt_or_ge i xs.length with lt | ge
  · refine Or.inr ⟨⟨xs, xs[i], sq, List.getElem?_eq_getElem lt⟩, Pv (i + 1), fun H' p' => ⟨m - 1, by omega, by omega, p'⟩, ?_⟩
    rintro x H' ⟨rfl, y⟩
    exact hs i x H' (y xs sq) p
  · have ei : i = xs.length := by omega
    rw [ei] at p
    exact Or.inl ⟨⟨xs, sq, by omega⟩, hd H p⟩
theorem flat_take_le {α : Type} (l : List (List α)) (i : Nat) : (l.take i).flatten.length ≤ l.flatten.length := by
  have e : l.flatten = (l.take i).flatten ++ (l.drop i).flatten := by
    rw [← List.flatten_append, List.take_append_drop]
  rw [e, List.length_append]
  exact Nat.le_add_right _ _
/-! ### sent_live -/
abbrev sSent : Stmt := topS 6
abbrev nSent : List Str := ["history", "schedule", "sent", "page", "row"]
theorem scSent : FnScope nSent ["history", "schedule"] (defScope sSent) := ⟨rfl, rfl, rfl, by decide +kernel, rfl, by decide +kernel, by decide +kernel⟩
def spSent (K : PySem.W.Frag) : Sp := fun vs H Q _ => ∃ (h b : Addr) (hs : List (List Str)) (last : List Str) (pl : List (Nat × Nat)), vs = [.ref h, .ref b] ∧ HistAt K H h hs ∧ PlanAt K H b pl ∧ (∀ v ∈ hs, v.length ≤ 24) ∧ pl.length ≤ 40 ∧ (∀ q ∈ pl, q.1 < hs.length) ∧ hs.getLast? = some last ∧
  ∀ H' p, Same H H' → H p = none → H' p = some (.tup (((srt last).filter fun r => (runL hs pl []).flatten.contains r).map V.str)) → Q (.ref p) H'
theorem VsAt.item {K : PySem.W.Frag} {H : Hp} : ∀ {xs : List V} {vs : List (List Str)} {i : Nat} {x : V}, VsAt K H xs vs → xs[i]? = some x → ∃ a v, x = .ref a ∧ vs[i]? = some v ∧ SqT K H a (v.map V.str)
  | [], [], _, _, _, g => by simp at g
  | y :: _, u :: _, 0, x, ⟨⟨a, e, h⟩, _⟩, g => by
    have g : y = x := Option.some.inj g
    subst g
    exact ⟨a, u, e, rfl, h⟩
  | _ :: xs, _ :: vs, i + 1, x, ⟨_, r⟩, g => VsAt.item (i := i) r g
section
variable {P : Program} {w : World} {K : PySem.W.Frag} {mg : Str → Option Value} {base : Heap}
theorem ok_sent {f fR fA : Addr} {fd fdR fdA : FuncData} {k : Nat} (F : Fun K "sent_live" "sent_live" sSent f fd) (FR : Fun K "run_schedule" "run_schedule" sRun fR fdR) (bR : Binds K fdR ["history", "schedule"] []) (gR : mg "run_schedule" = some (.ref fR)) (GR : FnOk P w K mg base CX0 (k + 2) fR fdR ["history", "schedule"] (spRun K))
    (FA : Fun K "live_rows_among" "live_rows_among" sAmong fA fdA) (bA : Binds K fdA ["history", "rows"] []) (gA : mg "live_rows_among" = some (.ref fA)) (GA : FnOk P w K mg base CX0 (k + 2) fA fdA ["history", "rows"] (spAmong K)) : FnOk P w K mg base CX0 (k + 3) f fd ["history", "schedule"] (spSent K) := by
  refine F.ok scSent (fun vs H Q E h => ?_) (fun cdv A outer s H vs Q E hr h => ?_)
  · obtain ⟨a, b, hs, last, pl, rfl, _⟩ := h
    rfl
  · obtain ⟨a, b, hs, last, pl, rfl, hA, hB, lv, lp, li, hl, q⟩ := h
    refine ⟨_, pss_cons (ps_setLc2 (i := 2) (own := [("page", 3), ("row", 4)]) (vs1 := [4]) (g := gName 3) (g1 := gName 4) (tt := tYes) (tt1 := tYes) (wi1 := iTup K (tVar 3)) (te := tVar 4) (by rfl) scSent.nd rfl rfl (sw_true rfl rfl rfl (by decide +kernel)) (pi_tup (pe_call GR hr (by rfl) gR FR.kp bR .nil pass0 (pa_cons (pv 0) (pa_cons (pv 1) pa_nil))))
        (blkOk_by (own := [("page", 3), ("row", 4)]) (N := nSent) (sc := defScope sSent) (by decide +kernel)) (by decide) (fun _ _ _ _ _ => pg_name (i := 3) scSent.nd rfl (.inl rfl)) (fun _ _ _ _ _ => pts_nil) (fun _ _ _ _ _ => pi_tup (pv 3)) (fun _ _ _ _ _ => pg_name (i := 4) scSent.nd rfl (.inl rfl)) (fun _ _ _ _ _ => pts_nil) (fun _ _ _ _ _ => pv 4))
      (pss_one (ps_ret (pe_call GA hr (by rfl) gA FA.kp bA .nil pass0 (pa_cons (pv 0) (pa_cons (pv 2) pa_nil))))), ?_⟩
    refine ⟨.ref a, rfl, .ref b, rfl, a, b, hs, pl, rfl, hA, hB, lv, lp, li, fun H1 p xs s1 n1 e1 v1 => ?_⟩
    have rl := runL_len hs pl []
    have rsum : ∀ i, ((runL hs pl []).take i).flatten.length ≤ 960 := fun i => by
      have h1 := runL_sum lv pl []
      have h2 : ((runL hs pl []).take i).flatten.length ≤ (runL hs pl []).flatten.length := flat_take_le _ i
      omega
    refine ⟨p, rfl, ⟨_, SqT.of e1⟩, fun D hD => walk_tup (xs := xs) (fun i H' => Same H1 H' ∧ H' D = some (.lst (((runL hs pl []).take i).flatten.map V.str))) ⟨same_new hD, upd_same⟩ (fun i H' _ hP => SqT.of (hP.1 _ _ e1)) (fun i x H' hx hP => ?_) (fun H' hP => ?_)⟩
    · obtain ⟨p1, p2⟩ := hP
      obtain ⟨pa, pg, rfl, gpg, hpa⟩ := v1.item hx
      have et : ((runL hs pl []).take (i + 1)).flatten = ((runL hs pl []).take i).flatten ++ pg := by
        rw [List.take_add_one, gpg, List.flatten_append]
        show _ ++ (pg ++ []) = _
        rw [List.append_nil]
      have lpg := rsum (i + 1)
      rw [et, List.length_append] at lpg
      refine ⟨rfl, lc_yes ?_⟩
      refine ⟨_, rfl, pa, rfl, ⟨_, same_t p1 hpa⟩, walk_tup (xs := pg.map V.str) (fun j H' => Same H1 H' ∧ H' D = some (.lst ((((runL hs pl []).take i).flatten ++ pg.take j).map V.str))) ⟨p1, by rw [List.take_zero, List.append_nil]; exact p2⟩ (fun j H' _ hP => same_t hP.1 hpa) (fun j y H' hy hP => ?_) (fun H' hP => ?_)⟩
      · obtain ⟨p1, p2⟩ := hP
        rw [List.getElem?_map] at hy
        obtain ⟨z, hz, rfl⟩ := Option.map_eq_some_iff.mp hy
        refine ⟨rfl, lc_yes ?_⟩
        refine ⟨_, rfl, _, p2, ?_, same_own p1 hD, ?_⟩
        · rw [List.length_map, List.length_append, List.length_take]
          exact small1000 (by omega)
        · rw [upd_same, List.take_add_one, hz, List.map_append, List.map_append, List.map_append, List.append_assoc]
          rfl
      · obtain ⟨p1, p2⟩ := hP
        rw [List.length_map, List.take_length, ← et] at p2
        exact ⟨p1, p2⟩
    · obtain ⟨p1, p2⟩ := hP
      rw [v1.len, List.take_length] at p2
      have s2 := s1.trans p1
      have lm : last.length ≤ 24 := lv last (List.mem_of_getLast? hl)
      exact ⟨.ref a, rfl, .ref D, rfl, a, D, hs, last, _, rfl, hA.same s2, hl, lm, .inl (SqL.of p2), fun H4 p4 s4 n4 e4 => q H4 p4 (s2.trans s4) (s2.free n4) e4⟩
end
end M
namespace M
open PySem PySem.Spec PyProof.Rows L2 Gd
/-! ### xs.extend(t), t a tuple -/
def rExtT (K : PySem.W.Frag) : V → List V → Hp → VK → Prop := fun x vs H Q => ∃ l b xs zs, x = .ref l ∧ vs = [.ref b] ∧ H l = some (.lst xs) ∧ SqT K H b zs ∧ xs.length + zs.length ≤ sizeLine ∧ Q .non (upd H l (.lst (xs ++ zs)))
theorem mt_extT {X : Cx} : MtR X "list.extend" (rExtT X.K) := by
  rintro pins s σ H x vs v us Q I rx rv ⟨l, b, xs, zs, rfl, rfl, hl, hb, hz, q⟩
  cases rx
  obtain ⟨u, rfl, ru⟩ := rv.one
  cases ru
  obtain ⟨z1, its, n, r1, len1, e1⟩ := I.lstM hl
  obtain ⟨its2, r2, ⟨o2, e2, c2, n2, d2⟩, _⟩ := I.tuple hb
  have len2 := r2.length
  refine wpAny_call_entry F.slot_list_extend ⟨_, e1, rfl⟩ F.entry_list_extend ?_ (F.args_list_extend_2 _ _)
  show wpAny _ _ (Builtin.List.listExtendWith (.ref l) (.ref b) .none) _ _ s
  unfold Builtin.List.listExtendWith
  refine wpAny_bind (wpAny_typeOf (T := "tuple") ⟨o2, e2, c2⟩ ?_)
  have tt : (Value.type "tuple" == Value.type "tuple") = true := by rfl
  rw [if_pos (by rw [tt]; simp)]
  refine wpAny_bind (listItems_at e2 d2 ?_)
  refine wpAny_bind (listItems_at e1 rfl ?_)
  have small : its.toArray.size + its2.toArray.size ≤ sizeLine := by
    rw [List.size_toArray, List.size_toArray]
    omega
  rw [if_neg (by rw [notLongL small, Bool.and_false]; exact Bool.false_ne_true)]
  refine wpAny_bind (listUpdate_at e1 rfl ?_ (by rw [List.size_toArray]; omega) (by rw [Array.size_append]; omega))
  refine wpAny_pure ⟨_, rfl, .non, _, I.lset (its' := its ++ its2) (t' := s.toks) hl e1 (by simp) (r1.append r2) ?_, rfl, q⟩
  rw [List.length_append]
  exact hz
/-! ### flat -/
abbrev sFlat : Stmt := topS 16
theorem scFlat : FnScope ["_law_some", "_law_found", "_law_one"] ["_law_some"] (defScope sFlat) := ⟨rfl, rfl, rfl, by decide +kernel, rfl, by decide +kernel, by decide +kernel⟩
def spFlat (K : PySem.W.Frag) : Sp := fun vs H Q _ => ∃ (h : Addr) (hs : List (List Str)), vs = [.ref h] ∧ HistAt K H h hs ∧ hs.flatten.length ≤ 1000 ∧ ∀ H' p, Same H H' → H p = none → H' p = some (.lst (hs.flatten.map V.str)) → Q (.ref p) H'
section
variable {P : Program} {w : World} {K : PySem.W.Frag} {mg : Str → Option Value} {base : Heap}
theorem ok_flat {f : Addr} {fd : FuncData} {k : Nat} (F : Fun K "_law_flat" "_law_flat" sFlat f fd) : FnOk P w K mg base CX0 (k + 1) f fd ["_law_some"] (spFlat K) := by
  refine F.ok scFlat (fun vs H Q E h => ?_) (fun cdv A outer s H vs Q E hr h => ?_)
  · obtain ⟨a, hs, rfl, _⟩ := h
    rfl
  · obtain ⟨a, hs, rfl, ⟨xs, hA, hV⟩, lf, q⟩ := h
    refine ⟨_, pss_cons (ps_set (i := 1) scFlat.nd rfl (.inl rfl) (pe_lst pa_nil))
      (pss_cons (ps_for PassesOwn.never rfl (pi_tup (pv 0)) (pg_name (i := 2) scFlat.nd rfl (.inl rfl))
        (pss_one (ps_expr (pe_bm PySem.F.plainAttrs_list PySem.F.slot_list_extend PySem.F.type_list_extend mt_extT (pv 1) (pa_cons (pv 2) pa_nil)))))
      (pss_one (ps_ret (pv 1)))), ?_⟩
    refine ⟨Nat.zero_le _, fun o ho => ?_⟩
    have s1 : Same H (upd H o (.lst [])) := same_new ho
    have sub : ∀ i, (hs.take i).flatten.length ≤ 1000 := fun i => Nat.le_trans (flat_take_le hs i) lf
    refine ⟨.ref a, rfl, a, rfl, ⟨_, same_t s1 hA⟩, for_tup (xs := xs) (fun i σ H' => ∃ y, σ = [some (.ref a), some (.ref o), y] ∧ Same H H' ∧ H' o = some (.lst ((hs.take i).flatten.map V.str))) ⟨none, rfl, s1, upd_same⟩ (fun i σ H' _ hP => ?_) (fun i x σ H' hx hP => ?_) (fun σ H' hP => ?_)⟩
    · obtain ⟨y, _, p1, _⟩ := hP
      exact same_t p1 hA
    · obtain ⟨y, rfl, p1, p2⟩ := hP
      obtain ⟨pa, pg, rfl, gpg, hpa⟩ := hV.item hx
      have et : (hs.take (i + 1)).flatten = (hs.take i).flatten ++ pg := by
        rw [List.take_add_one, gpg, List.flatten_append]
        show _ ++ (pg ++ []) = _
        rw [List.append_nil]
      have l1 := sub (i + 1)
      rw [et, List.length_append] at l1
      refine ⟨.ref o, rfl, .inl ⟨rfl, _, SqL.of p2⟩, _, rfl, o, pa, _, _, rfl, rfl, p2, same_t p1 hpa, ?_, ⟨_, rfl, same_own p1 ho, ?_⟩⟩
      · rw [List.length_map, List.length_map]
        exact sz1000 l1
      · rw [upd_same, et, List.map_append]
    · obtain ⟨y, rfl, p1, p2⟩ := hP
      rw [hV.len, List.take_length] at p2
      exact ⟨.ref o, rfl, q H' o p1 ho p2⟩
end
end M
namespace M
open PySem PySem.Spec PyProof.Rows L2 Gd
/-! ### data that can be compared and shown -/
structure Nice (d : PyData) (k w : Nat) : Prop where
  lay : d.canLay0 = true
  dep : d.depth ≤ k
  wt : d.weight ≤ w
  ish : d.intsShort 13 = true
  shw : d.showable = true
structure NiceL (ds : List PyData) (k w : Nat) : Prop where
  lay : PyData.canLayAll0 ds = true
  dep : PyData.depthAll ds ≤ k
  wt : PyData.weightAll ds ≤ w
  ish : PyData.intsShortAll 13 ds = true
  shw : PyData.showableAll ds = true
theorem NiceL.nil {k w : Nat} : NiceL [] k w := ⟨rfl, Nat.zero_le _, Nat.zero_le _, rfl, rfl⟩
theorem NiceL.cons {d : PyData} {ds : List PyData} {k w w' u : Nat} (h : Nice d k w) (r : NiceL ds k w') (e : w + 1 + w' ≤ u) : NiceL (d :: ds) k u := by
  refine ⟨?_, Nat.max_le.mpr ⟨h.dep, r.dep⟩, ?_, ?_, ?_⟩
  · show (PyData.canLay0 d && PyData.canLayAll0 ds) = true
    rw [h.lay, r.lay]
    rfl
  · show PyData.weight d + 1 + PyData.weightAll ds ≤ u
    have h1 := h.wt
    have h2 := r.wt
    omega
  · show (PyData.intsShort 13 d && PyData.intsShortAll 13 ds) = true
    rw [h.ish, r.ish]
    rfl
  · show (PyData.showable d && PyData.showableAll ds) = true
    rw [h.shw, r.shw]
    rfl
theorem NiceL.of {k w : Nat} : ∀ {ds : List PyData}, (∀ d ∈ ds, Nice d k w) → NiceL ds k ((w + 1) * ds.length)
  | [], _ => .nil
  | d :: ds, h => .cons (h d List.mem_cons_self) (NiceL.of fun x hx => h x (List.mem_cons_of_mem _ hx)) (by rw [List.length_cons, Nat.mul_add]; omega)
theorem NiceL.up {ds : List PyData} {k w k' w' : Nat} (h : NiceL ds k w) (a : k ≤ k') (b : w ≤ w') : NiceL ds k' w' := ⟨h.lay, Nat.le_trans h.dep a, Nat.le_trans h.wt b, h.ish, h.shw⟩
theorem Nice.up {d : PyData} {k w k' w' : Nat} (h : Nice d k w) (a : k ≤ k') (b : w ≤ w') : Nice d k' w' := ⟨h.lay, Nat.le_trans h.dep a, Nat.le_trans h.wt b, h.ish, h.shw⟩
theorem Nice.tup {ds : List PyData} {k w : Nat} (h : NiceL ds k w) : Nice (.tuple ds) (k + 1) w := ⟨h.lay, Nat.succ_le_succ h.dep, h.wt, h.ish, h.shw⟩
theorem Nice.lst {ds : List PyData} {k w : Nat} (h : NiceL ds k w) : Nice (.list ds) (k + 1) w := ⟨h.lay, Nat.succ_le_succ h.dep, h.wt, h.ish, h.shw⟩
theorem Nice.str {z : Str} {k : Nat} (h : RowS z) : Nice (.str z) k 8 := ⟨h.ok, Nat.zero_le _, h.2.1, rfl, rfl⟩
theorem Nice.none {k w : Nat} : Nice .none k w := ⟨rfl, Nat.zero_le _, Nat.zero_le _, rfl, rfl⟩
theorem Nice.bool {k w : Nat} (b : Bool) : Nice (.bool b) k w := ⟨rfl, Nat.zero_le _, Nat.zero_le _, rfl, rfl⟩
theorem log_lt {n m k : Nat} (h : n < 2 ^ k) (hk : 0 < k) : n.log2 < k := PySem.Flt.log2_lt_of hk h
theorem Nice.int {i : Int} {k : Nat} (h : i.natAbs < 2 ^ 30) : Nice (.int i) k 30 := by
  have hl : i.natAbs.log2 < 30 := PySem.Flt.log2_lt_of (by decide) h
  have h30 : (2 : Nat) ^ 30 = 1073741824 := by decide
  rw [h30] at h
  refine ⟨rfl, Nat.zero_le _, ?_, ?_, ?_⟩
  · show (if (i == 0) = true then 0 else i.natAbs.log2 + 1) ≤ 30
    split <;> omega
  · have z := PyData.intsShortAll_ints [i] (fun n hn => by
      rw [List.mem_singleton.mp hn]
      omega)
    have z : (PyData.intsShort 13 (.int i) && true) = true := z
    rw [Bool.and_true] at z
    exact z
  · show decide (i.natAbs.log2 < 1920) = true
    exact decide_eq_true (by omega)
theorem show_nice {K : PySem.W.Frag} {H : Hp} {x : V} {d : PyData} {Q : VK} (hd : Dp K H x d) (n : Nice d 60 1048576) (q : Q (.str d.shown) H) : rShow K [x] H Q := by
  refine ⟨x, d, rfl, hd, n.shw, PyData.hasDict_of_canLay d n.lay, n.dep, ?_, q⟩
  refine PyData.shown_fits_of_layable0 (B := 13) (by decide) (by decide) ?_ n.ish
  unfold PyData.layable0
  rw [n.lay, decide_eq_true (show d.depth ≤ 64 from Nat.le_trans n.dep (by decide)), decide_eq_true (show d.weight ≤ 2 ^ 20 from n.wt)]
  rfl
theorem Nice.shaped {d : PyData} {k w : Nat} (n : Nice d k w) (h : k ≤ 64) : SeqAt.shaped d = true := by
  unfold SeqAt.shaped
  rw [n.lay]
  exact decide_eq_true (Nat.le_trans n.dep h)
theorem Nice.refl {d : PyData} {k w : Nat} (n : Nice d k w) : PyData.eqv d d = true := SeqAt.eqv_refl d n.lay
/-- tuples of rows -/
def tupD (rows : List Str) : PyData := .tuple (rows.map PyData.str)
theorem nice_rows {rows : List Str} (h : ∀ z ∈ rows, RowS z) : Nice (tupD rows) 1 (9 * rows.length) := by
  have z : NiceL (rows.map PyData.str) 0 (9 * rows.length) := by
    have := NiceL.of (k := 0) (w := 8) (ds := rows.map PyData.str) (fun d hd => by
      obtain ⟨x, hx, rfl⟩ := List.mem_map.mp hd
      exact Nice.str (h x hx))
    rw [List.length_map] at this
    exact this
  exact Nice.tup z
def histD (hs : List (List Str)) : PyData := .tuple (hs.map tupD)
theorem nice_hist {hs : List (List Str)} {m : Nat} (h : ∀ v ∈ hs, v.length ≤ m ∧ ∀ z ∈ v, RowS z) : Nice (histD hs) 2 ((9 * m + 1) * hs.length) := by
  have z := NiceL.of (k := 1) (w := 9 * m) (ds := hs.map tupD) (fun d hd => by
    obtain ⟨v, hv, rfl⟩ := List.mem_map.mp hd
    exact (nice_rows (h v hv).2).up (Nat.le_refl _) (Nat.mul_le_mul_left 9 (h v hv).1))
  rw [List.length_map] at z
  exact Nice.tup z
def reqD (q : Nat × Nat) : PyData := .tuple [.int q.1, .int q.2]
def planD (pl : List (Nat × Nat)) : PyData := .tuple (pl.map reqD)
theorem nice_plan {pl : List (Nat × Nat)} (h : ∀ q ∈ pl, q.1 < 2 ^ 30 ∧ q.2 < 2 ^ 30) : Nice (planD pl) 2 (63 * pl.length) := by
  have z := NiceL.of (k := 1) (w := 62) (ds := pl.map reqD) (fun d hd => by
    obtain ⟨q, hq, rfl⟩ := List.mem_map.mp hd
    exact Nice.tup (.cons (Nice.int (k := 0) (h q hq).1) (.cons (Nice.int (h q hq).2) .nil (w' := 0) (u := 31) (by decide)) (by decide)))
  rw [List.length_map] at z
  exact Nice.tup z
theorem HistAt.dp {K : PySem.W.Frag} {H : Hp} {p : Addr} {hs : List (List Str)} (h : HistAt K H p hs) : Dp K H (.ref p) (histD hs) := by
  obtain ⟨xs, h1, h2⟩ := h
  exact .tup h1 h2.dp
theorem AllAt.dp {α : Type} {R : V → α → Prop} {K : PySem.W.Frag} {H : Hp} {f : α → PyData} (k : ∀ x q, R x q → Dp K H x (f q)) : ∀ {xs : List V} {qs : List α}, AllAt R xs qs → DpAll K H xs (qs.map f)
  | [], [], _ => .nil
  | _ :: _, _ :: _, ⟨h, r⟩ => .cons (k _ _ h) (AllAt.dp k r)
theorem PlanAt.dp {K : PySem.W.Frag} {H : Hp} {p : Addr} {pl : List (Nat × Nat)} (h : PlanAt K H p pl) : Dp K H (.ref p) (planD pl) := by
  obtain ⟨xs, h1, h2⟩ := h
  refine .tup h1 (h2.dp fun x q ⟨a, e, z⟩ => ?_)
  rw [e]
  exact .tup z (.cons (.int _) (.cons (.int _) .nil))
theorem SqT.dp {K : PySem.W.Frag} {H : Hp} {p : Addr} {rows : List Str} (h : SqT K H p (rows.map V.str)) : Dp K H (.ref p) (tupD rows) := .tup h (dp_strs rows)
end M
namespace M
open PySem PySem.Spec PyProof.Rows L2 Gd
/-! ### schedule -/
abbrev sSched : Stmt := topS 15
abbrev nSched : List Str := ["_law_hand_here", "_law_history_here", "_law_found", "_law_turn", "_law_nth"]
theorem scSched : FnScope nSched ["_law_hand_here", "_law_history_here"] (defScope sSched) := ⟨rfl, rfl, rfl, by decide +kernel, rfl, by decide +kernel, by decide +kernel⟩
def spSched (K : PySem.W.Frag) : Sp := fun vs H Q _ => ∃ (a h : Addr) (n : Nat) (hs : List (List Str)), vs = [.ref a, .ref h] ∧ Hd H a n ∧ n < 900000 ∧ HistAt K H h hs ∧ 0 < hs.length ∧ hs.length ≤ 100 ∧
  ∀ H' p pl, But a H H' → Hd H' a (n + 30) → H p = none → PlanAt K H' p pl → pl.length ≤ 12 → (∀ q ∈ pl, q.1 < hs.length ∧ q.2 ≤ 1000) → Q (.ref p) H'
theorem pick_nat {v : V} (h : v ∈ [V.int 0, V.int 1, V.int 1, V.int 2, V.int 3, V.int 1000]) : ∃ c : Nat, v = .int c ∧ c ≤ 1000 := by
  simp only [List.mem_cons, List.not_mem_nil, or_false] at h
  rcases h with rfl | rfl | rfl | rfl | rfl | rfl
  · exact ⟨0, rfl, by decide⟩
  · exact ⟨1, rfl, by decide⟩
  · exact ⟨1, rfl, by decide⟩
  · exact ⟨2, rfl, by decide⟩
  · exact ⟨3, rfl, by decide⟩
  · exact ⟨1000, rfl, by decide⟩
theorem HistAt.length {K : PySem.W.Frag} {H : Hp} {p : Addr} {hs : List (List Str)} (h : HistAt K H p hs) : LenV K (.ref p) H hs.length := by
  obtain ⟨xs, h1, h2⟩ := h
  exact .inr ⟨xs, h1, h2.len.symm⟩
theorem PlanAt.length {K : PySem.W.Frag} {H : Hp} {p : Addr} {pl : List (Nat × Nat)} (h : PlanAt K H p pl) : LenV K (.ref p) H pl.length := by
  obtain ⟨xs, h1, h2⟩ := h
  exact .inr ⟨xs, h1, h2.len.symm⟩
section
variable {P : Program} {w : World} {K : PySem.W.Frag} {mg : Str → Option Value} {base : Heap}
theorem ok_sched {f fT fP : Addr} {fd fdT fdP : FuncData} {k : Nat} (F : Fun K "_law_schedule" "_law_schedule" sSched f fd) (FT : Fun K "_law_take" "_law_take" sTake fT fdT) (bT : Binds K fdT ["_law_hand_here", "_law_many"] []) (gT : mg "_law_take" = some (.ref fT))
    (FP : Fun K "_law_pick" "_law_pick" sPick fP fdP) (bP : Binds K fdP ["_law_hand_here", "_law_items"] []) (gP : mg "_law_pick" = some (.ref fP)) (ml : mg "len" = none) (mr : mg "range" = none) (mt : mg "tuple" = none) (ms : mg "sorted" = none) :
    FnOk P w K mg base CX0 (k + 3) f fd ["_law_hand_here", "_law_history_here"] (spSched K) := by
  have GT : FnOk P w K mg base CX0 (k + 2) fT fdT ["_law_hand_here", "_law_many"] spTake := ok_take FT
  have GP : FnOk P w K mg base CX0 (k + 2) fP fdP ["_law_hand_here", "_law_items"] spPick := ok_pick FP FT bT gT ml
  refine F.ok scSched (fun vs H Q E h => ?_) (fun cdv A outer s H vs Q E hr h => ?_)
  · obtain ⟨a, h, n, hs, rfl, _⟩ := h
    rfl
  · obtain ⟨a, h, n, hs, rfl, hh, hn, hA, h0, h1, q⟩ := h
    refine ⟨_, pss_cons (ps_set (i := 2) scSched.nd rfl (.inl rfl) (pe_callB cr_sorted (by rfl) ms (by decide +kernel) (pa_cons (pe_lc (own := [("_law_turn", 3)]) (g := gName 3) (tt := tYes) (te := tCall spTake [] E0 (tCons (tVar 0) (tCons (tCB (fun xs H Q => ∃ x n, xs = [x] ∧ LenV K x H n ∧ Q (.int n) H) (tCons (tVar 1) tNil)) tNil)))
          rfl scSched.nd (pi_range1 (by rfl) mr (pa_cons (pe_call GT hr (by rfl) gT FT.kp bT .nil pass0 (pa_cons (pv 0) (pa_cons pe_int pa_nil))) pa_nil)) (blkOk_by (own := [("_law_turn", 3)]) (N := nSched) (sc := defScope sSched) (by decide +kernel))
          (fun _ _ _ _ _ => pg_name (i := 3) scSched.nd rfl (.inl rfl)) (fun _ _ _ _ _ => pts_nil) (fun _ _ _ _ _ => pe_call GT hr (by rfl) gT FT.kp bT .nil pass0 (pa_cons (pv 0) (pa_cons (pe_callB call_len (by rfl) ml PySem.boot_len (pa_cons (pv 1) pa_nil)) pa_nil)))) pa_nil)))
      (pss_one (ps_ret (pe_callTy call_tuple_of (by rfl) mt (by decide +kernel) (pa_cons (pe_lc (own := [("_law_nth", 4)]) (g := gName 4) (tt := tYes) (te := tTup (tCons (tVar 4) (tCons (tCall spPick [] E0 (tCons (tVar 0) (tCons (tLst (tCons (tC (.int 0)) (tCons (tC (.int 1)) (tCons (tC (.int 1)) (tCons (tC (.int 2)) (tCons (tC (.int 3)) (tCons (tC (.int 1000)) tNil))))))) tNil))) tNil)))
          rfl scSched.nd (pi_list (pv 2)) (blkOk_by (own := [("_law_nth", 4)]) (N := nSched) (sc := defScope sSched) (by decide +kernel)) (fun _ _ _ _ _ => pg_name (i := 4) scSched.nd rfl (.inl rfl)) (fun _ _ _ _ _ => pts_nil)
          (fun _ _ _ _ _ => pe_tup (pa_cons (pv 4) (pa_cons (pe_call GP hr (by rfl) gP FP.kp bP .nil pass0 (pa_cons (pv 0) (pa_cons (pe_lst (pa_cons pe_int (pa_cons pe_int (pa_cons pe_int (pa_cons pe_int (pa_cons pe_int (pa_cons pe_int pa_nil))))))) pa_nil))) pa_nil)))) pa_nil)))), ?_⟩
    -- the numbers
    refine ⟨.ref a, rfl, a, n, 13, rfl, hh, by omega, by decide, by decide, fun H1 t1 sb1 hd1 t0 t1' => ?_⟩
    obtain ⟨tn, rfl⟩ := Int.eq_ofNat_of_zero_le t0
    refine ⟨tn, rfl, by omega, by omega, fun D hD => lc_range (lo := 0) (n := tn) (fun i H' => But a H H' ∧ Hd H' a (n + 1 + i) ∧ ∃ is : List Int, H' D = some (.lst (is.map V.int)) ∧ is.length = i ∧ ∀ x ∈ is, 0 ≤ x ∧ x < hs.length) ⟨sb1.new hD, hd1.new hD, [], upd_same, rfl, fun x hx => (nomatch hx)⟩ (fun i H' hi hP => ?_) (fun H' hP => ?_)⟩
    · obtain ⟨p1, p2, is, p3, p4, p5⟩ := hP
      have nDa : D ≠ a := hd1.ne hD
      refine ⟨rfl, lc_yes ?_⟩
      refine ⟨.ref a, rfl, .ref h, rfl, _, hs.length, rfl, (hA.but p1 hh).length, a, n + 1 + i, _, rfl, p2, by omega, by omega, by omega, fun H3 v3 sb3 hd3 v0 v1 => ?_⟩
      have e3 := sb3 D _ nDa p3
      refine ⟨_, e3, ?_, (p1.trans sb3).own (fr sb1 hh hd1 hD), hd3.oth nDa, is ++ [v3], ?_, ?_, ?_⟩
      · rw [List.length_map]
        exact small1000 (by omega)
      · rw [upd_same, List.map_append]
        rfl
      · rw [List.length_append, List.length_singleton, p4]
      · intro x hx
        rcases List.mem_append.mp hx with hx | hx
        · exact p5 x hx
        · rw [List.mem_singleton.mp hx]
          exact ⟨v0, v1⟩
    · obtain ⟨p1, p2, is, p3, p4, p5⟩ := hP
      refine ⟨D, is, rfl, SqL.of p3, by omega, fun js g pm so hg => ?_⟩
      have b2 := p1.new (o := .lst (js.map V.int)) hg
      have hd2 := p2.new (o := .lst (js.map V.int)) hg
      have nga : g ≠ a := p2.ne hg
      have e2 : (upd H' g (.lst (js.map V.int))) g = some (.lst (js.map V.int)) := upd_same
      generalize upd H' g (.lst (js.map V.int)) = H2 at b2 hd2 e2 ⊢
      have hjs : ∀ x ∈ js, 0 ≤ x ∧ x < hs.length := fun x hx => p5 x (pm.subset hx)
      have ljs : js.length = tn := by rw [pm.length_eq, p4]
      -- the pairs
      refine ⟨.ref g, rfl, g, rfl, ⟨_, SqL.of e2⟩, fun D2 hD2 => lc_list (xs := js.map V.int) (fun i H' => But a H2 H' ∧ Hd H' a (n + 1 + tn + i) ∧ ∃ xs pl, H' D2 = some (.lst xs) ∧ AllAt (ReqAt K H') xs pl ∧ pl.length = i ∧ ∀ q ∈ pl, q.1 < hs.length ∧ q.2 ≤ 1000)
        ⟨(But.refl a H2).new hD2, hd2.new hD2, [], [], upd_same, trivial, rfl, fun q hq => (nomatch hq)⟩ (fun i H' _ hP => SqL.of (hP.1 g _ nga e2)) (fun i x H' hx hP => ?_) (fun H' hP => ?_)⟩
      · obtain ⟨p1, p2, xs, pl, p3, p4, p5, p6⟩ := hP
        have nDa : D2 ≠ a := hd2.ne hD2
        rw [List.getElem?_map] at hx
        obtain ⟨y, hy, rfl⟩ := Option.map_eq_some_iff.mp hx
        have hi : i < js.length := (List.getElem?_eq_some_iff.mp hy).1
        obtain ⟨y0, y1⟩ := hjs y (List.mem_of_getElem? hy)
        obtain ⟨m, rfl⟩ := Int.eq_ofNat_of_zero_le y0
        refine ⟨rfl, lc_yes ?_⟩
        refine ⟨_, rfl, .ref a, rfl, (by show 6 ≤ sizeLine; decide), fun l3 hl3 => ?_⟩
        refine ⟨a, n + 1 + tn + i, .ref l3, rfl, p2.new hl3, by omega, .inl ⟨l3, _, rfl, p2.ne hl3, .inl upd_same, (by show 0 < 6; decide), (by show 6 ≤ 1000; decide), fun H4 v4 sb4 hd4 hv4 => ?_⟩⟩
        obtain ⟨c, rfl, hc⟩ := pick_nat hv4
        refine ⟨(by show 2 ≤ sizeLine; decide), fun t ht => ?_⟩
        have b4 : But a H' H4 := ((But.refl a H').new hl3).trans sb4
        have e4 : H4 D2 = some (.lst xs) := b4 D2 _ nDa p3
        have e5 : (upd H4 t (.tup [.int m, .int c])) D2 = some (.lst xs) := by
          rw [upd_ne (ne_of_none e4 ht)]
          exact e4
        refine ⟨_, e5, ?_, ?_, (hd4.new ht).oth nDa, xs ++ [.ref t], pl ++ [(m, c)], upd_same, ?_, ?_, ?_⟩
        · rw [p4.len]
          exact small1000 (by omega)
        · exact ((p1.trans b4).new ht).own hD2
        · refine AllAt.snoc ⟨t, rfl, upd_t e5 (SqT.of upd_same)⟩ (p4.keep ?_)
          rintro x q ⟨z, rfl, hz⟩
          exact ⟨z, rfl, upd_t e5 (same_t (same_new ht) (but_t b4 p2 hz))⟩
        · rw [List.length_append, List.length_singleton, p5]
        · intro q hq
          rcases List.mem_append.mp hq with hq | hq
          · exact p6 q hq
          · rw [List.mem_singleton.mp hq]
            exact ⟨by show m < hs.length; omega, hc⟩
      · obtain ⟨p1, p2, xs, pl, p3, p4, p5, p6⟩ := hP
        rw [List.length_map] at p2 p5
        refine ⟨D2, _, rfl, .inl ⟨SqL.of p3, fun t ht => ?_⟩⟩
        have b5 := b2.trans p1
        refine q _ t pl (b5.new ht) ((p2.new ht).up (by omega)) (fr b5 hh p2 ht) ⟨xs, SqT.of upd_same, p4.keep ?_⟩ (by omega) p6
        rintro x q ⟨z, rfl, hz⟩
        exact ⟨z, rfl, same_t (same_new ht) hz⟩
end
/-! ### served -/
abbrev sServed : Stmt := topS 17
abbrev nServed : List Str := ["_law_history_here", "_law_requests_made", "_law_there", "_law_pages", "_law_nth", "_law_most", "_law_page", "_law_row"]
theorem scServed : FnScope nServed ["_law_history_here", "_law_requests_made"] (defScope sServed) := ⟨rfl, rfl, rfl, by decide +kernel, rfl, by decide +kernel, by decide +kernel⟩
/-- the dict of the rows that were sent -/
def There (kvs : List (Key × V)) (sent : List Str) : Prop := kvs.length ≤ sent.length ∧ ∀ x : Str, (valV kvs (Sum.inr x)).isSome = sent.contains x
theorem putK_len (kvs : List (Key × V)) (k : Key) (v : V) : (putK kvs k v).length ≤ kvs.length + 1 := by
  unfold putK
  split
  · rw [List.length_map]
    omega
  · rw [List.length_append, List.length_singleton]
    omega
theorem There.put {kvs : List (Key × V)} {sent : List Str} (h : There kvs sent) (y : Str) : There (putK kvs (Sum.inr y) (.bl true)) (sent ++ [y]) := by
  refine ⟨?_, fun x => ?_⟩
  · have := putK_len kvs (Sum.inr y) (.bl true)
    have := h.1
    rw [List.length_append, List.length_singleton]
    omega
  · rw [valV_put, List.contains_append]
    by_cases e : x = y
    · rw [if_pos (by rw [e])]
      subst e
      simp
    · rw [if_neg (by intro z; exact e (Sum.inr.inj z)), h.2 x]
      have : [y].contains x = false := by simp [e]
      rw [this, Bool.or_false]
section
variable {P : Program} {w : World} {K : PySem.W.Frag} {mg : Str → Option Value} {base : Heap}
theorem ok_served {f : Addr} {fd : FuncData} {k : Nat} (F : Fun K "_law_served" "_law_served" sServed f fd) (ml : mg "len" = none) (mt : mg "tuple" = none) : FnOk P w K mg base CX0 (k + 1) f fd ["_law_history_here", "_law_requests_made"] (spRun K) := by
  refine F.ok scServed (fun vs H Q E h => ?_) (fun cdv A outer s H vs Q E hr h => ?_)
  · obtain ⟨a, b, hs, pl, rfl, _⟩ := h
    rfl
  · obtain ⟨a, b, hs, pl, rfl, hA, ⟨ys, hB, hP⟩, lv, lp, li, q⟩ := h
    have hu := hu_of hr
    refine ⟨_, pss_cons (ps_par (i := 2) (j := 3) (by rfl) scServed.nd rfl rfl (by decide) rfl rfl (pa_cons pe_dnewK (pa_cons (pe_lst pa_nil) pa_nil)) (by rfl))
      (pss_cons (ps_for PassesOwn.never rfl (pi_tup (pv 1)) (pg_tup (by rfl) (pgs_cons (pg_name (i := 4) scServed.nd rfl (.inl rfl)) (pgs_cons (pg_name (i := 5) scServed.nd rfl (.inl rfl)) pgs_nil)))
        (pss_cons (ps_set (i := 6) scServed.nd rfl (.inl rfl) (pe_lst pa_nil))
        (pss_cons (ps_for PassesOwn.never rfl (pi_tup (pe_ix ix_tup (pv 0) (pv 4) (fun _ _ => rfl))) (pg_name (i := 7) scServed.nd rfl (.inl rfl))
          (pss_one (ps_if (PW.pt (pw_and (pt_cmp (pc_dnotin hu (pv 7) (pv 2))) (pw_and1 (pt_cmpR op_lt (pe_callB call_len (by rfl) ml PySem.boot_len (pa_cons (pv 6) pa_nil)) (pv 5) (nomark _)))))
            (pss_one (ps_expr (pe_bm PySem.F.plainAttrs_list PySem.F.slot_list_append PySem.F.type_list_append mt_append (pv 6) (pa_cons (pv 7) pa_nil)))) pss_nil)))
        (pss_cons (ps_for PassesOwn.never rfl (pi_list (pv 6)) (pg_name (i := 7) scServed.nd rfl (.inl rfl)) (pss_one (ps_dput hu (pv 2) (pv 7) pe_bl rfl)))
        (pss_one (ps_expr (pe_bm PySem.F.plainAttrs_list PySem.F.slot_list_append PySem.F.type_list_append mt_append (pv 3) (pa_cons (pe_callTy call_tuple_of (by rfl) mt (by decide +kernel) (pa_cons (pv 6) pa_nil)) pa_nil))))))))
      (pss_one (ps_ret (pe_callTy call_tuple_of (by rfl) mt (by decide +kernel) (pa_cons (pv 3) pa_nil))))), ?_⟩
    refine fun d hd => ?_
    refine ⟨Nat.zero_le _, fun o ho => ?_⟩
    refine ⟨_, _, rfl, ?_⟩
    have s1 : Same H (upd H d (.dK [])) := same_new hd
    have oH : H o = none := s1.free ho
    have ndo : d ≠ o := ne_of_none upd_same ho
    have s2 : Same H (upd (upd H d (.dK [])) o (.lst [])) := s1.trans (same_new ho)
    have e0 : (upd (upd H d (.dK [])) o (.lst [])) d = some (.dK []) := by
      rw [upd_ne ndo]
      exact upd_same
    refine ⟨.ref b, rfl, b, rfl, ⟨_, same_t s2 hB⟩, for_tup (xs := ys) (fun i σ H' => ∃ (kvs : List (Key × V)) (xs : List V) (y4 y5 y6 y7 : Option V), σ = [some (.ref a), some (.ref b), some (.ref d), some (.ref o), y4, y5, y6, y7] ∧ Same H H' ∧ H' d = some (.dK kvs) ∧ There kvs (runL hs (pl.take i) []).flatten ∧ H' o = some (.lst xs) ∧ VsAt K H' xs (runL hs (pl.take i) []))
      ⟨[], [], none, none, none, none, rfl, s2, e0, ⟨Nat.le_refl _, fun x => rfl⟩, upd_same, by rw [List.take_zero]; exact trivial⟩ (fun i σ H' _ hP' => ?_) (fun i x σ H' hx hP' => ?_) (fun σ H' hP' => ?_)⟩
    · obtain ⟨kvs, xs, y4, y5, y6, y7, _, p1, _⟩ := hP'
      exact same_t p1 hB
    · obtain ⟨kvs, xs, y4, y5, y6, y7, rfl, p1, p2, p3, p4, p5⟩ := hP'
      obtain ⟨rq, hrq, c, rfl, hc⟩ := hP.get hx
      have hi : i < pl.length := (List.getElem?_eq_some_iff.mp hrq).1
      have et : pl.take (i + 1) = pl.take i ++ [rq] := by
        rw [List.take_add_one, hrq]
        rfl
      have er : runL hs (pl.take (i + 1)) [] = runL hs (pl.take i) [] ++ [pageL (hs.getD rq.1 []) (runL hs (pl.take i) []).flatten rq.2] := by
        rw [et, runL_snoc, List.nil_append]
      have hv := li rq (List.mem_of_getElem? hrq)
      have l3 := getD_ver lv rq.1
      have l4 := runL_sum lv (pl.take i) []
      have l6 : (pl.take i).length = i := by
        rw [List.length_take]
        omega
      refine ⟨c, _, rfl, same_t p1 hc, rfl, _, _, rfl, _, _, rfl, rfl, ?_⟩
      -- page = []
      refine ⟨Nat.zero_le _, fun g hg => ?_⟩
      have gH : H g = none := p1.free hg
      have ngd : g ≠ d := fun z => by rw [z, p2] at hg; cases hg
      have ngo : g ≠ o := fun z => by rw [z, p4] at hg; cases hg
      have s5 : Same H' (upd H' g (.lst [])) := same_new hg
      obtain ⟨zs, hA1, hA2⟩ := hA.same (p1.trans s5)
      have gv : hs[rq.1]? = some (hs.getD rq.1 []) := by
        rw [List.getD_eq_getElem?_getD, List.getElem?_eq_getElem hv]
        rfl
      obtain ⟨v, gx, hv2⟩ := hA2.get gv
      refine ⟨.ref a, rfl, _, rfl, a, _, _, _, rfl, rfl, hA1, atI_nat gx, v, rfl, ⟨_, hv2⟩, for_tup (xs := (hs.getD rq.1 []).map V.str) (fun j σ H6 => ∃ y, σ = [some (.ref a), some (.ref b), some (.ref d), some (.ref o), some (.int rq.1), some (.int rq.2), some (.ref g), y] ∧ Same H' H6 ∧ H6 g = some (.lst ((pageL ((hs.getD rq.1 []).take j) (runL hs (pl.take i) []).flatten rq.2).map V.str)))
        ⟨_, rfl, s5, by rw [upd_same, List.take_zero]; unfold pageL; rw [List.filter_nil, List.take_nil]; rfl⟩ (fun j σ H6 _ hQ => ?_) (fun j x σ H6 hx6 hQ => ?_) (fun σ H6 hQ => ?_)⟩
      · obtain ⟨y, _, q1, q2⟩ := hQ
        rcases hv2 with (z | ⟨z1, z⟩) | z
        · exact same_t q1 (.inl (.inl (by rw [upd_ne (fun e => by rw [e, upd_same] at z; cases z)] at z; exact z)))
        · exact same_t q1 (.inl (.inr ⟨z1, by rw [upd_ne (fun e => by rw [e, upd_same] at z; cases z)] at z; exact z⟩))
        · exact .inr z
      · obtain ⟨y, rfl, q1, q2⟩ := hQ
        rw [List.getElem?_map] at hx6
        obtain ⟨r, hr6, rfl⟩ := Option.map_eq_some_iff.mp hx6
        have e := pageL_snoc ((hs.getD rq.1 []).take j) (runL hs (pl.take i) []).flatten r rq.2
        have etj : (hs.getD rq.1 []).take (j + 1) = (hs.getD rq.1 []).take j ++ [r] := by
          rw [List.take_add_one, hr6]
          rfl
        rw [← etj] at e
        have hd6 : H6 d = some (.dK kvs) := q1 _ _ p2
        refine ⟨_, rfl, .ref d, rfl, d, _, rfl, DGet.k (k := Sum.inr r) hd6, _, rfl, ?_⟩
        show if (!(valV kvs (Sum.inr r)).isSome) = true then _ else _
        rw [p3.2 r]
        refine ite2 (fun h1 => ?_) (fun h1 => iteF ?_)
        · refine ⟨.ref g, rfl, _, _, rfl, .inl ⟨_, SqL.of q2, rfl⟩, _, rfl, _, _, rfl, rfl, _, rfl, ite2 (fun h2 => ?_) (fun h2 => ?_)⟩
          · have h2 := of_decide_eq_true h2
            rw [List.length_map] at h2
            rw [if_pos ⟨by omega, by simpa using h1⟩] at e
            refine ⟨.ref g, rfl, .inl ⟨rfl, _, SqL.of q2⟩, _, rfl, g, _, _, rfl, rfl, q2, ?_, ⟨_, rfl, same_own q1 hg, ?_⟩⟩
            · rw [List.length_map]
              exact small1000 (Nat.le_trans (pageL_le _ _ _) (by rw [List.length_take]; omega))
            · rw [upd_same, e, List.map_append]
              rfl
          · have h2 : ¬ ((((pageL ((hs.getD rq.1 []).take j) (runL hs (pl.take i) []).flatten rq.2).map V.str).length : Int) < rq.2) := fun z => h2 (decide_eq_true z)
            rw [List.length_map] at h2
            rw [if_neg (by omega)] at e
            refine ⟨_, rfl, q1, ?_⟩
            rw [e]
            exact q2
        · rw [if_neg (by simp at h1 ⊢; intro _; exact h1)] at e
          refine ⟨_, rfl, q1, ?_⟩
          rw [e]
          exact q2
      · obtain ⟨y, rfl, q1, q2⟩ := hQ
        rw [List.length_map, List.take_length] at q2
        have l5 := pageL_le (hs.getD rq.1 []) (runL hs (pl.take i) []).flatten rq.2
        -- there[row] = True
        refine ⟨.ref g, rfl, g, rfl, ⟨_, SqL.of q2⟩, for_list (xs := (pageL (hs.getD rq.1 []) (runL hs (pl.take i) []).flatten rq.2).map V.str) (fun j σ H7 => ∃ (kv2 : List (Key × V)) (y : Option V), σ = [some (.ref a), some (.ref b), some (.ref d), some (.ref o), some (.int rq.1), some (.int rq.2), some (.ref g), y] ∧ Same H H7 ∧ H7 d = some (.dK kv2) ∧ There kv2 ((runL hs (pl.take i) []).flatten ++ (pageL (hs.getD rq.1 []) (runL hs (pl.take i) []).flatten rq.2).take j) ∧ (∀ z u, z ≠ d → H6 z = some u → H7 z = some u))
          ⟨kvs, _, rfl, p1.trans q1, q1 _ _ p2, by rw [List.take_zero, List.append_nil]; exact p3, fun _ _ _ e => e⟩ (fun j σ H7 _ hQ => ?_) (fun j x σ H7 hx7 hQ => ?_) (fun σ H7 hQ => ?_)⟩
        · obtain ⟨kv2, y, _, _, _, _, r5⟩ := hQ
          exact SqL.of (r5 g _ ngd q2)
        · obtain ⟨kv2, y, rfl, r1, r2, r3, r5⟩ := hQ
          rw [List.getElem?_map] at hx7
          obtain ⟨r, hr7, rfl⟩ := Option.map_eq_some_iff.mp hx7
          have r3b := r3.1
          rw [List.length_append, List.length_take] at r3b
          refine ⟨.ref d, rfl, _, rfl, d, _, rfl, DPut.k (k := Sum.inr r) r2 (small1000 (by omega)), ?_⟩
          refine ⟨_, _, rfl, same_own r1 hd, upd_same, ?_, fun z u nz e => ?_⟩
          · rw [List.take_add_one, hr7, ← List.append_assoc]
            exact r3.put r
          · rw [upd_ne nz]
            exact r5 z u nz e
        · obtain ⟨kv2, y, rfl, r1, r2, r3, r5⟩ := hQ
          rw [List.length_map, List.take_length] at r3
          have g7 := r5 g _ ngd q2
          have o7 := r5 o _ ndo.symm (q1 _ _ p4)
          have k7 : ∀ bb yy, SqT K H' bb yy → SqT K H7 bb yy := by
            intro bb yy z
            have z6 := same_t q1 z
            have hd6 : H6 d = some (.dK kvs) := q1 _ _ p2
            rcases z6 with (z | ⟨u, z⟩) | z
            · exact .inl (.inl (r5 bb _ (fun e => by rw [e, hd6] at z; cases z) z))
            · exact .inl (.inr ⟨u, r5 bb _ (fun e => by rw [e, hd6] at z; cases z) z⟩)
            · exact .inr z
          -- pages.append(tuple(page))
          refine ⟨.ref o, rfl, .inl ⟨rfl, _, SqL.of o7⟩, .ref g, rfl, g, _, rfl, .inl ⟨SqL.of g7, fun t ht => ?_⟩⟩
          have o8 : (upd H7 t (.tup ((pageL (hs.getD rq.1 []) (runL hs (pl.take i) []).flatten rq.2).map V.str))) o = some (.lst xs) := by
            rw [upd_ne (ne_of_none o7 ht)]
            exact o7
          refine ⟨o, _, _, rfl, rfl, o8, ?_, ?_⟩
          · rw [p5.len, runL_len, l6]
            exact small1000 (by omega)
          · refine ⟨kv2, _, _, _, _, _, rfl, same_own (r1.trans (same_new ht)) oH, ?_, ?_, upd_same, ?_⟩
            · rw [upd_ne ndo, upd_ne (ne_of_none r2 ht)]
              exact r2
            · rw [er, List.flatten_append, List.flatten_singleton]
              exact r3
            · rw [er]
              exact VsAt.snoc (upd_t o8 (SqT.of upd_same)) (((p5.keep k7).keep fun _ _ => same_t (same_new ht)).keep fun _ _ => upd_t o8)
    · obtain ⟨kvs, xs, y4, y5, y6, y7, rfl, p1, p2, p3, p4, p5⟩ := hP'
      rw [hP.len, List.take_length] at p5
      refine ⟨.ref o, rfl, o, _, rfl, .inl ⟨SqL.of p4, fun t ht => ?_⟩⟩
      exact q _ t xs (p1.trans (same_new ht)) (p1.free ht) upd_same (p5.keep fun _ _ => same_t (same_new ht))
end
end M
namespace M
open PySem PySem.Spec PyProof.Rows L2 Gd
/-! ### mathematics -/
theorem runL_take (hs : List (List Str)) : ∀ (l : List (Nat × Nat)) (s : List Str) (c : Nat), runL hs (l.take c) s = (runL hs l s).take c
  | [], _, c => by
    rw [List.take_nil]
    exact List.take_nil.symm
  | q :: l, s, 0 => rfl
  | q :: l, s, c + 1 => by
    show pageL (hs.getD q.1 []) s q.2 :: runL hs (l.take c) _ = pageL (hs.getD q.1 []) s q.2 :: (runL hs l _).take c
    rw [runL_take hs l]
theorem page_nodup {v s : List Str} (h : v.Nodup) (c : Nat) : (pageL v s c).Nodup := (h.sublist List.filter_sublist).sublist (List.take_sublist _ _)
theorem getD_nodup {hs : List (List Str)} (h : ∀ v ∈ hs, v.Nodup) (i : Nat) : (hs.getD i []).Nodup := by
  rw [List.getD_eq_getElem?_getD]
  cases e : hs[i]? with
  | none => exact List.nodup_nil
  | some v => exact h v (List.mem_of_getElem? e)
theorem run_nodup {hs : List (List Str)} (h : ∀ v ∈ hs, v.Nodup) : ∀ (l : List (Nat × Nat)) (s : List Str), (runL hs l s).flatten.Nodup ∧ ∀ x ∈ (runL hs l s).flatten, x ∉ s
  | [], s => ⟨List.nodup_nil, fun x hx => (nomatch hx)⟩
  | q :: l, s => by
    obtain ⟨h1, h2⟩ := run_nodup h l (s ++ pageL (hs.getD q.1 []) s q.2)
    have h3 := page_nodup (s := s) (getD_nodup h q.1) q.2
    have h4 : ∀ x ∈ pageL (hs.getD q.1 []) s q.2, x ∉ s := fun x hx hs' => by
      have := page_off hx
      rw [List.contains_eq_mem, decide_eq_false_iff_not] at this
      exact this hs'
    have e : (runL hs (q :: l) s).flatten = pageL (hs.getD q.1 []) s q.2 ++ (runL hs l (s ++ pageL (hs.getD q.1 []) s q.2)).flatten := rfl
    rw [e]
    refine ⟨List.nodup_append.mpr ⟨h3, h1, fun a ha b hb z => ?_⟩, fun x hx => ?_⟩
    · rw [← z] at hb
      exact h2 a hb (List.mem_append_right _ ha)
    · rcases List.mem_append.mp hx with hx | hx
      · exact h4 x hx
      · exact fun z => h2 x hx (List.mem_append_left _ z)
theorem run_mem {hs : List (List Str)} : ∀ (l : List (Nat × Nat)) (s : List Str) (p : List Str), p ∈ runL hs l s → ∃ i s' c, p = pageL (hs.getD i []) s' c
  | q :: l, s, p, h => by
    rcases List.mem_cons.mp (show p ∈ pageL (hs.getD q.1 []) s q.2 :: runL hs l _ from h) with e | e
    · exact ⟨_, _, _, e⟩
    · exact run_mem l _ p e
theorem run_rows {hs : List (List Str)} (h : ∀ v ∈ hs, VerOk v) {l : List (Nat × Nat)} {s : List Str} : ∀ p ∈ runL hs l s, p.length ≤ 24 ∧ ∀ z ∈ p, RowS z := by
  intro p hp
  obtain ⟨i, s', c, rfl⟩ := run_mem l s p hp
  have hl := getD_ver (fun v hv => (h v hv).len) i
  refine ⟨Nat.le_trans (pageL_le _ _ _) hl, fun z hz => ?_⟩
  have hz := page_sub hz
  rw [List.getD_eq_getElem?_getD] at hz
  cases e : hs[i]? with
  | none => rw [e] at hz; cases hz
  | some v =>
    rw [e] at hz
    exact (h v (List.mem_of_getElem? e)).row z hz
theorem merge_len : ∀ (rows : List Str) (acc : List (Key × V)), rows.Nodup → (∀ x ∈ rows, valV acc (Sum.inr x) = none) → (mergeK acc (rows.map fun r => ((Sum.inr r : Key), V.bl true))).length = acc.length + rows.length
  | [], _, _, _ => rfl
  | x :: rows, acc, nd, h => by
    have nx := List.nodup_cons.mp nd
    have e : putK acc (Sum.inr x) (.bl true) = acc ++ [((Sum.inr x : Key), V.bl true)] := by
      unfold putK
      rw [valV_any, h x List.mem_cons_self]
      rfl
    show (mergeK (putK acc (Sum.inr x) (.bl true)) (rows.map fun r => ((Sum.inr r : Key), V.bl true))).length = _
    rw [merge_len rows _ nx.2 (fun y hy => ?_), e, List.length_append, List.length_singleton, List.length_cons]
    · omega
    · rw [valV_put, if_neg (fun z => nx.1 (by rw [← Sum.inr.inj z]; exact hy))]
      exact h y (List.mem_cons_of_mem _ hy)
theorem live_two {last sent : List Str} (h1 : last.Nodup) (h2 : sent.Nodup) : (srt last).filter (fun r => sent.contains r) = srt (sent.filter fun r => last.contains r) := by
  refine srt_eq ?_ ((srt_pw last).sublist List.filter_sublist)
  have n1 : ((srt last).filter fun r => sent.contains r).Nodup := (srt_nodup h1).sublist List.filter_sublist
  have n2 : (sent.filter fun r => last.contains r).Nodup := h2.sublist List.filter_sublist
  refine (List.perm_ext_iff_of_nodup n1 n2).mpr fun x => ?_
  rw [List.mem_filter, List.mem_filter, srt_mem, List.contains_iff_mem, List.contains_iff_mem]
  exact And.comm
/-- t[:c] -/
theorem slA_of {K : PySem.W.Frag} {H : Hp} {Q : VK} {a : Addr} {xs : List V} {c : Nat} (ha : SqT K H a xs) (q : ∀ H' p, Same H H' → SqT K H' p (xs.take c) → Q (.ref p) H') : rSlA K (.ref a) none (some (c : Int)) H Q := by
  refine ⟨a, xs, rfl, ha, fun e => ?_, fun _ p hp => ?_⟩
  · refine q H a (Same.refl H) ?_
    rw [HT.sIx_nat] at e
    rw [List.take_of_length_le (by omega)]
    exact ha
  · refine q _ p (same_new hp) (SqT.of ?_)
    rw [upd_same, cut_to]
abbrev sLaw : Stmt := topS 18
abbrev nLaw : List Str := ["_law_script", "_law_k", "_law_hand_here", "_law_turn", "_law_history_here", "_law_plan", "_law_due", "_law_held", "_law_rows_sent", "_law_cut", "_law_row"]
theorem scLaw : FnScope nLaw ["_law_script"] (defScope sLaw) := ⟨rfl, rfl, rfl, by decide +kernel, rfl, by decide +kernel, by decide +kernel⟩
def spLaw (K : PySem.W.Frag) : Sp := fun vs H Q _ => ∃ (a : Addr) (ns : List Int), vs = [.ref a] ∧ SqL K H a (ns.map V.int) ∧ ns.length ≤ 63 ∧ ∀ H', Q (.bl true) H'
structure Txt0 (K : PySem.W.Frag) (mg : Str → Option Value) (fH fT fP fN fS fC fI fQ fF fE fO fR fL fA fB : Addr) (dH dT dP dN dS dC dI dQ dF dE dO dR dL dA dB : FuncData) : Prop where
  H : Fun K "_law_hand" "_law_hand" sHand fH dH
  bH : Binds K dH ["_law_script", "_law_k"] []
  gH : mg "_law_hand" = some (.ref fH)
  T : Fun K "_law_take" "_law_take" sTake fT dT
  bT : Binds K dT ["_law_hand_here", "_law_many"] []
  gT : mg "_law_take" = some (.ref fT)
  P : Fun K "_law_pick" "_law_pick" sPick fP dP
  bP : Binds K dP ["_law_hand_here", "_law_items"] []
  gP : mg "_law_pick" = some (.ref fP)
  N : Fun K "_law_names" "_law_names" sNames fN dN
  bN : Binds K dN ["_law_hand_here", "_law_count"] []
  gN : mg "_law_names" = some (.ref fN)
  S : Fun K "_law_shuffled" "_law_shuffled" sShuf fS dS
  bS : Binds K dS ["_law_hand_here", "_law_items"] []
  gS : mg "_law_shuffled" = some (.ref fS)
  C : Fun K "_law_changed" "_law_changed" sChg fC dC
  bC : Binds K dC ["_law_hand_here", "_law_version", "_law_fresh"] []
  gC : mg "_law_changed" = some (.ref fC)
  I : Fun K "_law_history" "_law_history" sHist fI dI
  bI : Binds K dI ["_law_hand_here", "_law_most_rows", "_law_most_versions"] []
  gI : mg "_law_history" = some (.ref fI)
  Q : Fun K "_law_schedule" "_law_schedule" sSched fQ dQ
  bQ : Binds K dQ ["_law_hand_here", "_law_history_here"] []
  gQ : mg "_law_schedule" = some (.ref fQ)
  F : Fun K "_law_flat" "_law_flat" sFlat fF dF
  bF : Binds K dF ["_law_some"] []
  gF : mg "_law_flat" = some (.ref fF)
  E : Fun K "_law_served" "_law_served" sServed fE dE
  bE : Binds K dE ["_law_history_here", "_law_requests_made"] []
  gE : mg "_law_served" = some (.ref fE)
  O : Fun K "page_of" "page_of" sPage fO dO
  bO : Binds K dO ["version", "sent", "count"] []
  gO : mg "page_of" = some (.ref fO)
  R : Fun K "run_schedule" "run_schedule" sRun fR dR
  bR : Binds K dR ["history", "schedule"] []
  gR : mg "run_schedule" = some (.ref fR)
  L : Fun K "live_rows" "live_rows" sLive fL dL
  bL : Binds K dL ["history"] []
  gL : mg "live_rows" = some (.ref fL)
  A : Fun K "live_rows_among" "live_rows_among" sAmong fA dA
  bA : Binds K dA ["history", "rows"] []
  gA : mg "live_rows_among" = some (.ref fA)
  B : Fun K "sent_live" "sent_live" sSent fB dB
  bB : Binds K dB ["history", "schedule"] []
  gB : mg "sent_live" = some (.ref fB)
  len : mg "len" = none
  abs : mg "abs" = none
  int : mg "int" = none
  rng : mg "range" = none
  lst : mg "list" = none
  tup : mg "tuple" = none
  rpr : mg "repr" = none
  max : mg "max" = none
  min : mg "min" = none
  srt : mg "sorted" = none
  dct : mg "dict" = none
theorem but_same {H H1 H2 : Hp} {p : Addr} (s : Same H H1) (hp : H p = none) (b : But p H1 H2) : Same H H2 := fun c o e => b c o (ne_of_none e hp) (s c o e)
def heldD (hs : List (List Str)) (pl : List (Nat × Nat)) : PyData := .tuple [histD hs, planD pl]
section
variable {P : Program} {w : World} {K : PySem.W.Frag} {mg : Str → Option Value} {base : Heap}
theorem ok_law {f fH fT fP fN fS fC fI fQ fF fE fO fR fL fA fB : Addr} {fd dH dT dP dN dS dC dI dQ dF dE dO dR dL dA dB : FuncData} (F : Fun K "law" "law" sLaw f fd) (T : Txt0 K mg fH fT fP fN fS fC fI fQ fF fE fO fR fL fA fB dH dT dP dN dS dC dI dQ dF dE dO dR dL dA dB) : FnG P w K mg base 5 f fd ["_law_script"] (spLaw K) := by
  have GH : FnOk P w K mg base CX0 4 fH dH ["_law_script", "_law_k"] (spHand K) := ok_hand T.H T.len T.abs T.int
  have GT : FnOk P w K mg base CX0 4 fT dT ["_law_hand_here", "_law_many"] spTake := ok_take T.T
  have GN : FnOk P w K mg base CX0 3 fN dN ["_law_hand_here", "_law_count"] spNames := ok_names T.N T.T T.bT T.gT T.P T.bP T.gP T.len T.rng
  have GS : FnOk P w K mg base CX0 3 fS dS ["_law_hand_here", "_law_items"] spShuf := ok_shuf T.S T.T T.bT T.gT T.len T.lst
  have GC : FnOk P w K mg base CX0 3 fC dC ["_law_hand_here", "_law_version", "_law_fresh"] (spChg K) := ok_chg T.C T.T T.bT T.gT T.P T.bP T.gP T.len T.lst T.tup
  have GI : FnOk P w K mg base CX0 4 fI dI ["_law_hand_here", "_law_most_rows", "_law_most_versions"] (spHist K) := ok_hist T.I T.gT T.T T.bT T.gN T.N T.bN GN T.gS T.S T.bS GS T.gC T.C T.bC GC T.min T.tup T.rng
  have GQ : FnOk P w K mg base CX0 4 fQ dQ ["_law_hand_here", "_law_history_here"] (spSched K) := ok_sched T.Q T.T T.bT T.gT T.P T.bP T.gP T.len T.rng T.tup T.srt
  have GF : FnOk P w K mg base CX0 4 fF dF ["_law_some"] (spFlat K) := ok_flat T.F
  have GE : FnOk P w K mg base CX0 4 fE dE ["_law_history_here", "_law_requests_made"] (spRun K) := ok_served T.E T.len T.tup
  have GR : FnOk P w K mg base CX0 4 fR dR ["history", "schedule"] (spRun K) := ok_run T.R T.O T.bO T.gO T.tup
  have GA : FnOk P w K mg base CX0 3 fA dA ["history", "rows"] (spAmong K) := ok_among T.A T.L T.bL T.gL T.tup T.srt
  have GB : FnOk P w K mg base CX0 4 fB dB ["history", "schedule"] (spSent K) := ok_sent T.B T.R T.bR T.gR (ok_run T.R T.O T.bO T.gO T.tup) T.A T.bA T.gA GA
  refine okG F scLaw (fun vs H Q E h => ?_) (fun cdv A outer s H vs Q E hg hr h => ?_)
  · obtain ⟨a, ns, rfl, _⟩ := h
    rfl
  · obtain ⟨a, ns, rfl, hS, hl, q⟩ := h
    have hg2 : (A.deeper (envOfC "law" (defScope sLaw) s.heap.objs.size f cdv)).guards = some [] := hg
    refine ⟨_, pss_cons (ps_for PassesOwn.never rfl (pi_range1 (by rfl) T.rng (pa_cons (pe_callB (call_max2 rfl) (by rfl) T.max (by decide +kernel) (pa_cons pe_int (pa_cons (pe_callB (call_min2 rfl) (by rfl) T.min (by decide +kernel) (pa_cons pe_int (pa_cons (pe_callB call_len (by rfl) T.len PySem.boot_len (pa_cons (pv 0) pa_nil)) pa_nil))) pa_nil))) pa_nil)) (pg_name (i := 1) scLaw.nd rfl (.inl rfl))
        (pss_cons (ps_set (i := 2) scLaw.nd rfl (.inl rfl) (pe_call GH hr (by rfl) T.gH T.H.kp T.bH .nil pass0 (pa_cons (pv 0) (pa_cons (pv 1) pa_nil))))
        (pss_one (ps_for PassesOwn.never rfl (pi_range1 (by rfl) T.rng (pa_cons pe_int pa_nil)) (pg_name (i := 3) scLaw.nd rfl (.inl rfl))
          (pss_cons (ps_set (i := 4) scLaw.nd rfl (.inr rfl) (pe_call GI hr (by rfl) T.gI T.I.kp T.bI .nil pass0 (pa_cons (pv 2) (pa_cons pe_int (pa_cons pe_int pa_nil)))))
          (pss_cons (ps_set (i := 5) scLaw.nd rfl (.inl rfl) (pe_call GQ hr (by rfl) T.gQ T.Q.kp T.bQ .nil pass0 (pa_cons (pv 2) (pa_cons (pv 4) pa_nil))))
          (pss_cons (ps_par (i := 6) (j := 7) (by rfl) scLaw.nd rfl rfl (by decide) rfl rfl (pa_cons (pe_call GE hr (by rfl) T.gE T.E.kp T.bE .nil pass0 (pa_cons (pv 4) (pa_cons (pv 5) pa_nil))) (pa_cons (pe_callB (call_show hg2 hr.units) (by rfl) T.rpr (by decide +kernel) (pa_cons (pe_tup (pa_cons (pv 4) (pa_cons (pv 5) pa_nil))) pa_nil)) pa_nil)) (by rfl))
          (pss_cons (ps_if (pt_cmpR op_ne (pe_callB (call_show hg2 hr.units) (by rfl) T.rpr (by decide +kernel) (pa_cons (pe_call GR hr (by rfl) T.gR T.R.kp T.bR .nil pass0 (pa_cons (pv 4) (pa_cons (pv 5) pa_nil))) pa_nil)) (pe_callB (call_show hg2 hr.units) (by rfl) T.rpr (by decide +kernel) (pa_cons (pv 6) pa_nil)) (nomark _)) (pss_one (ps_ret pe_bl)) pss_nil)
          (pss_cons (ps_set (i := 8) scLaw.nd rfl (.inl rfl) (pe_call GF hr (by rfl) T.gF T.F.kp T.bF .nil pass0 (pa_cons (pv 6) pa_nil)))
          (pss_cons (ps_if (pt_cmpR op_ne (pe_callB call_len (by rfl) T.len PySem.boot_len (pa_cons (pv 8) pa_nil)) (pe_callB call_lenD (by rfl) T.len PySem.boot_len (pa_cons (pe_callTy (call_dictP rfl) (by rfl) T.dct (by decide +kernel) (pa_cons (pe_lc (own := [("_law_row", 10)]) (g := gName 10) (tt := tYes) (te := tTup (tCons (tVar 10) (tCons (tC (.bl true)) tNil))) rfl scLaw.nd (pi_list (pv 8))
              (blkOk_by (own := [("_law_row", 10)]) (N := nLaw) (sc := defScope sLaw) (by decide +kernel)) (fun _ _ _ _ _ => pg_name (i := 10) scLaw.nd rfl (.inl rfl)) (fun _ _ _ _ _ => pts_nil) (fun _ _ _ _ _ => pe_tup (pa_cons (pv 10) (pa_cons pe_bl pa_nil)))) pa_nil)) pa_nil)) (nomark _)) (pss_one (ps_ret pe_bl)) pss_nil)
          (pss_cons (ps_if (pt_cmpR op_ne (pe_callB (call_show hg2 hr.units) (by rfl) T.rpr (by decide +kernel) (pa_cons (pe_call GB hr (by rfl) T.gB T.B.kp T.bB .nil pass0 (pa_cons (pv 4) (pa_cons (pv 5) pa_nil))) pa_nil)) (pe_callB (call_show hg2 hr.units) (by rfl) T.rpr (by decide +kernel) (pa_cons (pe_callTy call_tuple_of (by rfl) T.tup (by decide +kernel) (pa_cons (pe_callB cr_sortedS (by rfl) T.srt (by decide +kernel) (pa_cons
              (pe_lc (own := [("_law_row", 10)]) (g := gName 10) (tt := tTest (tOp (rIn K false) (tVar 10) (tOp (rIxT K) (tVar 4) (tUn (rU fun i => .int (-i)) (tC (.int 1)))))) (te := tVar 10) rfl scLaw.nd (pi_list (pv 8)) (blkOk_by (own := [("_law_row", 10)]) (N := nLaw) (sc := defScope sLaw) (by decide +kernel)) (fun _ _ _ _ _ => pg_name (i := 10) scLaw.nd rfl (.inl rfl))
                (fun _ _ _ _ _ => pts_one (pt_cmpR op_in_seq (pv 10) (pe_ix ix_tup (pv 4) (pe_un un_neg pe_int) (fun _ _ => rfl)) (by rfl))) (fun _ _ _ _ _ => pv 10)) pa_nil)) pa_nil)) pa_nil)) (nomark _)) (pss_one (ps_ret pe_bl)) pss_nil)
          (pss_cons (ps_set (i := 9) scLaw.nd rfl (.inl rfl) (pe_call GT hr (by rfl) T.gT T.T.kp T.bT .nil pass0 (pa_cons (pv 2) (pa_cons (pe_op op_add (pe_callB call_len (by rfl) T.len PySem.boot_len (pa_cons (pv 5) pa_nil)) pe_int) pa_nil))))
          (pss_one (ps_if (PW.pt (pw_or (pt_cmpR (op_neD hr.units) (pe_call GR hr (by rfl) T.gR T.R.kp T.bR .nil pass0 (pa_cons (pv 4) (pa_cons (pe_slice sl_tupA (pv 5) po_none (po_some (pv 9))) pa_nil))) (pe_slice sl_tupA (pv 6) po_none (po_some (pv 9))) (nomark _))
              (pw_or1 (pt_cmpR op_ne (pe_callB (call_show hg2 hr.units) (by rfl) T.rpr (by decide +kernel) (pa_cons (pe_tup (pa_cons (pv 4) (pa_cons (pv 5) pa_nil))) pa_nil)) (pv 7) (nomark _))))) (pss_one (ps_ret pe_bl)) pss_nil))))))))))))))
      (pss_one (ps_ret pe_bl)), ?_⟩
    obtain ⟨top, htop, t0, t3⟩ : ∃ top : Nat, (if (if (ns.length : Int) < 3 then (ns.length : Int) else 3) > 1 then (if (ns.length : Int) < 3 then (ns.length : Int) else 3) else 1) = (top : Int) ∧ 1 ≤ top ∧ top ≤ 3 := by
      by_cases h1 : (ns.length : Int) < 3
      · by_cases h2 : (ns.length : Int) > 1
        · exact ⟨ns.length, by rw [if_pos h1, if_pos h2], by omega, by omega⟩
        · exact ⟨1, by rw [if_pos h1, if_neg h2]; rfl, by omega, by omega⟩
      · exact ⟨3, by rw [if_neg h1]; rfl, by omega, by omega⟩
    refine ⟨.ref a, rfl, _, ns.length, rfl, .inl ⟨_, hS, (List.length_map ..).symm⟩, _, _, rfl, _, _, rfl, top, congrArg (fun z => [V.int z]) htop, by omega, by omega, ?_⟩
    refine for_range (lo := 0) (n := top) (fun i σ H' => ∃ y1 y2 y3 y4 y5 y6 y7 y8 y9 y10, σ = [some (.ref a), y1, y2, y3, y4, y5, y6, y7, y8, y9, y10] ∧ Same H H') ⟨_, _, _, _, _, _, _, _, _, _, rfl, Same.refl H⟩ (fun i σ H1 hi hP => ?_) (fun σ H' hP => q H')
    obtain ⟨y1, y2, y3, y4, y5, y6, y7, y8, y9, y10, rfl, s1⟩ := hP
    -- hand
    refine ⟨.ref a, rfl, _, rfl, a, i, ns, congrArg (fun z => [V.ref a, V.int z]) (Int.zero_add _), s1.seq hS, by omega, fun H2 p s2 np hd2 => ?_⟩
    have npH : H p = none := s1.free np
    have s02 := s1.trans s2
    refine ⟨5, rfl, by decide, by decide, ?_⟩
    refine for_range (lo := 0) (n := 5) (fun j σ H' => ∃ y3 y4 y5 y6 y7 y8 y9 y10, σ = [some (.ref a), some (.int (0 + (i : Int))), some (.ref p), y3, y4, y5, y6, y7, y8, y9, y10] ∧ Same H H' ∧ Hd H' p (1000 * j)) ⟨_, _, _, _, _, _, _, _, rfl, s02, hd2⟩ (fun j σ H3 hj hP => ?_) (fun σ H' hP => ?_)
    · obtain ⟨y3, y4, y5, y6, y7, y8, y9, y10, rfl, s3, hd3⟩ := hP
      have hj5 : 1000 * j ≤ 5000 := by omega
      -- history, plan
      refine ⟨.ref p, rfl, p, 1000 * j, 8, 8, rfl, hd3, by omega, by decide, by decide, by decide, fun H4 h hs names sb4 hd4 n4 hA hok lh _ _ _ => ?_⟩
      have s4 := but_same s3 npH sb4
      have hne : 0 < hs.length := List.length_pos_iff.mpr hok.ne
      refine ⟨.ref p, rfl, .ref h, rfl, p, h, 1000 * j + 500, hs, rfl, hd4, by omega, hA, hne, by omega, fun H5 b pl sb5 hd5 n5 hB lp hpl => ?_⟩
      have s5 := but_same s4 npH sb5
      have hA5 := hA.but sb5 hd4
      have lv : ∀ v ∈ hs, v.length ≤ 24 := fun v hv => (hok.ver v hv).len
      have li : ∀ r ∈ pl, r.1 < hs.length := fun r hr => (hpl r hr).1
      obtain ⟨last, hlast⟩ : ∃ last, hs.getLast? = some last := by
        cases e : hs.getLast? with
        | none => exact absurd (List.getLast?_eq_none_iff.mp e) hok.ne
        | some v => exact ⟨v, rfl⟩
      have okl := hok.ver last (List.mem_of_getLast? hlast)
      -- due, held
      refine ⟨.ref h, rfl, .ref b, rfl, h, b, hs, pl, rfl, hA5, hB, lv, by omega, li, fun H6 du dx s6 n6 e6 v6 => ?_⟩
      refine ⟨.ref h, rfl, .ref b, rfl, (by show 2 ≤ sizeLine; decide), fun t7 ht7 => ?_⟩
      have s57 : Same H5 (upd H6 t7 (.tup [.ref h, .ref b])) := s6.trans (same_new ht7)
      have nHist : Nice (histD hs) 2 1800 := (nice_hist (m := 24) fun v hv => ⟨(hok.ver v hv).len, (hok.ver v hv).row⟩).up (Nat.le_refl _) (by
        have : (9 * 24 + 1) * hs.length ≤ (9 * 24 + 1) * 8 := Nat.mul_le_mul_left _ lh
        omega)
      have nPlan : Nice (planD pl) 2 1000 := (nice_plan fun r hr => ⟨by have := (hpl r hr).1; omega, by have := (hpl r hr).2; omega⟩).up (Nat.le_refl _) (by omega)
      have nHeld : Nice (heldD hs pl) 60 1048576 := (Nice.tup (.cons nHist (.cons nPlan .nil (w' := 0) (u := 1001) (by decide)) (u := 2802) (by decide))).up (by decide) (by decide)
      dsimp only [tNil]
      refine show_nice (d := heldD hs pl) (.tup (SqT.of upd_same) (.cons (hA5.same s57).dp (.cons (hB.same s57).dp .nil))) nHeld ?_
      refine ⟨_, _, rfl, ?_⟩
      have hA7 := hA5.same s57
      have hB7 := hB.same s57
      have e7 : (upd H6 t7 (.tup [.ref h, .ref b])) du = some (.tup dx) := same_new ht7 _ _ e6
      have v7 := v6.keep (K := K) (H' := upd H6 t7 (.tup [.ref h, .ref b])) fun _ _ => same_t (same_new ht7)
      have hd7 : Hd (upd H6 t7 (.tup [.ref h, .ref b])) p (1000 * j + 530) := same_hd s57 hd5
      have s7 : Same H (upd H6 t7 (.tup [.ref h, .ref b])) := s5.trans s57
      generalize upd H6 t7 (.tup [.ref h, .ref b]) = H7 at hA7 hB7 e7 v7 hd7 s7 ⊢
      -- repr(run) != repr(due)
      have rr := run_rows hok.ver (l := pl) (s := [])
      have lrun : (runL hs pl []).length ≤ 12 := by rw [runL_len]; exact lp
      have nRun : Nice (histD (runL hs pl [])) 60 1048576 := (nice_hist (m := 24) rr).up (by decide) (by
        have : (9 * 24 + 1) * (runL hs pl []).length ≤ (9 * 24 + 1) * 12 := Nat.mul_le_mul_left _ lrun
        omega)
      refine ⟨.ref h, rfl, .ref b, rfl, h, b, hs, pl, rfl, hA7, hB7, lv, by omega, li, fun H8 r8 x8 s8 n8 e8 v8 => ?_⟩
      dsimp only [tNil]
      refine show_nice (d := histD (runL hs pl [])) (HistAt.dp ⟨_, SqT.of e8, v8⟩) nRun ?_
      refine ⟨.ref du, rfl, ?_⟩
      have due8 : HistAt K H8 du (runL hs pl []) := HistAt.same s8 ⟨_, SqT.of e7, v7⟩
      dsimp only [tNil]
      refine show_nice (d := histD (runL hs pl [])) due8.dp nRun ?_
      refine ⟨rfl, _, rfl, iteNS rfl ?_⟩
      -- rows_sent
      have fl : (runL hs pl []).flatten.length ≤ 288 := Nat.le_trans (runL_sum lv pl []) (by omega)
      refine ⟨.ref du, rfl, du, _, rfl, due8, by omega, fun H9 g s9 n9 e9 => ?_⟩
      have ndr := run_nodup (fun v hv => (hok.ver v hv).nd) pl []
      -- len(..) != len(dict(..))
      refine ⟨.ref g, rfl, _, (runL hs pl []).flatten.length, rfl, .inl ⟨_, SqL.of e9, (List.length_map ..).symm⟩, .ref g, rfl, g, rfl, ⟨_, SqL.of e9⟩, fun D hD => lc_list (xs := (runL hs pl []).flatten.map V.str) (fun i H' => Same H9 H' ∧ ∃ ps : List Addr, H' D = some (.lst (ps.map V.ref)) ∧ ps.length = i ∧ Paired (fun p kv => SqT K H' p [kV kv.1, kv.2]) ps (((runL hs pl []).flatten.take i).map fun r => ((Sum.inr r : Key), V.bl true)))
        ⟨same_new hD, [], upd_same, rfl, by rw [List.take_zero]; exact .nil⟩ (fun i H' _ hP => SqL.of (hP.1 _ _ e9)) (fun i x H' hx hP => ?_) (fun H' hP => ?_)⟩
      · obtain ⟨p1, ps, p2, p3, p4⟩ := hP
        rw [List.getElem?_map] at hx
        obtain ⟨y, hy, rfl⟩ := Option.map_eq_some_iff.mp hx
        have hi2 : i < (runL hs pl []).flatten.length := (List.getElem?_eq_some_iff.mp hy).1
        refine ⟨rfl, lc_yes ?_⟩
        refine ⟨_, rfl, (by show 2 ≤ sizeLine; decide), fun t ht => ?_⟩
        have e10 : (upd H' t (.tup [.str y, .bl true])) D = some (.lst (ps.map V.ref)) := by
          rw [upd_ne (ne_of_none p2 ht)]
          exact p2
        have keepP : ∀ {ps : List Addr} {kvs : List (Key × V)}, Paired (fun p kv => SqT K H' p [kV kv.1, kv.2]) ps kvs → Paired (fun p kv => SqT K (upd (upd H' t (.tup [.str y, .bl true])) D (.lst (ps.map V.ref ++ [.ref t]))) p [kV kv.1, kv.2]) ps kvs := by
          intro ps kvs h
          have : ∀ o, Paired (fun p kv => SqT K (upd (upd H' t (.tup [.str y, .bl true])) D o) p [kV kv.1, kv.2]) ps kvs := by
            intro o
            induction h with
            | nil => exact .nil
            | cons x _ ih => exact .cons (upd_t e10 (same_t (same_new ht) x)) ih
          exact this _
        refine ⟨_, e10, ?_, same_own (p1.trans (same_new ht)) hD, ps ++ [t], ?_, ?_, ?_⟩
        · rw [List.length_map, p3]
          exact small1000 (by omega)
        · rw [upd_same, List.map_append]
          rfl
        · rw [List.length_append, List.length_singleton, p3]
        · rw [List.take_add_one, hy, List.map_append]
          exact Paired.snoc (keepP p4) (upd_t e10 (SqT.of upd_same))
      obtain ⟨p1, ps, p2, p3, p4⟩ := hP
      rw [List.length_map, List.take_length] at p4
      refine ⟨D, ps, _, rfl, SqL.of p2, p4, fun m hm => ?_⟩
      refine ⟨m, _, rfl, upd_same, ?_⟩
      have lm := merge_len (runL hs pl []).flatten [] ndr.1 (fun x _ => rfl)
      refine ⟨rfl, _, rfl, iteNS (congrArg (fun z : Nat => V.int z) (by rw [lm]; exact (Nat.zero_add _).symm)) ?_⟩
      have s79 : Same H7 H9 := s8.trans s9
      have s7m : Same H7 (upd H' m (.dK (mergeK [] ((runL hs pl []).flatten.map fun r => ((Sum.inr r : Key), V.bl true))))) := s79.trans (p1.trans (same_new hm))
      have em : (upd H' m (.dK (mergeK [] ((runL hs pl []).flatten.map fun r => ((Sum.inr r : Key), V.bl true))))) g = some (.lst ((runL hs pl []).flatten.map V.str)) := (p1.trans (same_new hm)) _ _ e9
      generalize upd H' m (.dK (mergeK [] ((runL hs pl []).flatten.map fun r => ((Sum.inr r : Key), V.bl true)))) = H10 at s7m em ⊢
      have hA10 := hA7.same s7m
      have hB10 := hB7.same s7m
      -- repr(sent_live) != repr(sorted)
      have rowsRun : ∀ z ∈ (runL hs pl []).flatten, RowS z := fun z hz => by
        obtain ⟨v, hv, hz⟩ := List.mem_flatten.mp hz
        exact (rr v hv).2 z hz
      have eqL := live_two okl.nd ndr.1
      have nL : Nice (tupD ((srt last).filter fun r => (runL hs pl []).flatten.contains r)) 60 1048576 := (nice_rows fun z hz => okl.row z (srt_mem.mp (List.mem_filter.mp hz).1)).up (by decide) (by
        have h1 := List.length_filter_le (fun r => (runL hs pl []).flatten.contains r) (srt last)
        rw [srt_len] at h1
        have h2 := okl.len
        omega)
      refine ⟨.ref h, rfl, .ref b, rfl, h, b, hs, last, pl, rfl, hA10, hB10, lv, by omega, li, hlast, fun H11 p11 s11 n11 e11 => ?_⟩
      dsimp only [tNil]
      refine show_nice (SqT.dp (SqT.of e11)) nL ?_
      refine ⟨.ref g, rfl, g, rfl, ⟨_, SqL.of (s11 _ _ em)⟩, fun D2 hD2 => lc_list (xs := (runL hs pl []).flatten.map V.str) (fun i H' => Same H11 H' ∧ H' D2 = some (.lst ((((runL hs pl []).flatten.take i).filter fun r => last.contains r).map V.str))) ⟨same_new hD2, by rw [upd_same]; rfl⟩ (fun i H' _ hP => SqL.of (hP.1 _ _ (s11 _ _ em))) (fun i x H' hx hP => ?_) (fun H' hP => ?_)⟩
      · obtain ⟨p1, p2⟩ := hP
        rw [List.getElem?_map] at hx
        obtain ⟨y, hy, rfl⟩ := Option.map_eq_some_iff.mp hx
        obtain ⟨zs, hz1, hz2⟩ := hA10.same (s11.trans p1)
        obtain ⟨lv2, glv, hlv⟩ := hist_last hz2 hlast
        refine ⟨rfl, _, rfl, _, rfl, 1, rfl, h, _, -1, _, rfl, rfl, hz1, glv, lv2, _, rfl, .inr hlv, rfl, flat_strs last, _, rfl, ?_⟩
        have e : ((runL hs pl []).flatten.take (i + 1)).filter (fun r => last.contains r) = ((runL hs pl []).flatten.take i).filter (fun r => last.contains r) ++ (if last.contains y = true then [y] else []) := by
          rw [List.take_add_one, hy, List.filter_append, Option.toList_some, List.filter_cons, List.filter_nil]
        show if (inV (.str y) (last.map V.str)) = true then _ else _
        rw [inV_strs]
        refine ite2 (fun h => ?_) (fun h => ?_)
        · refine ⟨_, rfl, _, p2, ?_, same_own p1 hD2, ?_⟩
          · rw [List.length_map]
            exact small1000 (Nat.le_trans (List.length_filter_le _ _) (by rw [List.length_take]; omega))
          · rw [upd_same, e, if_pos h, List.map_append]
            rfl
        · refine ⟨p1, ?_⟩
          rw [e, if_neg h, List.append_nil]
          exact p2
      obtain ⟨q1, q2⟩ := hP
      rw [List.length_map, List.take_length] at q2
      have lfl : ((runL hs pl []).flatten.filter fun r => last.contains r).length ≤ 24 := by
        have e := congrArg List.length eqL
        rw [srt_len] at e
        rw [← e]
        have h1 := List.length_filter_le (fun r => (runL hs pl []).flatten.contains r) (srt last)
        rw [srt_len] at h1
        exact Nat.le_trans h1 okl.len
      refine ⟨D2, _, rfl, SqL.of q2, by omega, fun ys p12 pm so hp12 => ?_⟩
      refine ⟨p12, _, rfl, .inl ⟨SqL.of upd_same, fun t13 ht13 => ?_⟩⟩
      have eys : ys = (srt last).filter fun r => (runL hs pl []).flatten.contains r := by
        rw [eqL]
        exact srt_one pm so
      subst eys
      dsimp only [tNil]
      refine show_nice (SqT.dp (SqT.of upd_same)) nL ?_
      refine ⟨rfl, _, rfl, iteNS rfl ?_⟩
      have s10 := q1.trans ((same_new hp12 (o := .lst (((srt last).filter fun r => (runL hs pl []).flatten.contains r).map V.str))).trans (same_new ht13 (o := .tup (((srt last).filter fun r => (runL hs pl []).flatten.contains r).map V.str))))
      have s7z := s7m.trans (s11.trans s10)
      generalize upd (upd H' p12 (.lst (((srt last).filter fun r => (runL hs pl []).flatten.contains r).map V.str))) t13 (.tup (((srt last).filter fun r => (runL hs pl []).flatten.contains r).map V.str)) = H14 at s7z ⊢
      have hA14 := hA7.same s7z
      have hB14 := hB7.same s7z
      have hd14 := same_hd s7z hd7
      have due14 : HistAt K H14 du (runL hs pl []) := HistAt.same s7z ⟨_, SqT.of e7, v7⟩
      -- cut
      refine ⟨.ref p, rfl, .ref b, rfl, _, pl.length, rfl, hB14.length, _, 1, rfl, rfl, p, 1000 * j + 530, _, rfl, hd14, by omega, by omega, by omega, fun H15 ct sb15 hd15 c0 c1 => ?_⟩
      obtain ⟨ct, rfl⟩ := Int.eq_ofNat_of_zero_le c0
      have hA15 := hA14.but sb15 hd14
      have hB15 : PlanAt K H15 b pl := hB14.keep fun _ _ => but_t sb15 hd14
      have due15 := due14.but sb15 hd14
      have s15 := but_same (s7.trans s7z) npH sb15
      -- run_schedule(history, plan[:cut]) != due[:cut]
      obtain ⟨xb, hb1, hb2⟩ := hB15
      refine ⟨.ref h, rfl, .ref b, rfl, _, rfl, ct, rfl, ?_⟩
      dsimp only
      refine slA_of hb1 fun H16 b16 s16 e16 => ?_
      have pl16 : PlanAt K H16 b16 (pl.take ct) := ⟨_, e16, (hb2.take ct).keep fun x r ⟨z, ez, hz⟩ => ⟨z, ez, same_t s16 hz⟩⟩
      refine ⟨h, b16, hs, pl.take ct, rfl, hA15.same s16, pl16, lv, ?_, fun r hr => li r (List.mem_of_mem_take hr), fun H17 r17 x17 s17 n17 e17 v17 => ?_⟩
      · rw [List.length_take]
        omega
      obtain ⟨xd, hd1, hd2x⟩ := due15.same (s16.trans s17)
      refine ⟨.ref du, rfl, _, rfl, ct, rfl, ?_⟩
      dsimp only
      refine slA_of hd1 fun H18 d18 s18 e18 => ?_
      have vt : VsAt K H18 (xd.take ct) ((runL hs pl []).take ct) := by
        have : ∀ {xs : List V} {vs : List (List Str)} (c : Nat), VsAt K H18 xs vs → VsAt K H18 (xs.take c) (vs.take c) := by
          intro xs
          induction xs with
          | nil =>
            intro vs c h
            cases vs with
            | nil => rw [List.take_nil, List.take_nil]; exact trivial
            | cons v vs => exact h.elim
          | cons x xs ih =>
            intro vs c h
            cases vs with
            | nil => exact h.elim
            | cons v vs =>
              cases c with
              | zero => exact trivial
              | succ c => exact ⟨h.1, ih c h.2⟩
        exact this ct (hd2x.keep fun _ _ => same_t s18)
      have nT : Nice (histD ((runL hs pl []).take ct)) 2 5000 := (nice_hist (m := 24) fun v hv => rr v (List.mem_of_mem_take hv)).up (Nat.le_refl _) (by
        have h1 : ((runL hs pl []).take ct).length ≤ 12 := by rw [List.length_take]; omega
        have : (9 * 24 + 1) * ((runL hs pl []).take ct).length ≤ (9 * 24 + 1) * 12 := Nat.mul_le_mul_left _ h1
        omega)
      rw [runL_take] at v17
      refine ⟨histD ((runL hs pl []).take ct), histD ((runL hs pl []).take ct), HistAt.dp (HistAt.same s18 ⟨_, SqT.of e17, v17⟩), HistAt.dp ⟨_, e18, vt⟩, nT.shaped (by decide), nT.shaped (by decide), _, rfl, ?_⟩
      rw [nT.refl]
      refine iteF ?_
      -- repr != held
      have s19 : Same H15 H18 := s16.trans (s17.trans s18)
      refine ⟨.ref h, rfl, .ref b, rfl, (by show 2 ≤ sizeLine; decide), fun t20 ht20 => ?_⟩
      have s20 : Same H15 (upd H18 t20 (.tup [.ref h, .ref b])) := s19.trans (same_new ht20)
      dsimp only [tNil]
      refine show_nice (d := heldD hs pl) (.tup (SqT.of upd_same) (.cons (hA15.same s20).dp (.cons (PlanAt.same s20 ⟨xb, hb1, hb2⟩).dp .nil))) nHeld ?_
      refine ⟨_, rfl, rfl, _, rfl, iteNS rfl ?_⟩
      exact ⟨_, _, _, _, _, _, _, _, rfl, s15.trans s20, (same_hd s20 hd15).up (by omega)⟩
    · obtain ⟨y3, y4, y5, y6, y7, y8, y9, y10, rfl, s3, _⟩ := hP
      exact ⟨_, _, _, _, _, _, _, _, _, _, rfl, s3⟩
end
end M
namespace M
open PySem PySem.Spec PyProof.Rows L2 Gd
theorem all_mk {l : PySem.W.OpenLaw} {w : World} {K : PySem.W.Frag} {h : Heap} {mg : Str → Option Value} {fa f1 f2 f3 f4 f5 f6 f7 f8 f9 f10 f11 f12 f13 f14 f15 f16 : Addr} (X : K.In h) (G : h.Ns mainGlobals mg) (hfa : mg "law" = some (.ref fa))
    {od1 an1 od2 an2 od3 an3 od4 an4 od5 an5 od6 an6 od7 an7 od8 an8 od9 an9 od10 an10 od11 an11 od12 an12 od13 an13 od14 an14 od15 an15 od16 an16 : Option Addr} {sl1 sl2 sl3 sl4 sl5 sl6 sl7 sl8 sl9 sl10 sl11 sl12 sl13 sl14 sl15 sl16 : Array (Option Value)} {oc1 kV1 dc1 pm1 cd1 ct1 oc2 kV2 dc2 pm2 cd2 ct2 oc3 kV3 dc3 pm3 cd3 ct3 oc4 kV4 dc4 pm4 cd4 ct4 oc5 kV5 dc5 pm5 cd5 ct5 oc6 kV6 dc6 pm6 cd6 ct6 oc7 kV7 dc7 pm7 cd7 ct7 oc8 kV8 dc8 pm8 cd8 ct8 oc9 kV9 dc9 pm9 cd9 ct9 oc10 kV10 dc10 pm10 cd10 ct10 oc11 kV11 dc11 pm11 cd11 ct11 oc12 kV12 dc12 pm12 cd12 ct12 oc13 kV13 dc13 pm13 cd13 ct13 oc14 kV14 dc14 pm14 cd14 ct14 oc15 kV15 dc15 pm15 cd15 ct15 oc16 kV16 dc16 pm16 cd16 ct16 : Value}
    (a1 : PySem.W.nsIn K mainGlobals "_law_hand" = some (some (.ref f1))) (l1 : K.lookup f1 = some ⟨oc1, od1, .func (PySem.W.fnOf "_law_hand" "_law_hand" (defArgs sHand) (defBody sHand) (defScope sHand) .none kV1 dc1 pm1 an1 cd1 ct1), sl1⟩) (c1 : PySem.W.codeIn K cd1 "_law_hand" = true) (k1 : PySem.W.keepIn K (.ref f1) = true)
    (a2 : PySem.W.nsIn K mainGlobals "_law_take" = some (some (.ref f2))) (l2 : K.lookup f2 = some ⟨oc2, od2, .func (PySem.W.fnOf "_law_take" "_law_take" (defArgs sTake) (defBody sTake) (defScope sTake) .none kV2 dc2 pm2 an2 cd2 ct2), sl2⟩) (c2 : PySem.W.codeIn K cd2 "_law_take" = true) (k2 : PySem.W.keepIn K (.ref f2) = true)
    (a3 : PySem.W.nsIn K mainGlobals "_law_pick" = some (some (.ref f3))) (l3 : K.lookup f3 = some ⟨oc3, od3, .func (PySem.W.fnOf "_law_pick" "_law_pick" (defArgs sPick) (defBody sPick) (defScope sPick) .none kV3 dc3 pm3 an3 cd3 ct3), sl3⟩) (c3 : PySem.W.codeIn K cd3 "_law_pick" = true) (k3 : PySem.W.keepIn K (.ref f3) = true)
    (a4 : PySem.W.nsIn K mainGlobals "_law_names" = some (some (.ref f4))) (l4 : K.lookup f4 = some ⟨oc4, od4, .func (PySem.W.fnOf "_law_names" "_law_names" (defArgs sNames) (defBody sNames) (defScope sNames) .none kV4 dc4 pm4 an4 cd4 ct4), sl4⟩) (c4 : PySem.W.codeIn K cd4 "_law_names" = true) (k4 : PySem.W.keepIn K (.ref f4) = true)
    (a5 : PySem.W.nsIn K mainGlobals "_law_shuffled" = some (some (.ref f5))) (l5 : K.lookup f5 = some ⟨oc5, od5, .func (PySem.W.fnOf "_law_shuffled" "_law_shuffled" (defArgs sShuf) (defBody sShuf) (defScope sShuf) .none kV5 dc5 pm5 an5 cd5 ct5), sl5⟩) (c5 : PySem.W.codeIn K cd5 "_law_shuffled" = true) (k5 : PySem.W.keepIn K (.ref f5) = true)
    (a6 : PySem.W.nsIn K mainGlobals "_law_changed" = some (some (.ref f6))) (l6 : K.lookup f6 = some ⟨oc6, od6, .func (PySem.W.fnOf "_law_changed" "_law_changed" (defArgs sChg) (defBody sChg) (defScope sChg) .none kV6 dc6 pm6 an6 cd6 ct6), sl6⟩) (c6 : PySem.W.codeIn K cd6 "_law_changed" = true) (k6 : PySem.W.keepIn K (.ref f6) = true)
    (a7 : PySem.W.nsIn K mainGlobals "_law_history" = some (some (.ref f7))) (l7 : K.lookup f7 = some ⟨oc7, od7, .func (PySem.W.fnOf "_law_history" "_law_history" (defArgs sHist) (defBody sHist) (defScope sHist) .none kV7 dc7 pm7 an7 cd7 ct7), sl7⟩) (c7 : PySem.W.codeIn K cd7 "_law_history" = true) (k7 : PySem.W.keepIn K (.ref f7) = true)
    (a8 : PySem.W.nsIn K mainGlobals "_law_schedule" = some (some (.ref f8))) (l8 : K.lookup f8 = some ⟨oc8, od8, .func (PySem.W.fnOf "_law_schedule" "_law_schedule" (defArgs sSched) (defBody sSched) (defScope sSched) .none kV8 dc8 pm8 an8 cd8 ct8), sl8⟩) (c8 : PySem.W.codeIn K cd8 "_law_schedule" = true) (k8 : PySem.W.keepIn K (.ref f8) = true)
    (a9 : PySem.W.nsIn K mainGlobals "_law_flat" = some (some (.ref f9))) (l9 : K.lookup f9 = some ⟨oc9, od9, .func (PySem.W.fnOf "_law_flat" "_law_flat" (defArgs sFlat) (defBody sFlat) (defScope sFlat) .none kV9 dc9 pm9 an9 cd9 ct9), sl9⟩) (c9 : PySem.W.codeIn K cd9 "_law_flat" = true) (k9 : PySem.W.keepIn K (.ref f9) = true)
    (a10 : PySem.W.nsIn K mainGlobals "_law_served" = some (some (.ref f10))) (l10 : K.lookup f10 = some ⟨oc10, od10, .func (PySem.W.fnOf "_law_served" "_law_served" (defArgs sServed) (defBody sServed) (defScope sServed) .none kV10 dc10 pm10 an10 cd10 ct10), sl10⟩) (c10 : PySem.W.codeIn K cd10 "_law_served" = true) (k10 : PySem.W.keepIn K (.ref f10) = true)
    (a11 : PySem.W.nsIn K mainGlobals "page_of" = some (some (.ref f11))) (l11 : K.lookup f11 = some ⟨oc11, od11, .func (PySem.W.fnOf "page_of" "page_of" (defArgs sPage) (defBody sPage) (defScope sPage) .none kV11 dc11 pm11 an11 cd11 ct11), sl11⟩) (c11 : PySem.W.codeIn K cd11 "page_of" = true) (k11 : PySem.W.keepIn K (.ref f11) = true)
    (a12 : PySem.W.nsIn K mainGlobals "run_schedule" = some (some (.ref f12))) (l12 : K.lookup f12 = some ⟨oc12, od12, .func (PySem.W.fnOf "run_schedule" "run_schedule" (defArgs sRun) (defBody sRun) (defScope sRun) .none kV12 dc12 pm12 an12 cd12 ct12), sl12⟩) (c12 : PySem.W.codeIn K cd12 "run_schedule" = true) (k12 : PySem.W.keepIn K (.ref f12) = true)
    (a13 : PySem.W.nsIn K mainGlobals "live_rows" = some (some (.ref f13))) (l13 : K.lookup f13 = some ⟨oc13, od13, .func (PySem.W.fnOf "live_rows" "live_rows" (defArgs sLive) (defBody sLive) (defScope sLive) .none kV13 dc13 pm13 an13 cd13 ct13), sl13⟩) (c13 : PySem.W.codeIn K cd13 "live_rows" = true) (k13 : PySem.W.keepIn K (.ref f13) = true)
    (a14 : PySem.W.nsIn K mainGlobals "live_rows_among" = some (some (.ref f14))) (l14 : K.lookup f14 = some ⟨oc14, od14, .func (PySem.W.fnOf "live_rows_among" "live_rows_among" (defArgs sAmong) (defBody sAmong) (defScope sAmong) .none kV14 dc14 pm14 an14 cd14 ct14), sl14⟩) (c14 : PySem.W.codeIn K cd14 "live_rows_among" = true) (k14 : PySem.W.keepIn K (.ref f14) = true)
    (a15 : PySem.W.nsIn K mainGlobals "sent_live" = some (some (.ref f15))) (l15 : K.lookup f15 = some ⟨oc15, od15, .func (PySem.W.fnOf "sent_live" "sent_live" (defArgs sSent) (defBody sSent) (defScope sSent) .none kV15 dc15 pm15 an15 cd15 ct15), sl15⟩) (c15 : PySem.W.codeIn K cd15 "sent_live" = true) (k15 : PySem.W.keepIn K (.ref f15) = true)
    (a16 : PySem.W.nsIn K mainGlobals "law" = some (some (.ref f16))) (l16 : K.lookup f16 = some ⟨oc16, od16, .func (PySem.W.fnOf "law" "law" (defArgs sLaw) (defBody sLaw) (defScope sLaw) .none kV16 dc16 pm16 an16 cd16 ct16), sl16⟩) (c16 : PySem.W.codeIn K cd16 "law" = true) (k16 : PySem.W.keepIn K (.ref f16) = true)
    (z1 : PySem.W.nsIn K mainGlobals "len" = some none) (z2 : PySem.W.nsIn K mainGlobals "abs" = some none) (z3 : PySem.W.nsIn K mainGlobals "int" = some none) (z4 : PySem.W.nsIn K mainGlobals "range" = some none) (z5 : PySem.W.nsIn K mainGlobals "list" = some none) (z6 : PySem.W.nsIn K mainGlobals "tuple" = some none) (z7 : PySem.W.nsIn K mainGlobals "repr" = some none) (z8 : PySem.W.nsIn K mainGlobals "max" = some none) (z9 : PySem.W.nsIn K mainGlobals "min" = some none) (z10 : PySem.W.nsIn K mainGlobals "sorted" = some none) (z11 : PySem.W.nsIn K mainGlobals "dict" = some none) :
    ∃ fd : FuncData, (∀ (s : Shared) (v : Value), BindsTo s fd ⟨[v], []⟩ [("_law_script", v)]) ∧ ∀ base : Heap, K.In base → base.Ns mainGlobals mg → FnG l.prog w K mg base 5 fa fd ["_law_script"] (spLaw K) := by
  have e := hfa.symm.trans (PySem.W.mg_of X G a16)
  cases e
  have F1 := fun_mk (st := sHand) l1 c1 k1
  have b1 := F1.binds (ps := ["_law_script", "_law_k"]) fun _ _ _ _ _ _ us hl => match us, hl with | [_, _], _ => rfl
  have F2 := fun_mk (st := sTake) l2 c2 k2
  have b2 := F2.binds (ps := ["_law_hand_here", "_law_many"]) fun _ _ _ _ _ _ us hl => match us, hl with | [_, _], _ => rfl
  have F3 := fun_mk (st := sPick) l3 c3 k3
  have b3 := F3.binds (ps := ["_law_hand_here", "_law_items"]) fun _ _ _ _ _ _ us hl => match us, hl with | [_, _], _ => rfl
  have F4 := fun_mk (st := sNames) l4 c4 k4
  have b4 := F4.binds (ps := ["_law_hand_here", "_law_count"]) fun _ _ _ _ _ _ us hl => match us, hl with | [_, _], _ => rfl
  have F5 := fun_mk (st := sShuf) l5 c5 k5
  have b5 := F5.binds (ps := ["_law_hand_here", "_law_items"]) fun _ _ _ _ _ _ us hl => match us, hl with | [_, _], _ => rfl
  have F6 := fun_mk (st := sChg) l6 c6 k6
  have b6 := F6.binds (ps := ["_law_hand_here", "_law_version", "_law_fresh"]) fun _ _ _ _ _ _ us hl => match us, hl with | [_, _, _], _ => rfl
  have F7 := fun_mk (st := sHist) l7 c7 k7
  have b7 := F7.binds (ps := ["_law_hand_here", "_law_most_rows", "_law_most_versions"]) fun _ _ _ _ _ _ us hl => match us, hl with | [_, _, _], _ => rfl
  have F8 := fun_mk (st := sSched) l8 c8 k8
  have b8 := F8.binds (ps := ["_law_hand_here", "_law_history_here"]) fun _ _ _ _ _ _ us hl => match us, hl with | [_, _], _ => rfl
  have F9 := fun_mk (st := sFlat) l9 c9 k9
  have b9 := F9.binds (ps := ["_law_some"]) fun _ _ _ _ _ _ us hl => match us, hl with | [_], _ => rfl
  have F10 := fun_mk (st := sServed) l10 c10 k10
  have b10 := F10.binds (ps := ["_law_history_here", "_law_requests_made"]) fun _ _ _ _ _ _ us hl => match us, hl with | [_, _], _ => rfl
  have F11 := fun_mk (st := sPage) l11 c11 k11
  have b11 := F11.binds (ps := ["version", "sent", "count"]) fun _ _ _ _ _ _ us hl => match us, hl with | [_, _, _], _ => rfl
  have F12 := fun_mk (st := sRun) l12 c12 k12
  have b12 := F12.binds (ps := ["history", "schedule"]) fun _ _ _ _ _ _ us hl => match us, hl with | [_, _], _ => rfl
  have F13 := fun_mk (st := sLive) l13 c13 k13
  have b13 := F13.binds (ps := ["history"]) fun _ _ _ _ _ _ us hl => match us, hl with | [_], _ => rfl
  have F14 := fun_mk (st := sAmong) l14 c14 k14
  have b14 := F14.binds (ps := ["history", "rows"]) fun _ _ _ _ _ _ us hl => match us, hl with | [_, _], _ => rfl
  have F15 := fun_mk (st := sSent) l15 c15 k15
  have b15 := F15.binds (ps := ["history", "schedule"]) fun _ _ _ _ _ _ us hl => match us, hl with | [_, _], _ => rfl
  have F16 := fun_mk (st := sLaw) l16 c16 k16
  exact ⟨PySem.W.fnOf "law" "law" (defArgs sLaw) (defBody sLaw) (defScope sLaw) .none kV16 dc16 pm16 an16 cd16 ct16, fun s v => .of_eq rfl, fun base _ _ => ok_law F16 ⟨F1, b1, PySem.W.mg_of X G a1, F2, b2, PySem.W.mg_of X G a2, F3, b3, PySem.W.mg_of X G a3, F4, b4, PySem.W.mg_of X G a4, F5, b5, PySem.W.mg_of X G a5, F6, b6, PySem.W.mg_of X G a6, F7, b7, PySem.W.mg_of X G a7, F8, b8, PySem.W.mg_of X G a8, F9, b9, PySem.W.mg_of X G a9, F10, b10, PySem.W.mg_of X G a10, F11, b11, PySem.W.mg_of X G a11, F12, b12, PySem.W.mg_of X G a12, F13, b13, PySem.W.mg_of X G a13, F14, b14, PySem.W.mg_of X G a14, F15, b15, PySem.W.mg_of X G a15, PySem.W.mg_none_of X G z1, PySem.W.mg_none_of X G z2, PySem.W.mg_none_of X G z3, PySem.W.mg_none_of X G z4, PySem.W.mg_none_of X G z5, PySem.W.mg_none_of X G z6, PySem.W.mg_none_of X G z7, PySem.W.mg_none_of X G z8, PySem.W.mg_none_of X G z9, PySem.W.mg_none_of X G z10, PySem.W.mg_none_of X G z11⟩⟩
end M
open PySem PySem.W PyProof.Rows
set_option maxHeartbeats 0 in
theorem PySem.Challenge.cw_movingpages_k08_schedules_run_holds : PySem.Challenge.rw_movingpages_k08_schedules_run.Holds := by
  w_on; o_law; k_head; (case hw => w_witness2)
  k_fill
  refine Gd.walkG (l := PySem.Challenge.rw_movingpages_k08_schedules_run) (n := 63) (k := 5) (x := "_law_script") (sp := M.spLaw) rfl (by decide) rfl ⟨rfl, by decide, by decide⟩ (fun w h Y => PySem.W.kIn_of Y) ?F (fun _ _ a ns hl _ hS => ⟨a, ns, rfl, hS, hl, fun _ => rfl⟩)
  case F =>
    intro w mg fa h KX G hmg
    refine' M.all_mk KX G hmg ?a1 ?l1 ?c1 ?k1 ?a2 ?l2 ?c2 ?k2 ?a3 ?l3 ?c3 ?k3 ?a4 ?l4 ?c4 ?k4 ?a5 ?l5 ?c5 ?k5 ?a6 ?l6 ?c6 ?k6 ?a7 ?l7 ?c7 ?k7 ?a8 ?l8 ?c8 ?k8 ?a9 ?l9 ?c9 ?k9 ?a10 ?l10 ?c10 ?k10 ?a11 ?l11 ?c11 ?k11 ?a12 ?l12 ?c12 ?k12 ?a13 ?l13 ?c13 ?k13 ?a14 ?l14 ?c14 ?k14 ?a15 ?l15 ?c15 ?k15 ?a16 ?l16 ?c16 ?k16 ?z1 ?z2 ?z3 ?z4 ?z5 ?z6 ?z7 ?z8 ?z9 ?z10 ?z11
    (case a1 => k_is)
    (case l1 => k_is)
    (case c1 => k_is)
    (case k1 => k_is)
    (case a2 => k_is)
    (case l2 => k_is)
    (case c2 => k_is)
    (case k2 => k_is)
    (case a3 => k_is)
    (case l3 => k_is)
    (case c3 => k_is)
    (case k3 => k_is)
    (case a4 => k_is)
    (case l4 => k_is)
    (case c4 => k_is)
    (case k4 => k_is)
    (case a5 => k_is)
    (case l5 => k_is)
    (case c5 => k_is)
    (case k5 => k_is)
    (case a6 => k_is)
    (case l6 => k_is)
    (case c6 => k_is)
    (case k6 => k_is)
    (case a7 => k_is)
    (case l7 => k_is)
    (case c7 => k_is)
    (case k7 => k_is)
    (case a8 => k_is)
    (case l8 => k_is)
    (case c8 => k_is)
    (case k8 => k_is)
    (case a9 => k_is)
    (case l9 => k_is)
    (case c9 => k_is)
    (case k9 => k_is)
    (case a10 => k_is)
    (case l10 => k_is)
    (case c10 => k_is)
    (case k10 => k_is)
    (case a11 => k_is)
    (case l11 => k_is)
    (case c11 => k_is)
    (case k11 => k_is)
    (case a12 => k_is)
    (case l12 => k_is)
    (case c12 => k_is)
    (case k12 => k_is)
    (case a13 => k_is)
    (case l13 => k_is)
    (case c13 => k_is)
    (case k13 => k_is)
    (case a14 => k_is)
    (case l14 => k_is)
    (case c14 => k_is)
    (case k14 => k_is)
    (case a15 => k_is)
    (case l15 => k_is)
    (case c15 => k_is)
    (case k15 => k_is)
    (case a16 => k_is)
    (case l16 => k_is)
    (case c16 => k_is)
    (case k16 => k_is)
    (case z1 => k_is)
    (case z2 => k_is)
    (case z3 => k_is)
    (case z4 => k_is)
    (case z5 => k_is)
    (case z6 => k_is)
    (case z7 => k_is)
    (case z8 => k_is)
    (case z9 => k_is)
    (case z10 => k_is)
    (case z11 => k_is)
