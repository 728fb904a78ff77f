import PyProof.Rows.All
import Wide.All
import OpenK.AllK
import Wide.FinOn
import HandS.Base
import HandS.Call
import HandS.List
import HandS.Comp
import HandS.Ends
import HandS.Words
import PyProof.ReprRoads
import PyProof.ReprReads
import HandS.Wide
import HandS.Text
import HandS.Iter
import PyProof.StrBlock2
import KE.KxText
import HandS.TupAny
import PyProof.ReprLen
import HandS.Style
import HandS.More
import HandS.IsInst
import PyProof.Rows.IntBool
import PyProof.NeData
import PyProof.CallStr
import HandS.Dict
import HandS.Zip
import HandS.TupLe
import PySem.Challenge.RW_movingpages_k07_schedules_of_any_value
set_option Elab.async false
set_option linter.all false
set_option maxRecDepth 100000
set_option maxHeartbeats 4000000
/-! Promises of defs that are called while no repr is under way: then repr of data is its text. -/
namespace Gd
open PySem PySem.Spec PyProof.Rows L2
structure FnG (P : Program) (w : World) (K : PySem.W.Frag) (mg : Str → Option Value) (base : Heap) (k : Nat) (f : Addr) (fd : FuncData) (ps : List Str) (sp : Sp) : Prop where
  len : ∀ vs H Q E, sp vs H Q E → vs.length = ps.length
  go : ∀ {A : Around} {outer : List Env} {s : Shared} {H : Hp} {args : Args} {us : List Value} {vs : List V} {Q : VK} {E : XK}, A.guards = some [] → Room k A →
    Env0 P w K mg base A outer s H → BindsTo s fd args (ps.zip us) → Vals vs us → sp vs H Q E → codeAny (model P w) A (.call (.ref f) args) (CR CX0 outer P w H s Q E) s
section
variable {P : Program} {w : World} {K : PySem.W.Frag} {mg : Str → Option Value} {base : Heap} {k : Nat} {f : Addr} {fd : FuncData} {ps : List Str} {sp : Sp}
theorem FnG.up {j : Nat} (G : FnG P w K mg base j f fd ps sp) (h : j ≤ k) : FnG P w K mg base k f fd ps sp :=
  ⟨G.len, fun g r e b v q => G.go g (r.mono h) e b v q⟩
/-- a def's body, walked while no repr is under way -/
theorem okG {x qual : Str} {st : Stmt} {N : List Str} (F : Fun K x qual st f fd) (S : FnScope N ps (defScope st)) (len : ∀ vs H Q E, sp vs H Q E → vs.length = ps.length)
    (B : ∀ (cdv : Value) (A : Around) (outer : List Env) (s : Shared) (H : Hp) (vs : List V) (Q : VK) (E : XK), A.guards = some [] → Room k (A.deeper (envOfC qual (defScope st) s.heap.objs.size f cdv)) → sp vs H Q E →
      ∃ t, PSs (cxOf CX0 P w K mg base N qual (defScope st) f cdv A outer s H E).nox (defBody st) t ∧ t { nx := fun _ H' => Q .non H', rt := Q } (start N vs) H) : FnG P w K mg base (k + 1) f fd ps sp := by
  obtain ⟨oc, od, kV, doc, pm, an, cdv, ct, osl, rfl, lk, hcd⟩ := F.ex
  refine ⟨len, fun {A outer s H args us vs Q E} g room env0 bt rel want => ?_⟩
  have kin : K.In s.heap := env0.mod.kin.keeps fun b o q => (env0.bs b o q).1
  have nol : s.heap.NoLimit := env0.mod.nolimit.keeps fun b o q => (env0.bs b o q).1
  refine codeAny_call_function room.depth (kin _ _ lk) rfl S.co S.gen rfl (PySem.W.codeRec_of kin hcd) (bt _ _ _ _ ?_)
  refine wpAny_newFunctionEnv_cells S.kind ?_ fun env ee s1 inn => ?_
  · rintro ⟨n, v⟩ hy
    refine (S.par n (List.of_mem_zip hy).1).elim Or.inl fun q => Or.inr ⟨q, ?_⟩
    exact PySem.W.cellsFrom_some _ _ _ (Or.inl q)
  subst ee
  refine ⟨nol.keeps inn.toInCall.keep, codeAny_func ?_⟩
  obtain ⟨t, ht, hq⟩ := B cdv A outer s H vs Q E g (room.deeper _) want
  have I0 := inv_start (CX := CX0) (E := E) S room.hd env0 (len _ _ _ _ want) rel inn
  refine wpAny_mono (ht.nox.run [] s1 (start N vs) H _ I0 hq) (fun fl s' z => ?_) fun _ _ z => z
  cases fl with
  | ret u =>
    obtain ⟨v, σ', H', J, rv, q⟩ := z
    exact ⟨v, H', J.os, J.bare, J.base, J.hok, rv, q⟩
  | next =>
    obtain ⟨σ', H', J, q⟩ := z
    exact ⟨V.non, H', J.os, J.bare, J.base, J.hok, rfl, q⟩
  | brk => exact z.elim fun _ z => z.elim fun _ z => z.2.elim
  | cont => exact z.elim fun _ z => z.elim fun _ z => z.2.elim
end
section
variable {X : Cx} {k : Nat} {f : Addr} {fd : FuncData} {ps : List Str} {sp : Sp} {x : Str} {p pos : Pos} {e : Expr} {es : List Expr} {t : TA}
/-- f(e, ..) of such a def -/
theorem pe_callG (F : FnG X.prog X.w X.K X.mg X.base k f fd ps sp) (g : X.A.guards = some []) (room : Room k X.A) (hg : Gl X x) (hm : X.mg x = some (.ref f)) (hk : PySem.W.keepIn X.K (.ref f) = true) (hb : Binds X.K fd ps [])
    (ha : PA X (e :: es) t) (hdb : (x == ("__debug__" : Str)) = false := by decide) (he : starEach (e :: es) X.env = (false, eval e X.env) :: starEach es X.env := by rfl) (hpl : (backTo pos (starEach es X.env)).any (·.1) = false := by rfl) :
    PE X (.Call (.Name x p) (e :: es) [] pos) (tCall sp [] E0 t) := ⟨fun pins s σ H Q I h => by
  refine wpAny_Call_Name_kw (ld_glob I hg hm ?_ hdb)
  refine PySem.W.callWith_K (h₀ := X.base) I.ok.mod.kin hk (thn (ha.run pos pins s σ H _ I h) ?_) he hpl
  rintro us s1 ⟨vs, H1, I1, r, q⟩
  refine ⟨I1.kIn, ?_⟩
  have r0 : Vals (vs ++ []) (us ++ []) := r.append .nil
  have z := F.len _ _ _ _ q
  rw [r0.length] at z
  refine wpAny_call (codeAny_mono (F.go g room I1.env0 (hb s1 us I1.kIn z) r0 q) fun res s' hq => ?_)
  cases res with
  | error _ => exact False.elim hq
  | ok fl =>
    cases fl with
    | ret u => exact I1.after hq
    | next => exact False.elim hq
    | brk => exact False.elim hq
    | cont => exact False.elim hq⟩
end
/-- repr(x) of data without dicts -/
def rShow (K : PySem.W.Frag) : List V → Hp → VK → Prop := fun xs H Q => ∃ x d, xs = [x] ∧ Dp K H x d ∧ d.showable = true ∧ d.hasDict = false ∧ d.depth ≤ 60 ∧ d.shown.length ≤ sizeLine ∧ Q (.str d.shown) H
theorem call_show {X : Cx} (g : X.A.guards = some []) (hu : X.A.units + 64 < cLine) : CallR X (.builtin "repr") (rShow X.K) := by
  rintro pins s σ H xs us Q I r ⟨x, d, rfl, hd, hs, hn, hz, hl, q⟩
  obtain ⟨u, rfl, rx⟩ := vals1 r
  obtain ⟨as, rd⟩ := Dp.reads I d x u hd rx
  have keep : ∀ (h' : Heap) (tk : Nat), (∀ b o, s.heap.get? b = some o → h'.get? b = some o) → Inv X pins σ H { s with heap := h', toks := tk } := fun h' tk hk => I.un (Un.kept hk) (I.hok.kept hk)
  cases rd with
  | none => exact PySem.P.repr_of_none ⟨.str _, H, I.tok _, ⟨_, rfl⟩, q⟩
  | bool b => exact PySem.P.repr_of_bool ⟨.str _, H, I.tok _, ⟨_, rfl⟩, q⟩
  | int i t => exact PySem.P.repr_of_int (of_decide_eq_true hs) ⟨.str _, H, I.tok _, ⟨_, rfl⟩, q⟩
  | str x t => exact PySem.P.repr_of_str ⟨.str _, H, I.tok _, ⟨_, rfl⟩, q⟩ hl
  | list h1 h2 h3 h4 => exact repr_of_reads' (.list h1 h2 h3 h4) hs (PyData.noDict_hsm hn) g (by omega) (fun _ _ z => z) (fun h' v tk hk => ⟨.str _, H, keep h' tk hk, ⟨v, rfl⟩, q⟩) hl
  | tuple h1 h2 h3 h4 => exact repr_of_reads' (.tuple h1 h2 h3 h4) hs (PyData.noDict_hsm hn) g (by omega) (fun _ _ z => z) (fun h' v tk hk => ⟨.str _, H, keep h' tk hk, ⟨v, rfl⟩, q⟩) hl
  | dict h1 h2 h3 h4 h5 => cases hn
/-- the goal that k_head leaves, by such a promise of the law -/
theorem law_callG {P : Program} {w : World} {K : PySem.W.Frag} {mg mb : Str → Option Value} {k : Nat} {fa a : Addr} {fd : FuncData} {x : Str} {sp : Sp} {s₁ : Shared} {vs : List Value} {ns : List Int}
    (kin : K.In s₁.heap) (hns : s₁.heap.Ns mainGlobals mg) (hb : s₁.heap.Ns builtinsNs mb) (hbb : ∀ x : Str, x ≠ "__name__" → mb x = bootBuiltins x) (hlim : s₁.heap.NoLimit) (hg : s₁.gens = #[])
    (ha : s₁.heap.get? a = some { cls := .type "list", data := .seq vs.toArray }) (hi : IntsAre vs ns) (hl : ns.length ≤ sizeLine) (room : Room k callerA)
    (F : ∀ base : Heap, K.In base → base.Ns mainGlobals mg → FnG P w K mg base k fa fd [x] sp) (bind : ∀ (s : Shared) (u : Value), BindsTo s fd ⟨[u], []⟩ [(x, u)])
    (want : ∀ H : Hp, Only H → SqL K H a (ns.map V.int) → sp [.ref a] H (fun v _ => v = .bl true) fun _ _ _ => False) :
    codeAny (model P w) callerA (.call (.ref fa) ⟨[.ref a], []⟩) (fun r s' => r = .ok (.ret (.bool true)) ∧ OldK s₁.heap s'.heap ∧ s'.os = s₁.os ∧ AllBare s'.gens) s₁ := by
  have main : ∀ H : Hp, Only H → SqL K H a (ns.map V.int) → HOk P w H s₁.heap → (∀ b u, H b = some u → b = a ∧ K.lookup a = none) →
      codeAny (model P w) callerA (.call (.ref fa) ⟨[.ref a], []⟩) (fun r s' => r = .ok (.ret (.bool true)) ∧ OldK s₁.heap s'.heap ∧ s'.os = s₁.os ∧ AllBare s'.gens) s₁ := by
    intro H hO hS hok hA
    have off : ∀ {b : Addr} {o : Obj} {es : Array DictEntry} {ep : Nat}, s₁.heap.get? b = some o → o.data = .dict es ep → H b = none := by
      intro b o es ep e d
      cases q : H b with
      | none => rfl
      | some u =>
        obtain ⟨rfl, _⟩ := hA b u q
        rw [ha] at e
        cases e
        exact Data.noConfusion d
    have names : ∀ {b : Addr} {m : Str → Option Value}, s₁.heap.Ns b m → (hidT s₁.heap H).Ns b m := by
      rintro b m ⟨o, es, ep, e, d, r⟩
      exact ⟨o, es, ep, hidT_get e (off e d), d, r⟩
    have kin' : K.In (hidT s₁.heap H) := by
      intro b o e
      refine hidT_get (kin b o e) ?_
      cases q : H b with
      | none => rfl
      | some u =>
        obtain ⟨rfl, z⟩ := hA b u q
        rw [z] at e
        cases e
    obtain ⟨mc, l1, l2⟩ := hlim
    have hM : Mod K mg (hidT s₁.heap H) := ⟨kin', names hns, ⟨mb, names hb, hbb⟩, ⟨mc, names l1, l2⟩⟩
    have env0 : Env0 P w K mg (hidT s₁.heap H) callerA [] s₁ H :=
      ⟨rfl, hM, fun b o e => of_hidT e, Nat.le_of_eq (hidT_size _ _), trivial, fun b hb => (nomatch hb), hok, .of_eq hg⟩
    refine codeAny_mono ((F _ kin' (names hns)).go (us := [.ref a]) (vs := [.ref a]) rfl room env0 (bind s₁ (.ref a)) (.cons rfl .nil) (want H hO hS)) fun r s' h => ?_
    cases r with
    | error e => exact h.elim
    | ok fl =>
      cases fl with
      | next => exact False.elim h
      | brk => exact False.elim h
      | cont => exact False.elim h
      | ret u =>
        obtain ⟨v, H', os, bare, un, hok', r', q⟩ := h
        have q' : v = .bl true := q
        subst q'
        obtain rfl : u = Value.bool true := r'
        refine ⟨rfl, OldK.of_keep fun b o e => ?_, os, bare⟩
        rcases hO b with z | ⟨ob, xs, z⟩
        · exact un.keep b o e z (fun y => (nomatch y)) (fun y => (nomatch y))
        · obtain ⟨e1, _⟩ := hok b _ z
          obtain ⟨e2, _⟩ := hok' b _ (un.frzs b ob _ z)
          rw [e] at e1
          cases e1
          exact e2
  have lenV := hi.length
  have rv := vals_ints hi
  cases hk : K.lookup a with
  | some o =>
    have e := kin a o hk
    rw [ha] at e
    cases e
    refine main (fun _ => none) (fun _ => .inl rfl) (.inr ⟨_, vs.toArray, _, hk, rfl, rfl, rfl, ?_, ?_⟩) (fun b u z => (nomatch z)) (fun b u z => (nomatch z))
    · rw [List.size_toArray, lenV]
      exact hl
    · simpa using rv
  | none =>
    have at_a : ∀ (b : Addr) (u : HO), (if b = a then some (HO.frz { cls := .type "list", data := .seq vs.toArray } (.lst (ns.map V.int))) else none) = some u → b = a ∧ u = HO.frz { cls := .type "list", data := .seq vs.toArray } (.lst (ns.map V.int)) := by
      intro b u z
      split at z
      · next e => exact ⟨e, (Option.some.inj z).symm⟩
      · cases z
    refine main (fun b => if b = a then some (.frz { cls := .type "list", data := .seq vs.toArray } (.lst (ns.map V.int))) else none) (fun b => ?_) (.inl (.inr ⟨_, if_pos rfl⟩)) (fun b u z => ?_) (fun b u z => ⟨(at_a b u z).1, hk⟩)
    · by_cases hb : b = a
      · exact .inr ⟨_, _, if_pos hb⟩
      · exact .inl (if_neg hb)
    · obtain ⟨rfl, rfl⟩ := at_a b u z
      exact ⟨ha, by rw [List.length_map]; exact hl, vs, _, rv, ha⟩
theorem walkG {l : PySem.W.OpenLaw} {n k : Nat} {q : Program} {loose : List Str} {XP : (Str → Option Value) → Heap → Prop} {YP : World → Heap → Prop} {d : DefRec} {K : Params → PySem.W.Frag} {sp : PySem.W.Frag → Sp} {x : Str}
    (hn : l.most = some n) (hn2 : n ≤ sizeLine) (hdf : d.params.defaults = []) (room : Room k callerA) (hY : ∀ (w : World) (h : Heap), YP w h → (K w.params).In h)
    (F : ∀ (w : World) (mg : Str → Option Value) (fa : Addr) (h : Heap), (K w.params).In h → h.Ns mainGlobals mg → mg d.name = some (.ref fa) → ∃ fd : FuncData, (∀ (s : Shared) (u : Value), BindsTo s fd ⟨[u], []⟩ [(x, u)]) ∧
        ∀ base : Heap, (K w.params).In base → base.Ns mainGlobals mg → FnG l.prog w (K w.params) mg base k fa fd [x] (sp (K w.params)))
    (want : ∀ (K : PySem.W.Frag) (H : Hp) (a : Addr) (ns : List Int), ns.length ≤ n → Only H → SqL K H a (ns.map V.int) → sp K [.ref a] H (fun v _ => v = .bl true) fun _ _ _ => False) :
    PySem.W.WalkO q loose XP YP l.row.toRowW d [] (fun f vs => PySem.call f vs) :=
  Att.attach_call hn hdf fun w s₀ s₁ mg mb fa o pm cd doc a vs ns G Y ho hd hcd hmg hobj hints hlen hg => by
    obtain ⟨fd, hb, hF⟩ := F w mg fa _ (hY w _ Y) G.T.g hmg
    exact law_callG (hY w _ Y) G.T.g G.T.b G.T.builtins G.T.nolimit hg hobj hints (Nat.le_trans hlen hn2) room hF hb fun H hO hS => want _ H a ns hlen hO hS
end Gd
namespace M
open PySem PySem.Spec PyProof.Rows L2 Gd
def topS (i : Nat) : Stmt := PySem.Challenge.pw_movingpages_k07_schedules_of_any_value.main.body.getD i (.Pass ⟨0, 0, 0, 0⟩)
/-- the hand at a: its three ints, at most n draws old -/
def Hd (H : Hp) (a : Addr) (n : Nat) : Prop := ∃ g s t : Int, H a = some (.lst [.int g, .int s, .int t]) ∧ 0 ≤ g ∧ 0 ≤ s ∧ s < 2305843009213693952 ∧ 0 ≤ t ∧ t ≤ n
/-- all but what stands at a is as it was -/
def But (a : Addr) (H H' : Hp) : Prop := ∀ b o, b ≠ a → H b = some o → H' b = some o
theorem But.refl (a : Addr) (H : Hp) : But a H H := fun _ _ _ h => h
theorem But.trans {a : Addr} {H H1 H2 : Hp} (x : But a H H1) (y : But a H1 H2) : But a H H2 := fun b o n h => y b o n (x b o n h)
theorem But.new {a p : Addr} {H H1 : Hp} {o : HO} (x : But a H H1) (h : H1 p = none) : But a H (upd H1 p o) := fun b u n e => by
  have e1 := x b u n e
  rw [upd_ne (ne_of_none e1 h)]
  exact e1
theorem But.put {a : Addr} {H H1 : Hp} {o : HO} (x : But a H H1) : But a H (upd H1 a o) := fun b u n e => by
  rw [upd_ne n]
  exact x b u n e
/-- an object that was new ahead of all may change -/
theorem But.own {a p : Addr} {H H1 : Hp} {o : HO} (x : But a H H1) (h : H p = none) : But a H (upd H1 p o) := fun b u n e => by
  rw [upd_ne (ne_of_none e h)]
  exact x b u n e
theorem Hd.up {H : Hp} {a : Addr} {n m : Nat} (h : Hd H a n) (l : n ≤ m) : Hd H a m := by
  obtain ⟨g, s, t, e, h1, h2, h3, h4, h5⟩ := h
  exact ⟨g, s, t, e, h1, h2, h3, h4, by omega⟩
theorem Hd.some {H : Hp} {a : Addr} {n : Nat} (h : Hd H a n) : ∃ xs, H a = some (.lst xs) := by
  obtain ⟨g, s, t, e, _⟩ := h
  exact ⟨_, e⟩
theorem Hd.new {H : Hp} {a p : Addr} {n : Nat} {o : HO} (h : Hd H a n) (hp : H p = none) : Hd (upd H p o) a n := by
  obtain ⟨g, s, t, e, r⟩ := h
  exact ⟨g, s, t, by rw [upd_ne (ne_of_none e hp)]; exact e, r⟩
theorem Hd.ne {H : Hp} {a p : Addr} {n : Nat} (h : Hd H a n) (hp : H p = none) : p ≠ a := fun z => by
  obtain ⟨g, s, t, e, r⟩ := h
  rw [z, e] at hp
  cases hp
theorem Hd.oth {H : Hp} {a p : Addr} {n : Nat} {o : HO} (h : Hd H a n) (hp : p ≠ a) : Hd (upd H p o) a n := by
  obtain ⟨g, s, t, e, r⟩ := h
  exact ⟨g, s, t, by rw [upd_ne (Ne.symm hp)]; exact e, r⟩
/-! ### take -/
abbrev sTake : Stmt := topS 8
theorem scTake : FnScope ["_law_hand_here", "_law_many", "_law_digit", "_law_prime", "_law_turn", "_law_mixed"] ["_law_hand_here", "_law_many"] (defScope sTake) := ⟨rfl, rfl, rfl, by decide +kernel, rfl, by decide +kernel, by decide +kernel⟩
def spTake : Sp := fun vs H Q _ => ∃ (a : Addr) (n : Nat) (m : Int), vs = [.ref a, .int m] ∧ Hd H a n ∧ n < 1000000 ∧ 0 < m ∧ m < 1073741824 ∧
  ∀ H' (v : Int), But a H H' → Hd H' a (n + 1) → 0 ≤ v → v < m → Q (.int v) H'
section
variable {P : Program} {w : World} {K : PySem.W.Frag} {mg : Str → Option Value} {base : Heap}
theorem prime_at {i : Int} (h0 : 0 ≤ i) (h1 : i < 6) : ∃ p : Int, atI [V.int 2147483647, V.int 2147483629, V.int 2147483587, V.int 2147483579, V.int 2147483563, V.int 2147483549] i = some (V.int p) ∧ 0 < p ∧ p < 2147483648 := by
  obtain ⟨j, rfl⟩ := Int.eq_ofNat_of_zero_le h0
  have hj : j < 6 := by omega
  match j, hj with
  | 0, _ => exact ⟨_, atI_nat (j := 0) rfl, by decide, by decide⟩
  | 1, _ => exact ⟨_, atI_nat (j := 1) rfl, by decide, by decide⟩
  | 2, _ => exact ⟨_, atI_nat (j := 2) rfl, by decide, by decide⟩
  | 3, _ => exact ⟨_, atI_nat (j := 3) rfl, by decide, by decide⟩
  | 4, _ => exact ⟨_, atI_nat (j := 4) rfl, by decide, by decide⟩
  | 5, _ => exact ⟨_, atI_nat (j := 5) rfl, by decide, by decide⟩
theorem sq_bound {t : Int} (h0 : 0 ≤ t) (h1 : t ≤ 1000000) : 0 ≤ 65537 * t * t ∧ 65537 * t * t ≤ 65537000000000000 := by
  have a1 : 0 ≤ 65537 * t := by omega
  have a2 : 65537 * t ≤ 65537000000 := by omega
  have b1 : 0 ≤ 65537 * t * t := Int.mul_nonneg a1 h0
  have b2 : 65537 * t * t ≤ 65537000000 * 1000000 := Int.mul_le_mul a2 h1 h0 (by decide)
  exact ⟨b1, by omega⟩
theorem ok_take {f : Addr} {fd : FuncData} {k : Nat} (F : Fun K "_law_take" "_law_take" sTake f fd) : FnOk P w K mg base CX0 (k + 1) f fd ["_law_hand_here", "_law_many"] spTake := by
  refine F.ok scTake (fun vs H Q E h => ?_) (fun cdv A outer s H vs Q E hr h => ?_)
  · obtain ⟨a, n, m, rfl, _⟩ := h
    rfl
  · obtain ⟨a, n, m, rfl, ⟨g, sd, t, ha, g0, s0, s1, t0, t1⟩, hn, m0, m1, q⟩ := h
    refine ⟨_, pss_cons (ps_if (pt_cmpR op_gt (pe_ix ix_list (pv 0) pe_int (fun _ _ => rfl)) pe_int (nomark _))
        (pss_cons (ps_set (i := 2) scTake.nd rfl (.inl rfl) (pe_op op_mod (pe_ix ix_list (pv 0) pe_int (fun _ _ => rfl)) (pv 1)))
        (pss_cons (ps_asg (pe_op op_fdivN (pe_ix ix_list (pv 0) pe_int (fun _ _ => rfl)) (pv 1)) (pg_sub (pv 0) pe_int set_list))
        (pss_one (ps_ret (pv 2))))) pss_nil)
      (pss_cons (ps_asg (pe_op op_add (pe_ix ix_list (pv 0) pe_int (fun _ _ => rfl)) pe_int) (pg_sub (pv 0) pe_int set_list))
      (pss_cons (ps_set (i := 3) scTake.nd rfl (.inl rfl) (pe_ix ix_list (pe_lst (pa_cons pe_int (pa_cons pe_int (pa_cons pe_int (pa_cons pe_int (pa_cons pe_int (pa_cons pe_int pa_nil)))))))
          (pe_op op_mod (pe_ix ix_list (pv 0) pe_int (fun _ _ => rfl)) pe_int) (fun _ _ => rfl)))
      (pss_cons (ps_set (i := 4) scTake.nd rfl (.inl rfl) (pe_ix ix_list (pv 0) pe_int (fun _ _ => rfl)))
      (pss_cons (ps_set (i := 5) scTake.nd rfl (.inl rfl) (pe_op op_mod (pe_op op_pow (pe_op op_add (pe_op op_add (pe_ix ix_list (pv 0) pe_int (fun _ _ => rfl)) (pe_op op_mul (pe_op op_mul pe_int (pv 4)) (pv 4))) (pe_op op_mul pe_int (pv 4))) pe_int) (pv 3)))
      (pss_one (ps_ret (pe_op op_mod (pe_op op_fdivN (pe_op op_mod (pe_op op_mul (pv 5) (pe_op op_add (pe_op op_mod (pv 5) pe_int) (pe_op op_mul pe_int (pv 4)))) pe_int) pe_int) (pv 1)))))))), ?_⟩
    have hA : SqL K H a [.int g, .int sd, .int t] := .inl (.inl ha)
    -- if hand[0] > 0
    refine ⟨.ref a, rfl, a, _, 0, .int g, rfl, rfl, hA, atI_nat (j := 0) rfl, g, 0, rfl, rfl, _, rfl, ite2 (fun e => ?_) (fun e => ?_)⟩
    · -- digit = hand[0] % many
      refine ⟨.ref a, rfl, a, _, 0, .int g, rfl, rfl, hA, atI_nat (j := 0) rfl, .int m, rfl, g, m, rfl, rfl, m0, ?_⟩
      -- hand[0] = hand[0] // many
      refine ⟨.ref a, rfl, a, _, 0, .int g, rfl, rfl, hA, atI_nat (j := 0) rfl, .int m, rfl, g, m, rfl, rfl, ⟨by omega, by omega⟩, ?_⟩
      refine ⟨.ref a, rfl, a, _, 0, 0, rfl, rfl, ha, rfl, ?_⟩
      refine ⟨.int (g % m), rfl, ?_⟩
      refine q _ _ (But.refl a H).put ⟨g.fdiv m, sd, t, upd_same, ?_, s0, s1, t0, by omega⟩ (Int.emod_nonneg _ (by omega)) (Int.emod_lt_of_pos _ m0)
      rw [Int.fdiv_eq_ediv_of_nonneg g (by omega)]
      exact Int.ediv_nonneg g0 (by omega)
    · -- hand[2] = hand[2] + 1
      refine ⟨.ref a, rfl, a, _, 2, .int t, rfl, rfl, hA, atI_nat (j := 2) rfl, t, 1, rfl, rfl, ?_⟩
      refine ⟨.ref a, rfl, a, _, 2, 2, rfl, rfl, ha, rfl, ?_⟩
      have hB : (upd H a (.lst [.int g, .int sd, .int (t + 1)])) a = some (.lst [.int g, .int sd, .int (t + 1)]) := upd_same
      -- prime
      refine ⟨(by show 6 ≤ sizeLine; decide), fun l hl => ?_⟩
      have nal : a ≠ l := ne_of_none hB hl
      have hC : (upd (upd H a (.lst [.int g, .int sd, .int (t + 1)])) l (.lst [.int 2147483647, .int 2147483629, .int 2147483587, .int 2147483579, .int 2147483563, .int 2147483549])) a = some (.lst [.int g, .int sd, .int (t + 1)]) := by
        rw [upd_ne nal]
        exact hB
      obtain ⟨p, hp, p0, p1⟩ := prime_at (i := (t + 1) % 6) (Int.emod_nonneg _ (by decide)) (Int.emod_lt_of_pos _ (by decide))
      refine ⟨.ref a, rfl, a, _, 2, .int (t + 1), rfl, rfl, .inl (.inl hC), atI_nat (j := 2) rfl, t + 1, 6, rfl, rfl, (by show (0 : Int) < 6; decide), ?_⟩
      refine ⟨l, _, (t + 1) % 6, .int p, rfl, rfl, .inl (.inl upd_same), hp, ?_⟩
      -- turn
      refine ⟨.ref a, rfl, a, _, 2, .int (t + 1), rfl, rfl, .inl (.inl hC), atI_nat (j := 2) rfl, ?_⟩
      -- mixed
      have B := sq_bound (t := t + 1) (by omega) (by omega)
      have hb : (sd + 65537 * (t + 1) * (t + 1) + 31 * (t + 1)).natAbs < 2 ^ 64 := by omega
      refine ⟨.ref a, rfl, a, _, 1, .int sd, rfl, rfl, .inl (.inl hC), atI_nat (j := 1) rfl, .int (t + 1), rfl, 65537, t + 1, rfl, rfl, .inl ⟨by decide, by decide⟩, .int (t + 1), rfl, _, t + 1, rfl, rfl, .inr ⟨by omega, by omega⟩,
        _, _, rfl, rfl, .int (t + 1), rfl, 31, t + 1, rfl, rfl, .inl ⟨by decide, by decide⟩, _, _, rfl, rfl, _, 3, rfl, rfl, ⟨by decide, by decide, hb⟩, .int p, rfl, _, p, rfl, rfl, p0, ?_⟩
      -- the end
      have x0 : 0 ≤ (sd + 65537 * (t + 1) * (t + 1) + 31 * (t + 1)) ^ (3 : Int).toNat % p := Int.emod_nonneg _ (by omega)
      have x1 : (sd + 65537 * (t + 1) * (t + 1) + 31 * (t + 1)) ^ (3 : Int).toNat % p < p := Int.emod_lt_of_pos _ p0
      refine ⟨_, rfl, _, rfl, _, 10007, rfl, rfl, (by show (0 : Int) < 10007; decide), .int (t + 1), rfl, 13, t + 1, rfl, rfl, .inl ⟨by decide, by decide⟩, _, _, rfl, rfl, _, _, rfl, rfl, .inl ⟨by omega, by omega⟩,
        _, 2305843009213693907, rfl, rfl, (by show (0 : Int) < 2305843009213693907; decide), _, 97, rfl, rfl, ⟨by decide, by decide⟩, .int m, rfl, _, m, rfl, rfl, m0, ?_⟩
      refine q _ _ ((But.refl a H).put.new hl) ⟨g, sd, t + 1, hC, g0, s0, s1, by omega, by omega⟩ (Int.emod_nonneg _ (by omega)) (Int.emod_lt_of_pos _ m0)
end
end M
namespace M
open PySem PySem.Spec PyProof.Rows L2 Gd
/-! ### pick -/
abbrev sPick : Stmt := topS 9
theorem scPick : FnScope ["_law_hand_here", "_law_items"] ["_law_hand_here", "_law_items"] (defScope sPick) := ⟨rfl, rfl, rfl, by decide +kernel, rfl, by decide +kernel, by decide +kernel⟩
def spPick : Sp := fun vs H Q _ => ∃ (a : Addr) (n : Nat) (x : V), vs = [.ref a, x] ∧ Hd H a n ∧ n < 1000000 ∧
  ((∃ b xs, x = .ref b ∧ b ≠ a ∧ (H b = some (.lst xs) ∨ H b = some (.tup xs)) ∧ 0 < xs.length ∧ xs.length ≤ 1000 ∧ ∀ H' v, But a H H' → Hd H' a (n + 1) → v ∈ xs → Q v H') ∨
   (∃ z : Str, x = .str z ∧ 0 < z.length ∧ z.length ≤ 1000 ∧ ∀ H' c, But a H H' → Hd H' a (n + 1) → c ∈ z.cps.toList → Q (.str ⟨#[c]⟩) H'))
theorem at_in {α : Type} {xs : List α} {i : Int} (h0 : 0 ≤ i) (h1 : i < (xs.length : Int)) : ∃ v, v ∈ xs ∧ atI xs i = some v := by
  obtain ⟨j, rfl⟩ := Int.eq_ofNat_of_zero_le h0
  have hj : j < xs.length := by omega
  exact ⟨xs[j], List.getElem_mem hj, atI_nat (List.getElem?_eq_getElem hj)⟩
theorem sz1000 {n : Nat} (h : n ≤ 1000) : n ≤ sizeLine := Nat.le_trans h (by decide)
section
variable {P : Program} {w : World} {K : PySem.W.Frag} {mg : Str → Option Value} {base : Heap}
theorem ok_pick {f fT : Addr} {fd fdT : FuncData} {k : Nat} (F : Fun K "_law_pick" "_law_pick" sPick f fd) (FT : Fun K "_law_take" "_law_take" sTake fT fdT) (bT : Binds K fdT ["_law_hand_here", "_law_many"] []) (gT : mg "_law_take" = some (.ref fT)) (ml : mg "len" = none) :
    FnOk P w K mg base CX0 (k + 2) f fd ["_law_hand_here", "_law_items"] spPick := by
  have GT : FnOk P w K mg base CX0 (k + 1) fT fdT ["_law_hand_here", "_law_many"] spTake := ok_take FT
  refine F.ok scPick (fun vs H Q E h => ?_) (fun cdv A outer s H vs Q E hr h => ?_)
  · obtain ⟨a, n, x, rfl, _⟩ := h
    rfl
  · obtain ⟨a, n, x, rfl, hh, hn, h⟩ := h
    refine ⟨_, pss_one (ps_ret (pe_ix ix_seq (pv 1) (pe_call GT hr (by rfl) gT FT.kp bT .nil pass0 (pa_cons (pv 0) (pa_cons (pe_callB call_len (by rfl) ml PySem.boot_len (pa_cons (pv 1) pa_nil)) pa_nil))) (fun _ _ => rfl))), ?_⟩
    rcases h with ⟨b, xs, rfl, nb, hb, l0, l1, q⟩ | ⟨z, rfl, l0, l1, q⟩
    · have hl : LenV K (.ref b) H xs.length := by
        rcases hb with hb | hb
        · exact .inl ⟨xs, SqL.of hb, rfl⟩
        · exact .inr ⟨xs, SqT.of hb, rfl⟩
      refine ⟨.ref b, rfl, .ref a, rfl, .ref b, rfl, _, xs.length, rfl, hl, a, n, xs.length, rfl, hh, hn, by omega, by omega, fun H' v sb hd v0 v1 => ?_⟩
      obtain ⟨y, hy, ey⟩ := at_in (xs := xs) v0 v1
      rcases hb with hb | hb
      · exact .inl ⟨b, xs, v, y, rfl, rfl, SqL.of (sb b _ nb hb), ey, q H' y sb hd hy⟩
      · exact .inr (.inl ⟨b, xs, v, y, rfl, rfl, SqT.of (sb b _ nb hb), ey, q H' y sb hd hy⟩)
    · refine ⟨.str z, rfl, .ref a, rfl, .str z, rfl, _, z.length, rfl, ⟨sz1000 l1, rfl⟩, a, n, z.length, rfl, hh, hn, by omega, by omega, fun H' v sb hd v0 v1 => ?_⟩
      obtain ⟨y, hy, ey⟩ := at_in (xs := z.cps.toList) v0 (by rw [show z.cps.toList.length = z.length from Array.length_toList]; exact v1)
      exact .inr (.inr ⟨z, v, y, rfl, rfl, sz1000 l1, ey, q H' y sb hd hy⟩)
end
/-! ### names -/
theorem op_rep_str {X : Cx} : OpR X (binaryOp .Mult) (fun x y H Q => ∃ z n, x = .str z ∧ y = .int n ∧ MulOk z n ∧ Q (.str (Txt.mul z n)) H) := by
  rintro pins s σ H x y v u Q I rx ry ⟨z, n, rfl, rfl, ok, q⟩
  obtain ⟨t, rfl⟩ := rx
  obtain ⟨t', rfl⟩ := ry
  exact SB.mul ok fun _ k => ⟨.str _, H, I.tok _, ⟨_, rfl⟩, q⟩
/-- a row -/
def RowS (z : Str) : Prop := 1 ≤ z.length ∧ z.length ≤ 8 ∧ ∀ c ∈ z.cps.toList, 97 ≤ c ∧ c ≤ 122
abbrev abc : Str := "abcdefghijklmnopqrstuvwxyz"
theorem abc_len : abc.length = 26 := by decide +kernel
theorem abc_at : ∀ j : Nat, j < 26 → abc.cps.toList[j]? = some (97 + j) := by decide +kernel
theorem abc_mem : ∀ c ∈ abc.cps.toList, 97 ≤ c ∧ c ≤ 122 := by decide +kernel
def nmS (z : Str) (k : Nat) (c : Nat) : Str := cutS z none (some (k : Int)) ++ ⟨#[c]⟩ ++ cutS z (some (k : Int)) none
theorem len_cps (z : Str) : z.cps.toList.length = z.length := Array.length_toList
theorem nmS_list {z : Str} {k c : Nat} (hk : k ≤ z.length) : (nmS z k c).cps.toList = z.cps.toList.take k ++ c :: z.cps.toList.drop k := by
  unfold nmS cutS
  rw [PySem.W.KT.app_list, PySem.W.KT.app_list, HT.sIx_none, HT.sIx_none, HT.sIx_nat, HT.sIx_nat, Nat.min_eq_left hk]
  show (List.take (k - 0) (List.drop 0 z.cps.toList)) ++ [c] ++ List.take (z.length - k) (List.drop k z.cps.toList) = _
  rw [List.drop_zero, Nat.sub_zero, List.append_assoc]
  have e : List.take (z.length - k) (List.drop k z.cps.toList) = List.drop k z.cps.toList := List.take_of_length_le (by rw [List.length_drop, len_cps]; omega)
  rw [e]
  rfl
theorem nmS_len {z : Str} {k c : Nat} (hk : k ≤ z.length) : (nmS z k c).length = z.length + 1 := by
  rw [← len_cps, nmS_list hk, List.length_append, List.length_cons, List.length_take, List.length_drop, len_cps]
  omega
theorem nmS_inj {z : Str} {k c d : Nat} (hk : k ≤ z.length) (h : nmS z k c = nmS z k d) : c = d := by
  have e := congrArg (fun s : Str => s.cps.toList) h
  simp only [nmS_list hk] at e
  have e2 := List.append_cancel_left e
  exact (List.cons.inj e2).1
theorem nmS_row {z : Str} {k c : Nat} (hk : k ≤ z.length) (hz : z.length ≤ 7) (ha : ∀ x ∈ z.cps.toList, 97 ≤ x ∧ x ≤ 122) (hc : 97 ≤ c ∧ c ≤ 122) : RowS (nmS z k c) := by
  refine ⟨by rw [nmS_len hk]; omega, by rw [nmS_len hk]; omega, fun x hx => ?_⟩
  rw [nmS_list hk] at hx
  rcases List.mem_append.mp hx with hx | hx
  · exact ha x (List.mem_of_mem_take hx)
  · rcases List.mem_cons.mp hx with hx | hx
    · rw [hx]; exact hc
    · exact ha x (List.mem_of_mem_drop hx)
/-- the j-th letter's place -/
def plc (first leap : Int) (j : Nat) : Nat := ((first + leap * (j : Int)) % 26).toNat
theorem plc_lt (first leap : Int) (j : Nat) : plc first leap j < 26 := by
  unfold plc
  have := Int.emod_nonneg (first + leap * (j : Int)) (show (26 : Int) ≠ 0 by decide)
  have := Int.emod_lt_of_pos (first + leap * (j : Int)) (show (0 : Int) < 26 by decide)
  omega
theorem plc_inj {first leap : Int} (hl : leap ∈ [(1 : Int), 3, 5, 7, 9, 11, 25]) {i j : Nat} (hi : i < 26) (hj : j < 26) (h : plc first leap i = plc first leap j) : i = j := by
  unfold plc at h
  simp only [List.mem_cons, List.not_mem_nil, or_false] at hl
  rcases hl with rfl | rfl | rfl | rfl | rfl | rfl | rfl <;> omega
def nmL (z : Str) (k : Nat) (first leap : Int) (n : Nat) : List Str := (List.range n).map fun j => nmS z k (97 + plc first leap j)
theorem nmL_nodup {z : Str} {k n : Nat} {first leap : Int} (hk : k ≤ z.length) (hl : leap ∈ [(1 : Int), 3, 5, 7, 9, 11, 25]) (hn : n ≤ 26) : (nmL z k first leap n).Nodup := by
  unfold nmL
  rw [List.nodup_iff_pairwise_ne, List.pairwise_map]
  refine List.Pairwise.imp_of_mem ?_ (List.nodup_iff_pairwise_ne.mp List.nodup_range)
  intro i j hi hj ne e
  have hi := List.mem_range.mp hi
  have hj := List.mem_range.mp hj
  have e2 := nmS_inj hk e
  exact ne (plc_inj (first := first) hl (by omega) (by omega) (by omega))
theorem nmL_len {z : Str} {k n : Nat} {first leap : Int} : (nmL z k first leap n).length = n := by
  unfold nmL
  rw [List.length_map, List.length_range]
theorem nmL_row {z : Str} {k n : Nat} {first leap : Int} (hk : k ≤ z.length) (hz : z.length ≤ 7) (ha : ∀ x ∈ z.cps.toList, 97 ≤ x ∧ x ≤ 122) : ∀ y ∈ nmL z k first leap n, RowS y := by
  intro y hy
  unfold nmL at hy
  obtain ⟨j, _, rfl⟩ := List.mem_map.mp hy
  have := plc_lt first leap j
  exact nmS_row hk hz ha (by omega)
/-- a stem -/
theorem stem_ok {c : Nat} (hc : 97 ≤ c ∧ c ≤ 122) {n : Int} (hn : V.int n ∈ [V.int 0, V.int 0, V.int 1, V.int 3, V.int 7]) : MulOk ⟨#[c]⟩ n ∧ (Txt.mul ⟨#[c]⟩ n).length ≤ 7 ∧ ∀ x ∈ (Txt.mul ⟨#[c]⟩ n).cps.toList, 97 ≤ x ∧ x ≤ 122 := by
  have hn2 : n = 0 ∨ n = 1 ∨ n = 3 ∨ n = 7 := by
    simp only [List.mem_cons, List.not_mem_nil, or_false, V.int.injEq] at hn
    omega
  have one : ∀ l : List Nat, (∀ x ∈ l, x = c) → ∀ x ∈ l, 97 ≤ x ∧ x ≤ 122 := fun l h x hx => by rw [h x hx]; exact hc
  rcases hn2 with rfl | rfl | rfl | rfl
  · exact ⟨⟨by decide, fun h => absurd (by decide) h, fun h => absurd (by decide) h⟩, by show 0 ≤ 7; decide, one _ (fun x hx => by cases hx)⟩
  · exact ⟨⟨by decide, fun (_ : ¬ (1 : Int) < 1) h => Bool.noConfusion h, fun _ h => Bool.noConfusion h⟩, by show 1 ≤ 7; decide, one _ (fun x hx => by
      have hx : x ∈ [c] := hx
      simpa using hx)⟩
  · exact ⟨⟨by decide, fun _ _ => by show ¬ ((1 : Nat) : Int) > _; decide, fun _ _ => by show Builtin.Str.tooLong 3 = false; decide⟩, by show 3 ≤ 7; decide, one _ (fun x hx => by
      have hx : x ∈ [c, c, c] := hx
      simpa using hx)⟩
  · exact ⟨⟨by decide, fun _ _ => by show ¬ ((1 : Nat) : Int) > _; decide, fun _ _ => by show Builtin.Str.tooLong 7 = false; decide⟩, by show 7 ≤ 7; decide, one _ (fun x hx => by
      have hx : x ∈ [c, c, c, c, c, c, c] := hx
      simpa using hx)⟩
end M
namespace M
open PySem PySem.Spec PyProof.Rows L2 Gd
/-- what is new behind was new ahead -/
theorem fr {a p : Addr} {H H' : Hp} {n m : Nat} (b : But a H H') (h : Hd H a n) (h' : Hd H' a m) (hp : H' p = none) : H p = none := by
  cases e : H p with
  | none => rfl
  | some o =>
    rw [b p o (h'.ne hp) e] at hp
    cases hp
theorem lc_yes {σ : L2.St} {H : Hp} {A B : Hp → Prop} (h : A H) : tYes σ H (fun b H3 => if b = true then A H3 else B H3) := by
  show (if true = true then A H else B H)
  rw [if_pos rfl]
  exact h
abbrev sNames : Stmt := topS 10
abbrev nNames : List Str := ["_law_hand_here", "_law_count", "_law_letters", "_law_first", "_law_leap", "_law_stem", "_law_cut", "_law_nth"]
theorem scNames : FnScope nNames ["_law_hand_here", "_law_count"] (defScope sNames) := ⟨rfl, rfl, rfl, by decide +kernel, rfl, by decide +kernel, by decide +kernel⟩
def spNames : Sp := fun vs H Q _ => ∃ (a : Addr) (n : Nat) (c : Nat), vs = [.ref a, .int c] ∧ Hd H a n ∧ n < 900000 ∧ c ≤ 26 ∧
  ∀ H' p (ns : List Str), But a H H' → Hd H' a (n + 5) → H p = none → H' p = some (.lst (ns.map V.str)) → ns.length = c → ns.Nodup → (∀ z ∈ ns, RowS z) → Q (.ref p) H'
section
variable {P : Program} {w : World} {K : PySem.W.Frag} {mg : Str → Option Value} {base : Heap}
theorem ok_names {f fT fP : Addr} {fd fdT fdP : FuncData} {k : Nat} (F : Fun K "_law_names" "_law_names" sNames f fd) (FT : Fun K "_law_take" "_law_take" sTake fT fdT) (bT : Binds K fdT ["_law_hand_here", "_law_many"] []) (gT : mg "_law_take" = some (.ref fT))
    (FP : Fun K "_law_pick" "_law_pick" sPick fP fdP) (bP : Binds K fdP ["_law_hand_here", "_law_items"] []) (gP : mg "_law_pick" = some (.ref fP)) (ml : mg "len" = none) (mr : mg "range" = none) :
    FnOk P w K mg base CX0 (k + 3) f fd ["_law_hand_here", "_law_count"] spNames := by
  have GT : FnOk P w K mg base CX0 (k + 1) fT fdT ["_law_hand_here", "_law_many"] spTake := ok_take FT
  have GP : FnOk P w K mg base CX0 (k + 2) fP fdP ["_law_hand_here", "_law_items"] spPick := ok_pick FP FT bT gT ml
  refine F.ok scNames (fun vs H Q E h => ?_) (fun cdv A outer s H vs Q E hr h => ?_)
  · obtain ⟨a, n, c, rfl, _⟩ := h
    rfl
  · obtain ⟨a, n, c, rfl, hh, hn, hc, q⟩ := h
    have hr1 := hr.mono (show k + 1 ≤ k + 2 by omega)
    refine ⟨_, pss_cons (ps_set (i := 2) scNames.nd rfl (.inr rfl) pe_str)
      (pss_cons (ps_asg (pe_tup (pa_cons (pe_call GT hr1 (by rfl) gT FT.kp bT .nil pass0 (pa_cons (pv 0) (pa_cons pe_int pa_nil)))
          (pa_cons (pe_call GP hr (by rfl) gP FP.kp bP .nil pass0 (pa_cons (pv 0) (pa_cons (pe_lst (pa_cons pe_int (pa_cons pe_int (pa_cons pe_int (pa_cons pe_int (pa_cons pe_int (pa_cons pe_int (pa_cons pe_int pa_nil)))))))) pa_nil))) pa_nil)))
        (pg_tup rfl (pgs_cons (pg_name (i := 3) scNames.nd rfl (.inr rfl)) (pgs_cons (pg_name (i := 4) scNames.nd rfl (.inr rfl)) pgs_nil))))
      (pss_cons (ps_set (i := 5) scNames.nd rfl (.inr rfl) (pe_op op_rep_str (pe_call GP hr (by rfl) gP FP.kp bP .nil pass0 (pa_cons (pv 0) (pa_cons (pv 2) pa_nil)))
          (pe_call GP hr (by rfl) gP FP.kp bP .nil pass0 (pa_cons (pv 0) (pa_cons (pe_lst (pa_cons pe_int (pa_cons pe_int (pa_cons pe_int (pa_cons pe_int (pa_cons pe_int pa_nil)))))) pa_nil)))))
      (pss_cons (ps_set (i := 6) scNames.nd rfl (.inr rfl) (pe_call GT hr1 (by rfl) gT FT.kp bT .nil pass0 (pa_cons (pv 0) (pa_cons (pe_op op_add (pe_callB call_len (by rfl) ml PySem.boot_len (pa_cons (pv 5) pa_nil)) pe_int) pa_nil))))
      (pss_one (ps_ret (pe_lc (own := [("_law_nth", 7)]) (g := gName 7) (tt := tYes) rfl scNames.nd (pi_range1 rfl mr (pa_cons (pv 1) pa_nil)) (blkOk_by (own := [("_law_nth", 7)]) (N := nNames) (sc := defScope sNames) (by decide +kernel))
        (fun _ _ _ _ _ => pg_name (i := 7) scNames.nd rfl (.inl rfl)) (fun _ _ _ _ _ => pts_nil)
        (fun _ _ _ _ _ => pe_op op_add_str (pe_op op_add_str (pe_slice sl_str (pv 5) po_none (po_some (pv 6))) (pe_ix ix_str (pv 2) (pe_op op_mod (pe_op op_add (pv 3) (pe_op op_mul (pv 4) (pv 7))) pe_int) (fun _ _ => rfl))) (pe_slice sl_str (pv 5) (po_some (pv 6)) po_none)))))))), ?_⟩
    -- first, leap
    refine ⟨.ref a, rfl, a, n, 26, rfl, hh, by omega, by decide, by decide, fun H1 first sb1 hd1 f0 f1 => ?_⟩
    refine ⟨.ref a, rfl, (by show 7 ≤ sizeLine; decide), fun l hl => ?_⟩
    refine ⟨a, n + 1, .ref l, rfl, hd1.new hl, by omega, .inl ⟨l, _, rfl, hd1.ne hl, .inl upd_same, by decide, by decide, fun H2 v sb2 hd2 hv => ?_⟩⟩
    obtain ⟨leap, rfl, hleap⟩ : ∃ leap : Int, v = .int leap ∧ leap ∈ [(1 : Int), 3, 5, 7, 9, 11, 25] := by
      have hv : v ∈ [(1 : Int), 3, 5, 7, 9, 11, 25].map V.int := hv
      obtain ⟨x, hx, rfl⟩ := List.mem_map.mp hv
      exact ⟨x, rfl, hx⟩
    refine ⟨(by show 2 ≤ sizeLine; decide), fun t ht => ?_⟩
    refine ⟨t, _, rfl, SqT.of upd_same, rfl, _, _, rfl, _, _, rfl, rfl, ?_⟩
    have b3 : But a H (upd H2 t (.tup [.int first, .int leap])) := ((sb1.new hl).trans sb2).new ht
    have hd3 : Hd (upd H2 t (.tup [.int first, .int leap])) a (n + 2) := hd2.new ht
    generalize upd H2 t (.tup [.int first, .int leap]) = H3 at b3 hd3 ⊢
    -- stem
    refine ⟨.ref a, rfl, .str abc, rfl, a, n + 2, .str abc, rfl, hd3, by omega, .inr ⟨abc, rfl, by rw [abc_len]; decide, by rw [abc_len]; decide, fun H4 ch sb4 hd4 hch => ?_⟩⟩
    refine ⟨.ref a, rfl, (by show 5 ≤ sizeLine; decide), fun l5 hl5 => ?_⟩
    refine ⟨a, n + 3, .ref l5, rfl, hd4.new hl5, by omega, .inl ⟨l5, _, rfl, hd4.ne hl5, .inl upd_same, by decide, by decide, fun H5 v5 sb5 hd5 hv5 => ?_⟩⟩
    obtain ⟨r, rfl⟩ : ∃ r : Int, v5 = .int r := by
      have hv5 : v5 ∈ [(0 : Int), 0, 1, 3, 7].map V.int := hv5
      obtain ⟨x, hx, rfl⟩ := List.mem_map.mp hv5
      exact ⟨x, rfl⟩
    obtain ⟨ok, sl, sa⟩ := stem_ok (abc_mem ch hch) hv5
    refine ⟨_, r, rfl, rfl, ok, ?_⟩
    have b5 : But a H H5 := (b3.trans sb4).trans (((But.refl a H4).new hl5).trans sb5)
    generalize Txt.mul ⟨#[ch]⟩ r = stem at sl sa ⊢
    -- cut
    refine ⟨.ref a, rfl, .str stem, rfl, _, stem.length, rfl, ⟨sz1000 (by omega), rfl⟩, _, 1, rfl, rfl, a, n + 4, _, rfl, hd5, by omega, by omega, by omega, fun H6 cut sb6 hd6 c0 c1 => ?_⟩
    obtain ⟨ct, rfl⟩ := Int.eq_ofNat_of_zero_le c0
    have hct : ct ≤ stem.length := by omega
    have b6 : But a H H6 := b5.trans sb6
    have leapB : 1 ≤ leap ∧ leap ≤ 25 := by
      simp only [List.mem_cons, List.not_mem_nil, or_false] at hleap
      omega
    -- the list
    refine ⟨.int c, rfl, c, rfl, by omega, by omega, fun D hD => lc_range (lo := 0) (n := c) (fun i H' => But a H H' ∧ Hd H' a (n + 5) ∧ H' D = some (.lst ((nmL stem ct first leap i).map V.str))) ⟨b6.new hD, hd6.new hD, by rw [upd_same]; rfl⟩ (fun i H' hi hP => ?_) (fun H' hP => ?_)⟩
    · have hDH : H D = none := fr b6 hh hd6 hD
      obtain ⟨p1, p2, p3⟩ := hP
      refine ⟨rfl, lc_yes ?_⟩
      have hx : atI abc.cps.toList ((first + leap * (0 + (i : Int))) % 26) = some (97 + plc first leap i) := by
        have e : (first + leap * (0 + (i : Int))) % 26 = ((plc first leap i : Nat) : Int) := by
          unfold plc
          rw [Int.zero_add, Int.toNat_of_nonneg (Int.emod_nonneg _ (by decide))]
        rw [e]
        exact atI_nat (abc_at _ (plc_lt _ _ _))
      have le : (nmS stem ct (97 + plc first leap i)).length = stem.length + 1 := nmS_len hct
      refine ⟨_, rfl, _, rfl, _, rfl, stem, rfl, sz1000 (by omega), ?_⟩
      refine ⟨.str abc, rfl, .int first, rfl, .int leap, rfl, _, rfl, leap, _, rfl, rfl, ?_, first, _, rfl, rfl, _, 26, rfl, rfl, (by show (0 : Int) < 26; decide), abc, _, _, rfl, rfl, sz1000 (by rw [abc_len]; decide), hx, ?_⟩
      · refine .inl ⟨?_, ?_⟩ <;> omega
      have l1 : (cutS stem none (some (ct : Int))).length + (⟨#[97 + plc first leap i]⟩ : Str).length ≤ sizeLine := sz1000 (Nat.le_trans (Nat.add_le_add_right (cutS_length stem none (some (ct : Int))) _) (by show stem.length + 1 ≤ 1000; omega))
      refine ⟨_, _, rfl, rfl, l1, ?_⟩
      refine ⟨_, rfl, _, rfl, _, rfl, stem, rfl, sz1000 (by omega), _, _, rfl, rfl, ?_, ?_⟩
      · have e : (cutS stem none (some (ct : Int)) ++ ⟨#[97 + plc first leap i]⟩ ++ cutS stem (some (ct : Int)) none).length = (cutS stem none (some (ct : Int)) ++ ⟨#[97 + plc first leap i]⟩).length + (cutS stem (some (ct : Int)) none).length := by
          rw [← len_cps, PySem.W.KT.app_list, List.length_append, len_cps, len_cps]
        rw [← e]
        exact sz1000 (Nat.le_trans (Nat.le_of_eq le) (by omega))
      · refine ⟨_, p3, ?_, p1.own hDH, p2.oth (hd6.ne hD), ?_⟩
        · rw [List.length_map, nmL_len]
          exact small1000 (by omega)
        · rw [upd_same]
          unfold nmL
          rw [List.range_succ, List.map_append, List.map_append]
          rfl
    · have hDH : H D = none := fr b6 hh hd6 hD
      obtain ⟨p1, p2, p3⟩ := hP
      exact q H' D _ p1 p2 hDH p3 nmL_len (nmL_nodup hct hleap hc) (nmL_row hct sl sa)
end
end M
namespace M
open PySem PySem.Spec PyProof.Rows L2 Gd
/-! ### data of texts -/
theorem dp_strs {K : PySem.W.Frag} {H : Hp} : ∀ ns : List Str, DpAll K H (ns.map V.str) (ns.map PyData.str)
  | [] => .nil
  | x :: ns => .cons (.str x) (dp_strs ns)
theorem lay_strs : ∀ ns : List Str, (∀ z ∈ ns, PyData.strOk z = true) → PyData.canLayAll0 (ns.map PyData.str) = true
  | [], _ => rfl
  | x :: ns, h => by
    show (PyData.strOk x && PyData.canLayAll0 (ns.map PyData.str)) = true
    rw [lay_strs ns fun z hz => h z (List.mem_cons_of_mem _ hz), h x List.mem_cons_self]
    rfl
theorem deep_strs : ∀ ns : List Str, PyData.depthAll (ns.map PyData.str) = 0
  | [] => rfl
  | x :: ns => by
    show max 0 (PyData.depthAll (ns.map PyData.str)) = 0
    rw [deep_strs ns]
    rfl
theorem shaped_lst {ns : List Str} (h : ∀ z ∈ ns, PyData.strOk z = true) : SeqAt.shaped (.list (ns.map PyData.str)) = true := by
  unfold SeqAt.shaped
  rw [show PyData.canLay0 (.list (ns.map PyData.str)) = true from lay_strs ns h]
  refine decide_eq_true ?_
  show PyData.depthAll (ns.map PyData.str) + 1 ≤ 64
  rw [deep_strs]
  decide
theorem shaped_tup {ns : List Str} (h : ∀ z ∈ ns, PyData.strOk z = true) : SeqAt.shaped (.tuple (ns.map PyData.str)) = true := by
  unfold SeqAt.shaped
  rw [show PyData.canLay0 (.tuple (ns.map PyData.str)) = true from lay_strs ns h]
  refine decide_eq_true ?_
  show PyData.depthAll (ns.map PyData.str) + 1 ≤ 64
  rw [deep_strs]
  decide
theorem RowS.ok {z : Str} (h : RowS z) : PyData.strOk z = true := by
  unfold PyData.strOk
  rw [Array.all_eq_true_iff_forall_mem]
  intro c hc
  have := h.2.2 c (Array.mem_toList_iff.mpr hc)
  exact decide_eq_true (by omega)
/-! ### shuffled -/
abbrev sShuf : Stmt := topS 11
theorem scShuf : FnScope ["_law_hand_here", "_law_items", "_law_rest", "_law_found"] ["_law_hand_here", "_law_items"] (defScope sShuf) := ⟨rfl, rfl, rfl, by decide +kernel, rfl, by decide +kernel, by decide +kernel⟩
def spShuf : Sp := fun vs H Q _ => ∃ (a b : Addr) (n : Nat) (ns : List Str), vs = [.ref a, .ref b] ∧ Hd H a n ∧ b ≠ a ∧ (H b = some (.lst (ns.map V.str)) ∨ H b = some (.tup (ns.map V.str))) ∧ ns.length ≤ 1000 ∧ n + ns.length < 900000 ∧ (∀ z ∈ ns, RowS z) ∧
  ∀ H' p (ns' : List Str), But a H H' → Hd H' a (n + ns.length) → H p = none → H' p = some (.lst (ns'.map V.str)) → ns'.Perm ns → Q (.ref p) H'
def lenAt (H : Hp) (p : Addr) : Nat := match H p with
  | some (.lst xs) => xs.length
  | _ => 0
theorem er_map {α β : Type} (f : α → β) : ∀ (l : List α) (i : Nat), (l.map f).eraseIdx i = (l.eraseIdx i).map f
  | [], _ => rfl
  | x :: l, 0 => rfl
  | x :: l, i + 1 => by
    show f x :: (l.map f).eraseIdx i = f x :: (l.eraseIdx i).map f
    rw [er_map f l i]
theorem er_perm {α : Type} : ∀ {l : List α} {i : Nat} (h : i < l.length), (l[i] :: l.eraseIdx i).Perm l
  | x :: l, 0, _ => .refl _
  | x :: l, i + 1, h => by
    have h2 : i < l.length := Nat.lt_of_succ_lt_succ h
    exact (List.Perm.swap x l[i] (l.eraseIdx i)).trans ((er_perm h2).cons x)
theorem lenAt_eq {H : Hp} {p : Addr} {ns : List Str} (h : H p = some (.lst (ns.map V.str))) : lenAt H p = ns.length := by
  unfold lenAt
  rw [h]
  exact List.length_map ..
theorem seq_at {n : Nat} {v : Int} (h0 : 0 ≤ v) (h1 : v < (n : Int)) : seqIndex? v n = some v.toNat := by
  refine (ixN_seq ?_).1
  unfold ixN
  rw [if_pos h0, if_pos h1]
section
variable {P : Program} {w : World} {K : PySem.W.Frag} {mg : Str → Option Value} {base : Heap}
theorem ok_shuf {f fT : Addr} {fd fdT : FuncData} {k : Nat} (F : Fun K "_law_shuffled" "_law_shuffled" sShuf f fd) (FT : Fun K "_law_take" "_law_take" sTake fT fdT) (bT : Binds K fdT ["_law_hand_here", "_law_many"] []) (gT : mg "_law_take" = some (.ref fT)) (ml : mg "len" = none) (mli : mg "list" = none) :
    FnOk P w K mg base CX0 (k + 2) f fd ["_law_hand_here", "_law_items"] spShuf := by
  have GT : FnOk P w K mg base CX0 (k + 1) fT fdT ["_law_hand_here", "_law_many"] spTake := ok_take FT
  refine F.ok scShuf (fun vs H Q E h => ?_) (fun cdv A outer s H vs Q E hr h => ?_)
  · obtain ⟨a, b, n, ns, rfl, _⟩ := h
    rfl
  · obtain ⟨a, b, n, ns, rfl, hh, nb, hb, l1, hn, rw, q⟩ := h
    refine ⟨_, pss_cons (ps_par (i := 2) (j := 3) (by rfl) scShuf.nd rfl rfl (by decide) rfl rfl (pa_cons (pe_callTy call_list_of (by rfl) mli (by decide +kernel) (pa_cons (pv 1) pa_nil)) (pa_cons (pe_lst pa_nil) pa_nil)) (by rfl))
      (pss_cons (ps_while PassesOwn.never (pt_cmpR (op_neD hr.units) (pv 2) (pe_lst pa_nil) (nomark _))
        (pss_one (ps_expr (pe_bm PySem.F.plainAttrs_list PySem.F.slot_list_append PySem.F.type_list_append mt_append (pv 3) (pa_cons
          (pe_bm PySem.F.plainAttrs_list PySem.F.slot_list_pop PySem.F.type_list_pop mt_popAt (pv 2) (pa_cons (pe_call GT hr (by rfl) gT FT.kp bT .nil pass0 (pa_cons (pv 0) (pa_cons (pe_callB call_len (by rfl) ml PySem.boot_len (pa_cons (pv 2) pa_nil)) pa_nil))) pa_nil)) pa_nil)))))
      (pss_one (ps_ret (pv 3)))), ?_⟩
    have hB : SqL K H b (ns.map V.str) ∨ SqT K H b (ns.map V.str) := by
      rcases hb with hb | hb
      · exact .inl (SqL.of hb)
      · exact .inr (SqT.of hb)
    refine ⟨.ref b, rfl, b, _, rfl, hB, fun r hrr => ?_⟩
    refine ⟨Nat.zero_le _, fun o ho => ?_⟩
    refine ⟨.ref r, .ref o, rfl, ?_⟩
    have nra : r ≠ a := hh.ne hrr
    have hd1 : Hd (upd H r (.lst (ns.map V.str))) a n := hh.new hrr
    have noa : o ≠ a := hd1.ne ho
    have nro : r ≠ o := ne_of_none upd_same ho
    have hoH : H o = none := by
      rw [upd_ne nro.symm] at ho
      exact ho
    refine while_by (fun σ H' => ∃ rs fs : List Str, σ = [some (.ref a), some (.ref b), some (.ref r), some (.ref o)] ∧ But a H H' ∧ Hd H' a (n + fs.length) ∧ H' r = some (.lst (rs.map V.str)) ∧ H' o = some (.lst (fs.map V.str)) ∧ (rs ++ fs).Perm ns)
      (fun _ H' => lenAt H' r) ⟨ns, [], rfl, ((But.refl a H).new hrr).new ho, hd1.new ho, ?_, upd_same, ?_⟩ (fun σ H1 hP => ?_) (fun σ H1 Q1 Q2 hq h => ?_)
    · rw [upd_ne nro]
      exact upd_same
    · rw [List.append_nil]
    · obtain ⟨rs, fs, rfl, b1, h1, e1, e2, pm⟩ := hP
      have lens : rs.length + fs.length = ns.length := by
        rw [← pm.length_eq, List.length_append]
      refine ⟨.ref r, rfl, Nat.zero_le _, fun p hp => ?_⟩
      have npr : r ≠ p := ne_of_none e1 hp
      have npo : o ≠ p := ne_of_none e2 hp
      have e1' : (upd H1 p (.lst [])) r = some (.lst (rs.map V.str)) := by rw [upd_ne npr]; exact e1
      have e2' : (upd H1 p (.lst [])) o = some (.lst (fs.map V.str)) := by rw [upd_ne npo]; exact e2
      have b2 : But a H (upd H1 p (.lst [])) := b1.new hp
      have h2 : Hd (upd H1 p (.lst [])) a (n + fs.length) := h1.new hp
      have hμ : lenAt H1 r = rs.length := lenAt_eq e1
      refine ⟨.list (rs.map PyData.str), .list [], .lst (SqL.of e1') (dp_strs rs), .lst (SqL.of upd_same) .nil, shaped_lst (fun z hz => (rw z (pm.subset (List.mem_append_left _ hz))).ok), rfl, _, rfl, ?_⟩
      generalize upd H1 p (.lst []) = H2 at e1' e2' b2 h2 ⊢
      cases rs with
      | nil =>
        refine iteF ?_
        have e : fs.length = ns.length := by
          have := lens
          rw [List.length_nil] at this
          omega
        rw [e] at h2
        exact ⟨.ref o, rfl, q H2 o fs b2 h2 hoH e2' pm⟩
      | cons x rs =>
        refine iteT ?_
        have hlen : ((x :: rs).map V.str).length = rs.length + 1 := by
          rw [List.length_map, List.length_cons]
        have hl2 : rs.length + 1 + fs.length = ns.length := by
          rw [List.length_cons] at lens
          exact lens
        refine ⟨.ref o, rfl, .inl ⟨rfl, _, SqL.of e2'⟩, .ref r, rfl, .inl ⟨rfl, _, SqL.of e1'⟩, .ref a, rfl, .ref r, rfl, _, rs.length + 1, rfl, .inl ⟨_, SqL.of e1', hlen.symm⟩, a, n + fs.length, _, rfl, h2, by omega, by omega, by omega, fun H3 v sb3 h3 v0 v1 => ?_⟩
        have e1'' := sb3 r _ nra e1'
        have e2'' := sb3 o _ noa e2'
        have hk : v.toNat < (x :: rs).length := by
          rw [List.length_cons]
          omega
        have g : ((x :: rs).map V.str)[v.toNat]? = some (.str (x :: rs)[v.toNat]) := by
          rw [List.getElem?_map, List.getElem?_eq_getElem hk]
          rfl
        refine ⟨r, _, v, v.toNat, _, rfl, rfl, e1'', by omega, by omega, seq_at v0 (by rw [hlen]; omega), g, ?_⟩
        have e2u : (upd H3 r (.lst (((x :: rs).map V.str).eraseIdx v.toNat))) o = some (.lst (fs.map V.str)) := by
          rw [upd_ne nro.symm]
          exact e2''
        have pe : (((x :: rs).map V.str).eraseIdx v.toNat) = ((x :: rs).eraseIdx v.toNat).map V.str := by
          exact er_map V.str _ _
        have pm2 : ((x :: rs).eraseIdx v.toNat ++ (fs ++ [(x :: rs)[v.toNat]])).Perm ns := by
          refine List.Perm.trans ?_ pm
          refine List.Perm.trans ?_ (List.Perm.append_right fs (er_perm hk))
          rw [← List.append_assoc]
          exact List.perm_append_comm
        refine ⟨o, _, _, rfl, rfl, e2u, ?_, ⟨(x :: rs).eraseIdx v.toNat, fs ++ [(x :: rs)[v.toNat]], rfl, ?_, ?_, ?_, ?_, pm2⟩, ?_⟩
        · rw [List.length_map]
          exact small1000 (by omega)
        · exact ((b2.trans sb3).own hrr).own hoH
        · have h4 : Hd H3 a (n + (fs ++ [(x :: rs)[v.toNat]]).length) := by
            rw [List.length_append]
            exact h3
          exact (h4.oth nra).oth noa
        · rw [upd_ne nro, upd_same, pe]
        · rw [upd_same, List.map_append]
          rfl
        · rw [hμ, lenAt_eq (ns := (x :: rs).eraseIdx v.toNat) (by rw [upd_ne nro, upd_same, pe]), List.length_eraseIdx, if_pos hk, List.length_cons]
          omega
    · obtain ⟨v, hv, hz, h⟩ := h
      refine ⟨v, hv, hz, fun p hp => ?_⟩
      obtain ⟨d, e, h1, h2, h3, h4, k, hk, hq'⟩ := h p hp
      exact ⟨d, e, h1, h2, h3, h4, k, hk, hq _ _ hq'⟩
end
end M
namespace M
open PySem PySem.Spec PyProof.Rows L2 Gd
/-! ### hand -/
abbrev sHand : Stmt := topS 7
theorem scHand : FnScope ["_law_script", "_law_k", "_law_cell", "_law_great"] ["_law_script", "_law_k"] (defScope sHand) := ⟨rfl, rfl, rfl, by decide +kernel, rfl, by decide +kernel, by decide +kernel⟩
def spHand (K : PySem.W.Frag) : Sp := fun vs H Q _ => ∃ (a : Addr) (k : Nat) (ns : List Int), vs = [.ref a, .int k] ∧ SqL K H a (ns.map V.int) ∧ k ≤ 1000 ∧ ∀ H' p, Same H H' → H p = none → Hd H' p 0 → Q (.ref p) H'
theorem same_new {H : Hp} {p : Addr} {o : HO} (h : H p = none) : Same H (upd H p o) := fun b x e => by
  rw [upd_ne (ne_of_none e h)]
  exact e
theorem tens : ((10 : Int) ^ (60 : Int).toNat).natAbs < 2 ^ 200 := by decide +kernel
theorem wide3 {i j : Int} {a b c : Nat} (ha : i.natAbs < 2 ^ a) (hb : j.natAbs < 2 ^ b) (hc : c = a + b) : (i * j).natAbs < 2 ^ c := by
  rw [hc]
  exact wide_lt ha hb
theorem tens_pos : (0 : Int) < 10 ^ (60 : Int).toNat * 10 ^ (60 : Int).toNat * 10 ^ (60 : Int).toNat * 10 ^ (60 : Int).toNat := by decide +kernel
theorem bit_ok (b : Bool) : -(2 ^ 64) < (if b = true then (1 : Int) else 0) ∧ (if b = true then (1 : Int) else 0) < 2 ^ 64 := by
  cases b <;> decide
theorem bit_ge (b : Bool) : 0 ≤ (if b = true then (1 : Int) else 0) := by
  cases b <;> decide
theorem w1 : CMulW ((10 : Int) ^ (60 : Int).toNat) ((10 : Int) ^ (60 : Int).toNat) := wide_mul tens tens (by decide) (by decide) (by decide)
theorem w2 : CMulW ((10 : Int) ^ (60 : Int).toNat * (10 : Int) ^ (60 : Int).toNat) ((10 : Int) ^ (60 : Int).toNat) := wide_mul (wide_lt tens tens) tens (by decide) (by decide) (by decide)
theorem w3 : CMulW ((10 : Int) ^ (60 : Int).toNat * (10 : Int) ^ (60 : Int).toNat * (10 : Int) ^ (60 : Int).toNat) ((10 : Int) ^ (60 : Int).toNat) := wide_mul (wide_lt (wide_lt tens tens) tens) tens (by decide) (by decide) (by decide)
section
variable {P : Program} {w : World} {K : PySem.W.Frag} {mg : Str → Option Value} {base : Heap}
theorem ok_hand {f : Addr} {fd : FuncData} {k : Nat} (F : Fun K "_law_hand" "_law_hand" sHand f fd) (ml : mg "len" = none) (ma : mg "abs" = none) (mi : mg "int" = none) :
    FnOk P w K mg base CX0 (k + 1) f fd ["_law_script", "_law_k"] (spHand K) := by
  refine F.ok scHand (fun vs H Q E h => ?_) (fun cdv A outer s H vs Q E hr h => ?_)
  · obtain ⟨a, k, ns, rfl, _⟩ := h
    rfl
  · obtain ⟨a, k, ns, rfl, hS, hk, q⟩ := h
    refine ⟨_, pss_cons (ps_set (i := 2) scHand.nd rfl (.inl rfl) (pe_ifExp (pt_cmpR op_lt (pv 1) (pe_callB call_len (by rfl) ml PySem.boot_len (pa_cons (pv 0) pa_nil)) (nomark _)) (pe_ix ix_list (pv 0) (pv 1) (fun _ _ => rfl)) (pe_op op_add (pe_op op_mul pe_int (pv 1)) pe_int)))
      (pss_cons (ps_set (i := 3) scHand.nd rfl (.inl rfl) (pe_op op_mul (pe_op op_mod (pe_callB call_abs (by rfl) ma (by decide +kernel) (pa_cons (pv 2) pa_nil)) (pe_op op_mulW (pe_op op_mulW (pe_op op_mulW (pe_op op_pow pe_int pe_int) (pe_op op_pow pe_int pe_int)) (pe_op op_pow pe_int pe_int)) (pe_op op_pow pe_int pe_int)))
          (pe_callTy call_int1 (by rfl) mi (by decide +kernel) (pa_cons (pe_cmpR op_ge (pe_callB call_abs (by rfl) ma (by decide +kernel) (pa_cons (pv 2) pa_nil)) (pe_op op_pow pe_int pe_int) (nomark _)) pa_nil))))
      (pss_one (ps_ret (pe_lst (pa_cons (pv 3) (pa_cons (pe_op op_mod (pe_op op_mul (pe_op op_add (pe_op op_add (pe_op op_mod (pv 2) pe_int) (pe_op op_mul (pe_op op_mul pe_int (pv 1)) (pv 1))) pe_int) pe_int) pe_int) (pa_cons pe_int pa_nil))))))), ?_⟩
    refine ⟨_, rfl, .ref a, rfl, _, ns.length, rfl, .inl ⟨_, hS, (List.length_map ..).symm⟩, _, _, rfl, rfl, _, rfl, ite2 (fun e => ?_) (fun e => ?_)⟩
    · have e : (k : Int) < (ns.length : Int) := of_decide_eq_true e
      have hk2 : k < ns.length := by omega
      refine ⟨.ref a, rfl, _, rfl, a, _, k, .int ns[k], rfl, rfl, hS, atI_nat (by rw [List.getElem?_map, List.getElem?_eq_getElem hk2]; rfl), ?_⟩
      generalize ns[k] = cell
      refine ⟨_, rfl, cell, rfl, 10, 60, rfl, rfl, ⟨by decide, by decide, by decide⟩, 10, 60, rfl, rfl, ⟨by decide, by decide, by decide⟩, _, _, rfl, rfl, w1, 10, 60, rfl, rfl, ⟨by decide, by decide, by decide⟩, _, _, rfl, rfl, w2,
        10, 60, rfl, rfl, ⟨by decide, by decide, by decide⟩, _, _, rfl, rfl, w3, _, _, rfl, rfl, tens_pos, _, rfl, cell, rfl, 10, 18, rfl, rfl, ⟨by decide, by decide, by decide⟩, _, _, rfl, rfl, .inr ⟨_, rfl, _, _, rfl, rfl, .inr (bit_ok _), ?_⟩⟩
      refine ⟨_, rfl, _, rfl, cell, 2305843009213693951, rfl, rfl, (by show (0 : Int) < 2305843009213693951; decide), _, rfl, 104729, k, rfl, rfl, .inl ⟨by decide, by decide⟩, _, rfl, _, k, rfl, rfl, .inr ⟨by omega, by omega⟩, _, _, rfl, rfl, _, 29, rfl, rfl, _, 48271, rfl, rfl, .inr ⟨by decide, by decide⟩,
        _, 2305843009213693921, rfl, rfl, (by show (0 : Int) < 2305843009213693921; decide), (by show 3 ≤ sizeLine; decide), fun p hp => ?_⟩
      refine q _ p (same_new hp) hp ⟨_, _, _, upd_same, ?_, Int.emod_nonneg _ (by decide), Int.lt_of_lt_of_le (Int.emod_lt_of_pos _ (by decide)) (by decide), by decide, by decide⟩
      exact Int.mul_nonneg (Int.emod_nonneg _ (Int.ne_of_gt tens_pos)) (bit_ge _)
    · refine ⟨_, rfl, 7, k, rfl, rfl, .inl ⟨by decide, by decide⟩, _, 3, rfl, rfl, ?_⟩
      refine ⟨_, rfl, 7 * (k : Int) + 3, rfl, 10, 60, rfl, rfl, ⟨by decide, by decide, by decide⟩, 10, 60, rfl, rfl, ⟨by decide, by decide, by decide⟩, _, _, rfl, rfl, w1, 10, 60, rfl, rfl, ⟨by decide, by decide, by decide⟩, _, _, rfl, rfl, w2,
        10, 60, rfl, rfl, ⟨by decide, by decide, by decide⟩, _, _, rfl, rfl, w3, _, _, rfl, rfl, tens_pos, _, rfl, 7 * (k : Int) + 3, rfl, 10, 18, rfl, rfl, ⟨by decide, by decide, by decide⟩, _, _, rfl, rfl, .inr ⟨_, rfl, _, _, rfl, rfl, .inr (bit_ok _), ?_⟩⟩
      refine ⟨_, rfl, _, rfl, 7 * (k : Int) + 3, 2305843009213693951, rfl, rfl, (by show (0 : Int) < 2305843009213693951; decide), _, rfl, 104729, k, rfl, rfl, .inl ⟨by decide, by decide⟩, _, rfl, _, k, rfl, rfl, .inr ⟨by omega, by omega⟩, _, _, rfl, rfl, _, 29, rfl, rfl, _, 48271, rfl, rfl, .inr ⟨by decide, by decide⟩,
        _, 2305843009213693921, rfl, rfl, (by show (0 : Int) < 2305843009213693921; decide), (by show 3 ≤ sizeLine; decide), fun p hp => ?_⟩
      refine q _ p (same_new hp) hp ⟨_, _, _, upd_same, ?_, Int.emod_nonneg _ (by decide), Int.lt_of_lt_of_le (Int.emod_lt_of_pos _ (by decide)) (by decide), by decide, by decide⟩
      exact Int.mul_nonneg (Int.emod_nonneg _ (Int.ne_of_gt tens_pos)) (bit_ge _)
end
end M
namespace M
open PySem PySem.Spec PyProof.Rows L2 Gd
theorem inV_strs (x : Str) : ∀ ns : List Str, inV (.str x) (ns.map V.str) = ns.contains x
  | [] => rfl
  | y :: ns => by
    have h := inV_strs x ns
    unfold inV at h ⊢
    rw [List.map_cons, List.any_cons, h, List.contains_cons]
    show ((y == x) || ns.contains x) = _
    rw [show (y == x) = (x == y) from Bool.eq_iff_iff.mpr (by rw [beq_iff_eq, beq_iff_eq]; exact eq_comm)]
theorem flat_strs : ∀ ns : List Str, (ns.map V.str).all flatV = true
  | [] => rfl
  | y :: ns => by
    rw [List.map_cons, List.all_cons, flat_strs ns]
    rfl
theorem cut_to (xs : List V) (c : Nat) : cutV xs none (some (c : Int)) = xs.take c := by
  unfold cutV
  rw [HT.sIx_none, HT.sIx_nat, List.drop_zero, Nat.sub_zero]
  by_cases h : c ≤ xs.length
  · rw [Nat.min_eq_left h]
  · rw [Nat.min_eq_right (by omega), List.take_length, List.take_of_length_le (by omega)]
theorem cut_from (xs : List V) (c : Nat) : cutV xs (some (c : Int)) none = xs.drop c := by
  unfold cutV
  rw [HT.sIx_none, HT.sIx_nat]
  by_cases h : c ≤ xs.length
  · rw [Nat.min_eq_left h, List.take_of_length_le (by rw [List.length_drop]; omega)]
  · rw [Nat.min_eq_right (by omega), List.drop_of_length_le (l := xs) (by omega), List.drop_of_length_le (l := xs) (by omega), List.take_nil]
theorem same_t {K : PySem.W.Frag} {H H' : Hp} {a : Addr} {xs : List V} (e : Same H H') (h : SqT K H a xs) : SqT K H' a xs := by
  rcases h with (h | ⟨o, h⟩) | h
  · exact .inl (.inl (e _ _ h))
  · exact .inl (.inr ⟨o, e _ _ h⟩)
  · exact .inr h
theorem same_own {H H' : Hp} {p : Addr} {o : HO} (e : Same H H') (h : H p = none) : Same H (upd H' p o) := fun b x q => by
  rw [upd_ne (ne_of_none q h)]
  exact e b x q
/-! ### what texts show -/
theorem shown_strs : ∀ ns : List Str, PyData.shownAll (ns.map PyData.str) = ns.map reprText
  | [] => rfl
  | x :: ns => by
    show reprText x :: PyData.shownAll (ns.map PyData.str) = _
    rw [shown_strs ns]
    rfl
theorem showable_strs : ∀ ns : List Str, PyData.showableAll (ns.map PyData.str) = true
  | [] => rfl
  | x :: ns => by
    show (true && PyData.showableAll (ns.map PyData.str)) = true
    rw [showable_strs ns]
    rfl
theorem noDict_strs : ∀ ns : List Str, PyData.hasDictAll (ns.map PyData.str) = false
  | [] => rfl
  | x :: ns => by
    show (false || PyData.hasDictAll (ns.map PyData.str)) = false
    rw [noDict_strs ns]
    rfl
theorem sum_row : ∀ ns : List Str, (∀ z ∈ ns, RowS z) → ((ns.map reprText).map (·.length)).sum ≤ 82 * ns.length
  | [], _ => Nat.le_refl _
  | x :: ns, h => by
    have h1 := sum_row ns fun z hz => h z (List.mem_cons_of_mem _ hz)
    have h2 := StrLaws.reprText_len x (fun c hc => by
      have := (h x List.mem_cons_self).2.2 c hc
      omega)
    have h3 := (h x List.mem_cons_self).2.1
    simp only [List.map_cons, List.sum_cons, List.length_cons] at h1 ⊢
    omega
theorem shown_tup {ns : List Str} (h : ∀ z ∈ ns, RowS z) : (PyData.shown (.tuple (ns.map PyData.str))).length ≤ 84 * ns.length + 3 := by
  show (tupleText (PyData.shownAll (ns.map PyData.str))).length ≤ _
  rw [shown_strs]
  have h1 := tupleText_len_le (ns.map reprText)
  have h2 := sum_row ns h
  rw [List.length_map] at h1
  omega
theorem show_tup {K : PySem.W.Frag} {H : Hp} {p : Addr} {ns : List Str} {Q : VK} (hp : SqT K H p (ns.map V.str)) (h : ∀ z ∈ ns, RowS z) (hl : ns.length ≤ 1000) (q : Q (.str (PyData.shown (.tuple (ns.map PyData.str)))) H) : rShow K [.ref p] H Q := by
  refine ⟨.ref p, .tuple (ns.map PyData.str), rfl, .tup hp (dp_strs ns), showable_strs ns, noDict_strs ns, ?_, ?_, q⟩
  · show PyData.depthAll (ns.map PyData.str) + 1 ≤ 60
    rw [deep_strs]
    decide
  · have := shown_tup h
    have e : sizeLine = 16777216 := by decide
    omega
def two (xs ys : List Str) : PyData := .tuple [.tuple (xs.map PyData.str), .tuple (ys.map PyData.str)]
theorem show_two {K : PySem.W.Frag} {H : Hp} {p a b : Addr} {xs ys : List Str} {Q : VK} (hp : SqT K H p [.ref a, .ref b]) (ha : SqT K H a (xs.map V.str)) (hb : SqT K H b (ys.map V.str)) (h : ∀ z ∈ xs, RowS z) (h' : ∀ z ∈ ys, RowS z) (hl : xs.length ≤ 1000) (hl' : ys.length ≤ 1000)
    (q : Q (.str (two xs ys).shown) H) : rShow K [.ref p] H Q := by
  refine ⟨.ref p, two xs ys, rfl, .tup hp (.cons (.tup ha (dp_strs xs)) (.cons (.tup hb (dp_strs ys)) .nil)), ?_, ?_, ?_, ?_, q⟩
  · show (PyData.showableAll (xs.map PyData.str) && (PyData.showableAll (ys.map PyData.str) && true)) = true
    rw [showable_strs, showable_strs]
    rfl
  · show (PyData.hasDictAll (xs.map PyData.str) || (PyData.hasDictAll (ys.map PyData.str) || false)) = false
    rw [noDict_strs, noDict_strs]
    rfl
  · show max (PyData.depthAll (xs.map PyData.str) + 1) (max (PyData.depthAll (ys.map PyData.str) + 1) 0) + 1 ≤ 60
    rw [deep_strs, deep_strs]
    decide
  · have h1 := shown_tup h
    have h2 := shown_tup h'
    have h3 := tupleText_len_le [PyData.shown (.tuple (xs.map PyData.str)), PyData.shown (.tuple (ys.map PyData.str))]
    have e : sizeLine = 16777216 := by decide
    show (tupleText [PyData.shown (.tuple (xs.map PyData.str)), PyData.shown (.tuple (ys.map PyData.str))]).length ≤ _
    simp only [List.map_cons, List.map_nil, List.sum_cons, List.sum_nil, List.length_cons, List.length_nil] at h3
    omega
theorem catA_of {K : PySem.W.Frag} {H : Hp} {Q : VK} {a b : Addr} {xs ys : List Str} (ha : SqT K H a (xs.map V.str)) (hb : SqT K H b (ys.map V.str)) (hz : xs.length + ys.length ≤ 1000) (q : ∀ H' p, Same H H' → SqT K H' p ((xs ++ ys).map V.str) → Q (.ref p) H') : rCatA K (.ref a) (.ref b) H Q := by
  refine ⟨a, b, _, _, rfl, rfl, ha, hb, by rw [List.length_map, List.length_map]; exact sz1000 hz, fun e => ?_, fun _ e => ?_, fun _ _ p hp => ?_⟩
  · refine q H b (Same.refl H) ?_
    rw [List.map_append, e, List.nil_append]
    exact hb
  · refine q H a (Same.refl H) ?_
    rw [List.map_append, e, List.append_nil]
    exact ha
  · refine q _ p (same_new hp) ?_
    rw [List.map_append]
    exact SqT.of upd_same
theorem but_t {K : PySem.W.Frag} {H H' : Hp} {a v : Addr} {n : Nat} {xs : List V} (b : But a H H') (h : Hd H a n) (hv : SqT K H v xs) : SqT K H' v xs := by
  obtain ⟨ys, e⟩ := h.some
  rcases hv with (hv | ⟨o, hv⟩) | hv
  · exact .inl (.inl (b v _ (fun z => by rw [z, e] at hv; cases hv) hv))
  · exact .inl (.inr ⟨o, b v _ (fun z => by rw [z, e] at hv; cases hv) hv⟩)
  · exact .inr hv
theorem same_but {H H' : Hp} {a : Addr} (h : Same H H') : But a H H' := fun b o _ e => h b o e
theorem same_hd {H H' : Hp} {a : Addr} {n : Nat} (h : Same H H') (hd : Hd H a n) : Hd H' a n := by
  obtain ⟨g, s, t, e, r⟩ := hd
  exact ⟨g, s, t, h _ _ e, r⟩
theorem eqv_strs {ns : List Str} (h : ∀ z ∈ ns, RowS z) : PyData.eqv (.tuple (ns.map PyData.str)) (.tuple (ns.map PyData.str)) = true := SeqAt.eqv_refl _ (lay_strs ns fun z hz => (h z hz).ok)
theorem ins_map0 (xs : List Str) (i : Nat) (x : Str) : (xs.map V.str).take i ++ [V.str x] ++ (xs.map V.str).drop i = (xs.take i ++ [x] ++ xs.drop i).map V.str := by
  rw [List.map_append, List.map_append, List.map_take, List.map_drop]
  rfl
theorem ins_perm0 (xs : List Str) (i : Nat) (x : Str) : (xs.take i ++ [x] ++ xs.drop i).Perm (x :: xs) := by
  have h : (xs.take i ++ x :: xs.drop i).Perm (x :: (xs.take i ++ xs.drop i)) := List.perm_middle
  rw [List.take_append_drop] at h
  rw [List.append_assoc]
  exact h
end M
namespace M
open PySem PySem.Spec PyProof.Rows L2 Gd
/-! ### changed -/
def elseOf (s : Stmt) : List Stmt := match s with
  | .If _ _ e _ => e
  | _ => []
abbrev sChg : Stmt := topS 12
abbrev nChg : List Str := ["_law_hand_here", "_law_version", "_law_fresh", "_law_way", "_law_rows", "_law_row"]
theorem scChg : FnScope nChg ["_law_hand_here", "_law_version", "_law_fresh"] (defScope sChg) := ⟨rfl, rfl, rfl, by decide +kernel, rfl, by decide +kernel, by decide +kernel⟩
/-- all but what stands at a and at c is as it was -/
def But2 (a c : Addr) (H H' : Hp) : Prop := ∀ b o, b ≠ a → b ≠ c → H b = some o → H' b = some o
theorem But.two {a c : Addr} {H H' : Hp} (h : But a H H') : But2 a c H H' := fun b o n _ e => h b o n e
theorem But2.trans {a c : Addr} {H H1 H2 : Hp} (x : But2 a c H H1) (y : But2 a c H1 H2) : But2 a c H H2 := fun b o n m h => y b o n m (x b o n m h)
theorem But2.put {a c : Addr} {H H1 : Hp} {o : HO} (x : But2 a c H H1) : But2 a c H (upd H1 c o) := fun b u n m e => by
  rw [upd_ne m]
  exact x b u n m e
theorem But2.own {a c p : Addr} {H H1 : Hp} {o : HO} (x : But2 a c H H1) (h : H p = none) : But2 a c H (upd H1 p o) := fun b u n m e => by
  rw [upd_ne (ne_of_none e h)]
  exact x b u n m e
/-- what a change does: a fresh row comes, or a row may leave -/
def Chg (rows fresh rows' fresh' : List Str) : Prop := rows'.length ≤ 24 ∧ ((∃ x, fresh = x :: fresh' ∧ rows'.Perm (x :: rows)) ∨ (fresh' = fresh ∧ ∃ l, l.Sublist rows ∧ rows'.Perm l))
def spChg (K : PySem.W.Frag) : Sp := fun vs H Q _ => ∃ (a v c : Addr) (n : Nat) (rows fresh : List Str), vs = [.ref a, .ref v, .ref c] ∧ Hd H a n ∧ n < 900000 ∧ SqT K H v (rows.map V.str) ∧ c ≠ a ∧ H c = some (.lst (fresh.map V.str)) ∧ rows.length ≤ 24 ∧ fresh.length ≤ 30 ∧
  (∀ z ∈ rows, RowS z) ∧ (∀ z ∈ fresh, RowS z) ∧ ∀ H' p (rows' fresh' : List Str), But2 a c H H' → Hd H' a (n + 4) → H p = none → H' p = some (.tup (rows'.map V.str)) → H' c = some (.lst (fresh'.map V.str)) → Chg rows fresh rows' fresh' → Q (.ref p) H'
/-- what is known between two statements of the change: rows stands at r, fresh at c -/
structure Mid (H : Hp) (a c : Addr) (n : Nat) (H1 : Hp) (r : Addr) (rows fresh : List Str) : Prop where
  but : But2 a c H H1
  hd : Hd H1 a n
  new : H r = none
  ra : r ≠ a
  rc : r ≠ c
  ar : H1 r = some (.lst (rows.map V.str))
  ac : H1 c = some (.lst (fresh.map V.str))
theorem Mid.up {H H1 : Hp} {a c r : Addr} {n m : Nat} {rows fresh : List Str} (M : Mid H a c n H1 r rows fresh) (h : n ≤ m) : Mid H a c m H1 r rows fresh := ⟨M.but, M.hd.up h, M.new, M.ra, M.rc, M.ar, M.ac⟩
theorem Mid.laid {H H1 : Hp} {a c r p : Addr} {n : Nat} {o : HO} {rows fresh : List Str} (M : Mid H a c n H1 r rows fresh) (hp : H1 p = none) : Mid H a c n (upd H1 p o) r rows fresh :=
  ⟨fun b u x y e => by
    have z := M.but b u x y e
    rw [upd_ne (ne_of_none z hp)]
    exact z, M.hd.new hp, M.new, M.ra, M.rc, by rw [upd_ne (ne_of_none M.ar hp)]; exact M.ar, by rw [upd_ne (ne_of_none M.ac hp)]; exact M.ac⟩
theorem Mid.took {H H1 H2 : Hp} {a c r : Addr} {n m : Nat} {rows fresh : List Str} (M : Mid H a c n H1 r rows fresh) (nca : c ≠ a) (b : But a H1 H2) (h : Hd H2 a m) : Mid H a c m H2 r rows fresh :=
  ⟨M.but.trans b.two, h, M.new, M.ra, M.rc, b _ _ M.ra M.ar, b _ _ nca M.ac⟩
theorem Mid.row {H H1 : Hp} {a c r : Addr} {n : Nat} {rows rows' fresh : List Str} (M : Mid H a c n H1 r rows fresh) : Mid H a c n (upd H1 r (.lst (rows'.map V.str))) r rows' fresh :=
  ⟨M.but.own M.new, M.hd.oth M.ra, M.new, M.ra, M.rc, upd_same, by rw [upd_ne M.rc.symm]; exact M.ac⟩
theorem Mid.frs {H H1 : Hp} {a c r : Addr} {n : Nat} {rows fresh fresh' : List Str} (M : Mid H a c n H1 r rows fresh) (nca : c ≠ a) : Mid H a c n (upd H1 c (.lst (fresh'.map V.str))) r rows fresh' :=
  ⟨M.but.put, M.hd.oth nca, M.new, M.ra, M.rc, by rw [upd_ne M.rc]; exact M.ar, upd_same⟩
theorem Mid.free {H H1 : Hp} {a c r t : Addr} {n : Nat} {rows fresh fr0 : List Str} (M : Mid H a c n H1 r rows fresh) (hc : H c = some (.lst (fr0.map V.str))) (ht : H1 t = none) (hh : ∃ m, Hd H a m) : H t = none := by
  cases e : H t with
  | none => rfl
  | some o =>
    have z := M.but t o (M.hd.ne ht) (fun q => by rw [q, M.ac] at ht; cases ht) e
    rw [z] at ht
    cases ht
/-- fresh != [], rows != [] -/
theorem ne_nil {K : PySem.W.Frag} {H : Hp} {r : Addr} {rows : List Str} {Q : VK} (e : H r = some (.lst (rows.map V.str))) (h : ∀ z ∈ rows, RowS z) (q : ∀ p, H p = none → Q (.bl (!rows.isEmpty)) (upd H p (.lst []))) :
    ∀ p, H p = none → rNeD K (.ref r) (.ref p) (upd H p (.lst [])) Q := fun p hp => by
  refine ⟨.list (rows.map PyData.str), .list [], .lst (SqL.of (by rw [upd_ne (ne_of_none e hp)]; exact e)) (dp_strs rows), .lst (SqL.of upd_same) .nil, shaped_lst fun z hz => (h z hz).ok, rfl, ?_⟩
  have z := q p hp
  cases rows with
  | nil => exact z
  | cons x l => exact z
theorem ins_map (xs : List Str) (i : Nat) (x : Str) : (xs.map V.str).take i ++ [V.str x] ++ (xs.map V.str).drop i = (xs.take i ++ [x] ++ xs.drop i).map V.str := by
  rw [List.map_append, List.map_append, List.map_take, List.map_drop]
  rfl
theorem ins_perm (xs : List Str) (i : Nat) (x : Str) : (xs.take i ++ [x] ++ xs.drop i).Perm (x :: xs) := by
  have h : (xs.take i ++ x :: xs.drop i).Perm (x :: (xs.take i ++ xs.drop i)) := List.perm_middle
  rw [List.take_append_drop] at h
  rw [List.append_assoc]
  exact h
section
variable {P : Program} {w : World} {K : PySem.W.Frag} {mg : Str → Option Value} {base : Heap}
theorem ok_chg {f fT fP : Addr} {fd fdT fdP : FuncData} {k : Nat} (F : Fun K "_law_changed" "_law_changed" sChg f fd) (FT : Fun K "_law_take" "_law_take" sTake fT fdT) (bT : Binds K fdT ["_law_hand_here", "_law_many"] []) (gT : mg "_law_take" = some (.ref fT))
    (FP : Fun K "_law_pick" "_law_pick" sPick fP fdP) (bP : Binds K fdP ["_law_hand_here", "_law_items"] []) (gP : mg "_law_pick" = some (.ref fP)) (ml : mg "len" = none) (mli : mg "list" = none) (mt : mg "tuple" = none) :
    FnOk P w K mg base CX0 (k + 3) f fd ["_law_hand_here", "_law_version", "_law_fresh"] (spChg K) := by
  have GT : FnOk P w K mg base CX0 (k + 2) fT fdT ["_law_hand_here", "_law_many"] spTake := ok_take FT
  have GP : FnOk P w K mg base CX0 (k + 2) fP fdP ["_law_hand_here", "_law_items"] spPick := ok_pick FP FT bT gT ml
  refine F.ok scChg (fun vs H Q E h => ?_) (fun cdv A outer s H vs Q E hr h => ?_)
  · obtain ⟨a, v, c, n, rows, fresh, rfl, _⟩ := h
    rfl
  · obtain ⟨a, v, c, n, rows, fresh, rfl, hh, hn, hV, nca, hc, l1, l2, r1, r2, q⟩ := h
    -- the elif of way 2, and the last one
    obtain ⟨t2, h2, e2⟩ : ∃ t2, PSs (cxOf CX0 P w K mg base nChg "_law_changed" (defScope sChg) f cdv A outer s H E).nox (elseOf ((elseOf ((defBody sChg).getD 1 (.Pass ⟨0, 0, 0, 0⟩))).getD 0 (.Pass ⟨0, 0, 0, 0⟩))) t2 ∧
        ∀ (D : Ends) (way : Int) (r : Addr) (y : Option V) (H1 : Hp), Mid H a c (n + 1) H1 r rows fresh → (∀ r' y' H2 rows', Mid H a c (n + 4) H2 r' rows' fresh → (∃ l, l.Sublist rows ∧ rows'.Perm l) → D.nx [some (.ref a), some (.ref v), some (.ref c), some (.int way), some (.ref r'), y'] H2) →
          t2 D [some (.ref a), some (.ref v), some (.ref c), some (.int way), some (.ref r), y] H1 := by
      refine ⟨_, pss_one (ps_if (pt_cmpR op_eq (pv 3) pe_int (nomark _)) (pss_one (ps_set (i := 4) scChg.nd rfl (.inl rfl) (pe_revL (pv 4))))
        (pss_one (ps_if (pt_cmpR (op_neD hr.units) (pv 4) (pe_lst pa_nil) (nomark _))
          (pss_cons (ps_set (i := 5) scChg.nd rfl (.inl rfl) (pe_bm PySem.F.plainAttrs_list PySem.F.slot_list_pop PySem.F.type_list_pop mt_popAt (pv 4) (pa_cons (pe_call GT hr (by rfl) gT FT.kp bT .nil pass0 (pa_cons (pv 0) (pa_cons (pe_callB call_len (by rfl) ml PySem.boot_len (pa_cons (pv 4) pa_nil)) pa_nil))) pa_nil)))
          (pss_one (ps_expr (pe_bm PySem.F.plainAttrs_list PySem.F.slot_list_insert PySem.F.type_list_insert mt_insert (pv 4) (pa_cons (pe_call GP hr (by rfl) gP FP.kp bP .nil pass0 (pa_cons (pv 0) (pa_cons (pe_lst (pa_cons pe_int (pa_cons (pe_call GT hr (by rfl) gT FT.kp bT .nil pass0 (pa_cons (pv 0) (pa_cons (pe_op op_add (pe_callB call_len (by rfl) ml PySem.boot_len (pa_cons (pv 4) pa_nil)) pe_int) pa_nil))) (pa_cons (pe_callB call_len (by rfl) ml PySem.boot_len (pa_cons (pv 4) pa_nil)) pa_nil)))) pa_nil))) (pa_cons (pv 5) pa_nil)))))) pss_nil))), ?_⟩
      intro D way r y H1 M fin
      refine ⟨_, rfl, rfl, _, rfl, ite2 (fun h0 => ?_) (fun h0 => ?_)⟩
      · refine ⟨.ref r, rfl, r, _, rfl, SqL.of M.ar, fun p hp => ?_⟩
        have M2 := (M.laid (o := .lst (rows.map V.str).reverse) hp).up (show n + 1 ≤ n + 4 by omega)
        have npH := M.free hc hp ⟨n, hh⟩
        refine fin p y _ rows.reverse ⟨M2.but, M2.hd, npH, M.hd.ne hp, fun z => ?_, ?_, M2.ac⟩ ⟨rows, List.Sublist.refl _, List.reverse_perm rows⟩
        · rw [z, M.ac] at hp
          cases hp
        · rw [upd_same, List.map_reverse]
      · refine ⟨.ref r, rfl, Nat.zero_le _, fun p hp => ?_⟩
        refine ne_nil (K := K) M.ar r1 (fun p hp => ?_) p hp
        have M2 := M.laid (o := .lst []) hp
        generalize upd H1 p (.lst []) = H2 at M2 ⊢
        refine ⟨_, rfl, ?_⟩
        cases rows with
        | nil => exact iteF (fin r y H2 [] (M2.up (by omega)) ⟨[], List.Sublist.refl _, List.Perm.refl _⟩)
        | cons x xs =>
          refine iteT ?_
          have hlen : ((x :: xs).map V.str).length = xs.length + 1 := by rw [List.length_map, List.length_cons]
          have l1' : xs.length + 1 ≤ 24 := l1
          -- row = rows.pop(..)
          refine ⟨.ref r, rfl, .inl ⟨rfl, _, SqL.of M2.ar⟩, .ref a, rfl, .ref r, rfl, _, xs.length + 1, rfl, .inl ⟨_, SqL.of M2.ar, hlen.symm⟩, a, n + 1, _, rfl, M2.hd, by omega, by omega, by omega, fun H3 i sb3 h3 i0 i1 => ?_⟩
          have M3 := M2.took nca sb3 h3
          have hk : i.toNat < (x :: xs).length := by rw [List.length_cons]; omega
          have g : ((x :: xs).map V.str)[i.toNat]? = some (.str (x :: xs)[i.toNat]) := by
            rw [List.getElem?_map, List.getElem?_eq_getElem hk]
            rfl
          refine ⟨r, _, i, i.toNat, _, rfl, rfl, M3.ar, by omega, by omega, seq_at i0 (by rw [hlen]; omega), g, ?_⟩
          rw [er_map]
          have M4 := M3.row (rows' := (x :: xs).eraseIdx i.toNat)
          generalize upd H3 r (.lst (((x :: xs).eraseIdx i.toNat).map V.str)) = H4 at M4 ⊢
          have le : ((x :: xs).eraseIdx i.toNat).length = xs.length := by
            rw [List.length_eraseIdx, if_pos hk, List.length_cons]
            omega
          -- rows.insert(..)
          refine ⟨.ref r, rfl, .inl ⟨rfl, _, SqL.of M4.ar⟩, .ref a, rfl, .ref a, rfl, .ref r, rfl, _, xs.length, rfl, .inl ⟨_, SqL.of M4.ar, by rw [List.length_map, le]⟩, _, 1, rfl, rfl, a, n + 2, _, rfl, M4.hd, by omega, by omega, by omega, fun H5 j sb5 h5 j0 j1 => ?_⟩
          have M5 := M4.took nca sb5 h5
          refine ⟨.ref r, rfl, _, xs.length, rfl, .inl ⟨_, SqL.of M5.ar, by rw [List.length_map, le]⟩, (by show 3 ≤ sizeLine; decide), fun l6 hl6 => ?_⟩
          refine ⟨a, n + 3, .ref l6, rfl, M5.hd.new hl6, by omega, .inl ⟨l6, _, rfl, M5.hd.ne hl6, .inl upd_same, (by show 0 < 3; decide), (by show 3 ≤ 1000; decide), fun H7 v7 sb7 h7 hv7 => ?_⟩⟩
          have M7 := (M5.laid hl6).took nca sb7 h7
          obtain ⟨m, rfl, hm⟩ : ∃ m : Nat, v7 = .int m ∧ m ≤ 24 := by
            simp only [List.mem_cons, List.not_mem_nil, or_false] at hv7
            rcases hv7 with rfl | rfl | rfl
            · exact ⟨0, rfl, by omega⟩
            · obtain ⟨j', rfl⟩ := Int.eq_ofNat_of_zero_le j0
              exact ⟨j', rfl, by omega⟩
            · exact ⟨xs.length, rfl, by omega⟩
          refine ⟨_, rfl, r, _, m, _, rfl, rfl, M7.ar, ?_, by omega, by omega, ?_⟩
          · rw [List.length_map, le]
            exact small1000 (by omega)
          · rw [Int.toNat_natCast, ins_map]
            refine fin r _ _ _ M7.row ⟨(x :: xs), List.Sublist.refl _, ?_⟩
            exact (ins_perm _ _ _).trans (er_perm hk)
    -- the elif of way 1
    obtain ⟨t1, h1, e1⟩ : ∃ t1, PSs (cxOf CX0 P w K mg base nChg "_law_changed" (defScope sChg) f cdv A outer s H E).nox (elseOf ((defBody sChg).getD 1 (.Pass ⟨0, 0, 0, 0⟩))) t1 ∧
        ∀ (D : Ends) (way : Int) (r : Addr) (y : Option V) (H1 : Hp), Mid H a c (n + 1) H1 r rows fresh → (∀ r' y' H2 rows', Mid H a c (n + 4) H2 r' rows' fresh → (∃ l, l.Sublist rows ∧ rows'.Perm l) → D.nx [some (.ref a), some (.ref v), some (.ref c), some (.int way), some (.ref r'), y'] H2) →
          t1 D [some (.ref a), some (.ref v), some (.ref c), some (.int way), some (.ref r), y] H1 := by
      refine ⟨_, pss_one (ps_if (PW.pt (pw_and (pt_cmpR op_eq (pv 3) pe_int (nomark _)) (pw_and1 (pt_cmpR (op_neD hr.units) (pv 4) (pe_lst pa_nil) (nomark _)))))
        (pss_one (ps_expr (pe_bm PySem.F.plainAttrs_list PySem.F.slot_list_pop PySem.F.type_list_pop mt_popAt (pv 4) (pa_cons (pe_call GT hr (by rfl) gT FT.kp bT .nil pass0 (pa_cons (pv 0) (pa_cons (pe_callB call_len (by rfl) ml PySem.boot_len (pa_cons (pv 4) pa_nil)) pa_nil))) pa_nil)))) h2), ?_⟩
      intro D way r y H1 M fin
      refine ⟨_, rfl, rfl, _, rfl, ite2 (fun h0 => ?_) (fun h0 => iteF (e2 D way r y H1 M fin))⟩
      refine ⟨.ref r, rfl, Nat.zero_le _, fun p hp => ?_⟩
      refine ne_nil (K := K) M.ar r1 (fun p hp => ?_) p hp
      have M2 := M.laid (o := .lst []) hp
      generalize upd H1 p (.lst []) = H2 at M2 ⊢
      refine ⟨_, rfl, ?_⟩
      cases hrows : rows with
      | nil => exact iteF (e2 D way r y H2 M2 fin)
      | cons x xs =>
        refine iteT ?_
        rw [hrows] at M2 l1 fin
        have hlen : ((x :: xs).map V.str).length = xs.length + 1 := by rw [List.length_map, List.length_cons]
        have l1' : xs.length + 1 ≤ 24 := l1
        refine ⟨.ref r, rfl, .inl ⟨rfl, _, SqL.of M2.ar⟩, .ref a, rfl, .ref r, rfl, _, xs.length + 1, rfl, .inl ⟨_, SqL.of M2.ar, hlen.symm⟩, a, n + 1, _, rfl, M2.hd, by omega, by omega, by omega, fun H3 i sb3 h3 i0 i1 => ?_⟩
        have M3 := M2.took nca sb3 h3
        have hk : i.toNat < (x :: xs).length := by rw [List.length_cons]; omega
        have g : ((x :: xs).map V.str)[i.toNat]? = some (.str (x :: xs)[i.toNat]) := by
          rw [List.getElem?_map, List.getElem?_eq_getElem hk]
          rfl
        refine ⟨r, _, i, i.toNat, _, rfl, rfl, M3.ar, by omega, by omega, seq_at i0 (by rw [hlen]; omega), g, ?_⟩
        rw [er_map]
        exact fin r y _ _ (M3.row.up (by omega)) ⟨_, List.eraseIdx_sublist _ _, List.Perm.refl _⟩
    refine ⟨_, pss_cons (ps_par (i := 3) (j := 4) (by rfl) scChg.nd rfl rfl (by decide) rfl rfl (pa_cons (pe_call GT hr (by rfl) gT FT.kp bT .nil pass0 (pa_cons (pv 0) (pa_cons pe_int pa_nil))) (pa_cons (pe_callTy call_list_of (by rfl) mli (by decide +kernel) (pa_cons (pv 1) pa_nil)) pa_nil)) (by rfl))
      (pss_cons (ps_if (PW.pt (pw_and (pt_cmpR op_eq (pv 3) pe_int (nomark _)) (pw_and (pt_cmpR (op_neD hr.units) (pv 2) (pe_lst pa_nil) (nomark _)) (pw_and1 (pt_cmpR op_lt (pe_callB call_len (by rfl) ml PySem.boot_len (pa_cons (pv 4) pa_nil)) pe_int (nomark _))))))
        (pss_one (ps_expr (pe_bm PySem.F.plainAttrs_list PySem.F.slot_list_insert PySem.F.type_list_insert mt_insert (pv 4) (pa_cons (pe_call GT hr (by rfl) gT FT.kp bT .nil pass0 (pa_cons (pv 0) (pa_cons (pe_op op_add (pe_callB call_len (by rfl) ml PySem.boot_len (pa_cons (pv 4) pa_nil)) pe_int) pa_nil)))
          (pa_cons (pe_bm PySem.F.plainAttrs_list PySem.F.slot_list_pop PySem.F.type_list_pop mt_popAt (pv 2) (pa_cons pe_int pa_nil)) pa_nil))))) h1)
      (pss_one (ps_ret (pe_callTy call_tuple_of (by rfl) mt (by decide +kernel) (pa_cons (pv 4) pa_nil))))), ?_⟩
    -- way, rows
    refine ⟨.ref a, rfl, a, n, 10, rfl, hh, by omega, by decide, by decide, fun H1 way sb1 hd1 _ _ => ?_⟩
    refine ⟨.ref v, rfl, v, _, rfl, .inr (but_t sb1 hh hV), fun r hrr => ?_⟩
    refine ⟨_, _, rfl, ?_⟩
    have nra : r ≠ a := hd1.ne hrr
    have hc1 := sb1 c _ nca hc
    have nrc : r ≠ c := fun z => by
      rw [z, hc1] at hrr
      cases hrr
    have M0 : Mid H a c (n + 1) (upd H1 r (.lst (rows.map V.str))) r rows fresh := ⟨(sb1.new hrr).two, hd1.new hrr, fr sb1 hh hd1 hrr, nra, nrc, upd_same, by rw [upd_ne nrc.symm]; exact hc1⟩
    generalize upd H1 r (.lst (rows.map V.str)) = H2 at M0 ⊢
    have fin : ∀ (r' : Addr) (y' : Option V) (H2 : Hp) (rows' fresh' : List Str), Mid H a c (n + 4) H2 r' rows' fresh' → Chg rows fresh rows' fresh' → ∃ x, ([some (.ref a), some (.ref v), some (.ref c), some (.int way), some (.ref r'), y'] : L2.St)[4]? = some (some x) ∧ ∃ p ys, [x] = [V.ref p] ∧ ((SqL K H2 p ys ∧ ∀ l, H2 l = none → Q (.ref l) (upd H2 l (.tup ys))) ∨ (SqT K H2 p ys ∧ Q (.ref p) H2)) := by
      intro r' y' H3 rows' fresh' M3 ch
      refine ⟨.ref r', rfl, r', _, rfl, .inl ⟨SqL.of M3.ar, fun t ht => ?_⟩⟩
      have htH := M3.free hc ht ⟨n, hh⟩
      have M4 := M3.laid (o := .tup (rows'.map V.str)) ht
      exact q _ t rows' fresh' M4.but M4.hd htH upd_same M4.ac ch
    have fin1 : ∀ r' y' H2 rows', Mid H a c (n + 4) H2 r' rows' fresh → (∃ l, l.Sublist rows ∧ rows'.Perm l) → ∃ x, ([some (.ref a), some (.ref v), some (.ref c), some (.int way), some (.ref r'), y'] : L2.St)[4]? = some (some x) ∧ ∃ p ys, [x] = [V.ref p] ∧ ((SqL K H2 p ys ∧ ∀ l, H2 l = none → Q (.ref l) (upd H2 l (.tup ys))) ∨ (SqT K H2 p ys ∧ Q (.ref p) H2)) := by
      rintro r' y' H3 rows' M3 ⟨l, hl, pl⟩
      refine fin r' y' H3 rows' fresh M3 ⟨?_, .inr ⟨rfl, l, hl, pl⟩⟩
      rw [pl.length_eq]
      exact Nat.le_trans hl.length_le l1
    refine ⟨_, rfl, rfl, _, rfl, ite2 (fun h0 => ?_) (fun h0 => iteF (e1 _ way r none H2 M0 fin1))⟩
    refine ⟨.ref c, rfl, Nat.zero_le _, fun p hp => ?_⟩
    refine ne_nil (K := K) M0.ac r2 (fun p hp => ?_) p hp
    have M2 := M0.laid (o := .lst []) hp
    generalize upd H2 p (.lst []) = H3 at M2 ⊢
    refine ⟨_, rfl, ?_⟩
    cases hf : fresh with
    | nil => exact iteF (e1 _ way r none H3 M2 fin1)
    | cons x fs =>
      refine iteT ?_
      refine ⟨.ref r, rfl, _, rows.length, rfl, .inl ⟨_, SqL.of M2.ar, (List.length_map ..).symm⟩, _, 24, rfl, rfl, _, rfl, ite2 (fun h1 => ?_) (fun h1 => e1 _ way r none H3 M2 fin1)⟩
      have h1 : (rows.length : Int) < 24 := of_decide_eq_true h1
      refine ⟨.ref r, rfl, .inl ⟨rfl, _, SqL.of M2.ar⟩, .ref a, rfl, .ref r, rfl, _, rows.length, rfl, .inl ⟨_, SqL.of M2.ar, (List.length_map ..).symm⟩, _, 1, rfl, rfl, a, n + 1, _, rfl, M2.hd, by omega, by omega, by omega, fun H4 i sb4 h4 i0 i1 => ?_⟩
      have M4 := M2.took nca sb4 h4
      obtain ⟨m, rfl⟩ := Int.eq_ofNat_of_zero_le i0
      have hac := M4.ac
      rw [hf] at hac
      refine ⟨.ref c, rfl, .inl ⟨rfl, _, SqL.of hac⟩, c, _, 0, 0, .str x, rfl, rfl, hac, by decide, by decide, seq_at (Int.le_refl 0) (by rw [List.length_map, List.length_cons]; omega), rfl, ?_⟩
      have M5 := M4.frs (fresh' := fs) nca
      refine ⟨r, _, m, _, rfl, rfl, M5.ar, ?_, by omega, by omega, ?_⟩
      · rw [List.length_map]
        exact small1000 (by omega)
      · rw [Int.toNat_natCast, ins_map]
        refine fin r none _ _ fs (M5.row.up (by omega)) ⟨?_, .inl ⟨x, hf, ins_perm _ _ _⟩⟩
        rw [(ins_perm rows m x).length_eq, List.length_cons]
        omega
end
end M
namespace M
open PySem PySem.Spec PyProof.Rows L2 Gd
/-! ### histories -/
/-- the versions of a history, as the items of a list or tuple -/
def VsAt (K : PySem.W.Frag) (H : Hp) : List V → List (List Str) → Prop
  | [], [] => True
  | x :: xs, v :: vs => (∃ a, x = .ref a ∧ SqT K H a (v.map V.str)) ∧ VsAt K H xs vs
  | _, _ => False
theorem VsAt.keep {K : PySem.W.Frag} {H H' : Hp} (k : ∀ b ys, SqT K H b ys → SqT K H' b ys) : ∀ {xs : List V} {vs : List (List Str)}, VsAt K H xs vs → VsAt K H' xs vs
  | [], [], _ => trivial
  | _ :: _, _ :: _, ⟨⟨a, e, h⟩, r⟩ => ⟨⟨a, e, k _ _ h⟩, VsAt.keep k r⟩
theorem VsAt.len {K : PySem.W.Frag} {H : Hp} : ∀ {xs : List V} {vs : List (List Str)}, VsAt K H xs vs → xs.length = vs.length
  | [], [], _ => rfl
  | _ :: _, _ :: _, ⟨_, r⟩ => by rw [List.length_cons, List.length_cons, VsAt.len r]
theorem VsAt.get {K : PySem.W.Frag} {H : Hp} : ∀ {xs : List V} {vs : List (List Str)} {i : Nat} {v : List Str}, VsAt K H xs vs → vs[i]? = some v → ∃ a, xs[i]? = some (.ref a) ∧ SqT K H a (v.map V.str)
  | [], [], _, _, _, g => by simp at g
  | x :: _, u :: _, 0, v, ⟨⟨a, e, h⟩, _⟩, g => by
    have g : u = v := Option.some.inj g
    subst g e
    exact ⟨a, rfl, h⟩
  | _ :: xs, _ :: vs, i + 1, v, ⟨_, r⟩, g => VsAt.get (i := i) r g
theorem VsAt.snoc {K : PySem.W.Frag} {H : Hp} {a : Addr} {v : List Str} (h : SqT K H a (v.map V.str)) : ∀ {xs : List V} {vs : List (List Str)}, VsAt K H xs vs → VsAt K H (xs ++ [.ref a]) (vs ++ [v])
  | [], [], _ => ⟨⟨a, rfl, h⟩, trivial⟩
  | _ :: _, _ :: _, ⟨e, r⟩ => ⟨e, VsAt.snoc h r⟩
theorem VsAt.dp {K : PySem.W.Frag} {H : Hp} : ∀ {xs : List V} {vs : List (List Str)}, VsAt K H xs vs → DpAll K H xs (vs.map fun v => PyData.tuple (v.map PyData.str))
  | [], [], _ => .nil
  | _ :: _, v :: _, ⟨⟨a, e, h⟩, r⟩ => by
    subst e
    exact .cons (.tup h (dp_strs v)) (VsAt.dp r)
def HistAt (K : PySem.W.Frag) (H : Hp) (p : Addr) (hs : List (List Str)) : Prop := ∃ xs, SqT K H p xs ∧ VsAt K H xs hs
theorem HistAt.keep {K : PySem.W.Frag} {H H' : Hp} {p : Addr} {hs : List (List Str)} (k : ∀ b ys, SqT K H b ys → SqT K H' b ys) (h : HistAt K H p hs) : HistAt K H' p hs := by
  obtain ⟨xs, h1, h2⟩ := h
  exact ⟨xs, k _ _ h1, h2.keep k⟩
theorem HistAt.same {K : PySem.W.Frag} {H H' : Hp} {p : Addr} {hs : List (List Str)} (s : Same H H') (h : HistAt K H p hs) : HistAt K H' p hs := h.keep fun _ _ => same_t s
theorem HistAt.but {K : PySem.W.Frag} {H H' : Hp} {p a : Addr} {n : Nat} {hs : List (List Str)} (b : But a H H') (hd : Hd H a n) (h : HistAt K H p hs) : HistAt K H' p hs := h.keep fun _ _ => but_t b hd
theorem upd_t {K : PySem.W.Frag} {H : Hp} {l b : Addr} {z ys : List V} {o : HO} (hl : H l = some (.lst z)) (h : SqT K H b ys) : SqT K (upd H l o) b ys := by
  rcases h with (h | ⟨u, h⟩) | h
  · exact .inl (.inl (by rw [upd_ne (fun e => by rw [e, hl] at h; cases h)]; exact h))
  · exact .inl (.inr ⟨u, by rw [upd_ne (fun e => by rw [e, hl] at h; cases h)]; exact h⟩)
  · exact .inr h
theorem but2_t {K : PySem.W.Frag} {H H' : Hp} {a c v : Addr} {n : Nat} {z xs : List V} (b : But2 a c H H') (h : Hd H a n) (hc : H c = some (.lst z)) (hv : SqT K H v xs) : SqT K H' v xs := by
  obtain ⟨ys, e⟩ := h.some
  rcases hv with (hv | ⟨o, hv⟩) | hv
  · exact .inl (.inl (b v _ (fun z => by rw [z, e] at hv; cases hv) (fun z => by rw [z, hc] at hv; cases hv) hv))
  · exact .inl (.inr ⟨o, b v _ (fun z => by rw [z, e] at hv; cases hv) (fun z => by rw [z, hc] at hv; cases hv) hv⟩)
  · exact .inr hv
def NoRet (hs : List (List Str)) : Prop := ∀ (i j k : Nat) (u v w : List Str), i < j → j < k → hs[i]? = some u → hs[j]? = some v → hs[k]? = some w → ∀ x ∈ u, x ∉ v → x ∉ w
structure VerOk (v : List Str) : Prop where
  nd : v.Nodup
  len : v.length ≤ 24
  row : ∀ z ∈ v, RowS z
structure HistOk (hs : List (List Str)) : Prop where
  ne : hs ≠ []
  ver : ∀ v ∈ hs, VerOk v
  ret : NoRet hs
/-- a history that grows, and the rows that have not come yet -/
structure Grow (names : List Str) (hs : List (List Str)) (fresh : List Str) : Prop where
  ok : HistOk hs
  fnd : fresh.Nodup
  off : ∀ v ∈ hs, ∀ z ∈ v, z ∉ fresh
  inn : ∀ v ∈ hs, ∀ z ∈ v, z ∈ names
  fin : ∀ z ∈ fresh, z ∈ names
  row : ∀ z ∈ names, RowS z
theorem snoc_get {α : Type} {l : List α} {x y : α} {i : Nat} (h : (l ++ [x])[i]? = some y) : (i < l.length ∧ l[i]? = some y) ∨ (i = l.length ∧ x = y) := by
  by_cases hi : i < l.length
  · rw [List.getElem?_append_left hi] at h
    exact .inl ⟨hi, h⟩
  · rw [List.getElem?_append_right (by omega)] at h
    by_cases e : i - l.length = 0
    · rw [e] at h
      exact .inr ⟨by omega, Option.some.inj h⟩
    · obtain ⟨d, hd⟩ : ∃ d, i - l.length = d + 1 := ⟨i - l.length - 1, by omega⟩
      rw [hd] at h
      cases h
theorem Grow.step {names : List Str} {hs : List (List Str)} {fresh last rows' fresh' : List Str} (G : Grow names hs fresh) (hl : hs.getLast? = some last) (C : Chg last fresh rows' fresh') : Grow names (hs ++ [rows']) fresh' := by
  have lm : last ∈ hs := List.mem_of_getLast? hl
  have L := G.ok.ver last lm
  obtain ⟨len', C⟩ := C
  -- a row of the new version is a fresh one or one of the last
  have src : ∀ z ∈ rows', (z ∈ fresh ∧ z ∉ fresh') ∨ (z ∈ last ∧ z ∉ fresh') := by
    rcases C with ⟨x, e, pm⟩ | ⟨e, l, sl, pm⟩
    · intro z hz
      have hf := G.fnd
      rw [e] at hf
      rcases List.mem_cons.mp (pm.subset hz) with h | h
      · rw [h, e]
        exact .inl ⟨List.mem_cons_self, (List.nodup_cons.mp hf).1⟩
      · exact .inr ⟨h, fun q => G.off last lm z h (by rw [e]; exact List.mem_cons_of_mem _ q)⟩
    · intro z hz
      have h := sl.subset (pm.subset hz)
      exact .inr ⟨h, fun q => G.off last lm z h (by rw [← e]; exact q)⟩
  have nd' : rows'.Nodup := by
    rcases C with ⟨x, e, pm⟩ | ⟨e, l, sl, pm⟩
    · refine pm.nodup_iff.mpr (List.nodup_cons.mpr ⟨fun q => G.off last lm x q (by rw [e]; exact List.mem_cons_self), L.nd⟩)
    · exact pm.nodup_iff.mpr (L.nd.sublist sl)
  have sub' : ∀ z ∈ fresh', z ∈ fresh := by
    rcases C with ⟨x, e, pm⟩ | ⟨e, l, sl, pm⟩
    · intro z hz
      rw [e]
      exact List.mem_cons_of_mem _ hz
    · intro z hz
      rw [← e]
      exact hz
  have inn' : ∀ z ∈ rows', z ∈ names := fun z hz => (src z hz).elim (fun h => G.fin z h.1) fun h => G.inn last lm z h.1
  refine ⟨⟨?_, ?_, ?_⟩, ?_, ?_, ?_, fun z hz => G.fin z (sub' z hz), G.row⟩
  · intro z
    cases hs <;> cases z
  · intro v hv
    rcases List.mem_append.mp hv with h | h
    · exact G.ok.ver v h
    · rw [List.mem_singleton.mp h]
      exact ⟨nd', len', fun z hz => G.row z (inn' z hz)⟩
  · intro i j k u v w ij jk hu hv hw x xu xv
    rcases snoc_get hw with ⟨hk, ew⟩ | ⟨hk, ew⟩
    · rw [List.getElem?_append_left (by omega)] at hu hv
      exact G.ok.ret i j k u v w ij jk hu hv ew x xu xv
    · rw [List.getElem?_append_left (by omega)] at hu hv
      subst ew
      intro xw
      have um := List.mem_of_getElem? hu
      rcases src x xw with h | h
      · exact G.off u um x xu h.1
      · rw [List.getLast?_eq_getElem?] at hl
        by_cases e : j = hs.length - 1
        · rw [← e, hv] at hl
          cases hl
          exact xv h.1
        · exact G.ok.ret i j (hs.length - 1) u v last ij (by omega) hu hv hl x xu xv h.1
  · rcases C with ⟨x, e, pm⟩ | ⟨e, l, sl, pm⟩
    · have hf := G.fnd
      rw [e] at hf
      exact (List.nodup_cons.mp hf).2
    · rw [e]
      exact G.fnd
  · intro v hv z hz
    rcases List.mem_append.mp hv with h | h
    · exact fun q => G.off v h z hz (sub' z q)
    · rw [List.mem_singleton.mp h] at hz
      exact (src z hz).elim (·.2) (·.2)
  · intro v hv z hz
    rcases List.mem_append.mp hv with h | h
    · exact G.inn v h z hz
    · rw [List.mem_singleton.mp h] at hz
      exact inn' z hz
theorem Grow.first {names rows fresh : List Str} (nd : names.Nodup) (row : ∀ z ∈ names, RowS z) (m : Nat) (pm : rows.Perm (names.take m)) (e : fresh = names.drop m) (l : rows.length ≤ 24) : Grow names [rows] fresh := by
  have nd2 : (names.take m ++ names.drop m).Nodup := by
    rw [List.take_append_drop]
    exact nd
  have x := List.nodup_append.mp nd2
  have one : ∀ v ∈ [rows], v = rows := fun v hv => List.mem_singleton.mp hv
  refine ⟨⟨(by intro z; cases z), ?_, ?_⟩, ?_, ?_, ?_, ?_, row⟩
  · intro v hv
    rw [one v hv]
    exact ⟨pm.nodup_iff.mpr x.1, l, fun z hz => row z (List.mem_of_mem_take (pm.subset hz))⟩
  · intro i j k u v w ij jk hu hv hw
    have hj := (List.getElem?_eq_some_iff.mp hv).1
    have : [rows].length = 1 := rfl
    omega
  · rw [e]
    exact x.2.1
  · intro v hv z hz q
    rw [one v hv] at hz
    rw [e] at q
    exact x.2.2 z (pm.subset hz) z q rfl
  · intro v hv z hz
    rw [one v hv] at hz
    exact List.mem_of_mem_take (pm.subset hz)
  · intro z hz
    rw [e] at hz
    exact List.mem_of_mem_drop hz
abbrev sHist : Stmt := topS 13
abbrev nHist : List Str := ["_law_hand_here", "_law_most_rows", "_law_most_versions", "_law_names_here", "_law_many", "_law_versions", "_law_fresh", "_law_turn"]
theorem scHist : FnScope nHist ["_law_hand_here", "_law_most_rows", "_law_most_versions"] (defScope sHist) := ⟨rfl, rfl, rfl, by decide +kernel, rfl, by decide +kernel, by decide +kernel⟩
def spHist (K : PySem.W.Frag) : Sp := fun vs H Q _ => ∃ (a : Addr) (n r m : Nat), vs = [.ref a, .int r, .int m] ∧ Hd H a n ∧ n < 800000 ∧ r ≤ 24 ∧ 0 < m ∧ m ≤ 100 ∧
  ∀ H' p (hs : List (List Str)) (names : List Str), But a H H' → Hd H' a (n + 500) → H p = none → HistAt K H' p hs → HistOk hs → hs.length ≤ m → names.Nodup → names.length ≤ r + 4 → (∀ v ∈ hs, ∀ z ∈ v, z ∈ names) → Q (.ref p) H'
section
variable {P : Program} {w : World} {K : PySem.W.Frag} {mg : Str → Option Value} {base : Heap}
theorem ok_hist {f fT fN fS fC : Addr} {fd fdT fdN fdS fdC : FuncData} {k : Nat} (F : Fun K "_law_history" "_law_history" sHist f fd) (gT : mg "_law_take" = some (.ref fT)) (FT : Fun K "_law_take" "_law_take" sTake fT fdT) (bT : Binds K fdT ["_law_hand_here", "_law_many"] [])
    (gN : mg "_law_names" = some (.ref fN)) (FN : Fun K "_law_names" "_law_names" sNames fN fdN) (bN : Binds K fdN ["_law_hand_here", "_law_count"] []) (GN : FnOk P w K mg base CX0 (k + 3) fN fdN ["_law_hand_here", "_law_count"] spNames)
    (gS : mg "_law_shuffled" = some (.ref fS)) (FS : Fun K "_law_shuffled" "_law_shuffled" sShuf fS fdS) (bS : Binds K fdS ["_law_hand_here", "_law_items"] []) (GS : FnOk P w K mg base CX0 (k + 3) fS fdS ["_law_hand_here", "_law_items"] spShuf)
    (gC : mg "_law_changed" = some (.ref fC)) (FC : Fun K "_law_changed" "_law_changed" sChg fC fdC) (bC : Binds K fdC ["_law_hand_here", "_law_version", "_law_fresh"] []) (GC : FnOk P w K mg base CX0 (k + 3) fC fdC ["_law_hand_here", "_law_version", "_law_fresh"] (spChg K))
    (mmin : mg "min" = none) (mt : mg "tuple" = none) (mr : mg "range" = none) : FnOk P w K mg base CX0 (k + 4) f fd ["_law_hand_here", "_law_most_rows", "_law_most_versions"] (spHist K) := by
  have GT : FnOk P w K mg base CX0 (k + 3) fT fdT ["_law_hand_here", "_law_many"] spTake := ok_take FT
  refine F.ok scHist (fun vs H Q E h => ?_) (fun cdv A outer s H vs Q E hr h => ?_)
  · obtain ⟨a, n, r, m, rfl, _⟩ := h
    rfl
  · obtain ⟨a, n, r, m, rfl, hh, hn, hrr, m0, m1, q⟩ := h
    refine ⟨_, pss_cons (ps_set (i := 3) scHist.nd rfl (.inl rfl) (pe_call GN hr (by rfl) gN FN.kp bN .nil pass0 (pa_cons (pv 0) (pa_cons (pe_callB (call_min2 rfl) (by rfl) mmin (by decide +kernel) (pa_cons pe_int (pa_cons (pe_op op_add (pv 1) pe_int) pa_nil))) pa_nil))))
      (pss_cons (ps_set (i := 4) scHist.nd rfl (.inl rfl) (pe_call GT hr (by rfl) gT FT.kp bT .nil pass0 (pa_cons (pv 0) (pa_cons (pe_op op_add (pv 1) pe_int) pa_nil))))
      (pss_cons (ps_par (i := 5) (j := 6) (by rfl) scHist.nd rfl rfl (by decide) rfl rfl (pa_cons (pe_lst (pa_cons (pe_callTy call_tuple_of (by rfl) mt (by decide +kernel) (pa_cons (pe_call GS hr (by rfl) gS FS.kp bS .nil pass0 (pa_cons (pv 0) (pa_cons (pe_slice sl_list (pv 3) po_none (po_some (pv 4))) pa_nil))) pa_nil)) pa_nil)) (pa_cons (pe_slice sl_list (pv 3) (po_some (pv 4)) po_none) pa_nil)) (by rfl))
      (pss_cons (ps_for PassesOwn.never rfl (pi_range1 (by rfl) mr (pa_cons (pe_call GT hr (by rfl) gT FT.kp bT .nil pass0 (pa_cons (pv 0) (pa_cons (pv 2) pa_nil))) pa_nil)) (pg_name (i := 7) scHist.nd rfl (.inl rfl))
        (pss_one (ps_expr (pe_bm PySem.F.plainAttrs_list PySem.F.slot_list_append PySem.F.type_list_append mt_append (pv 5) (pa_cons (pe_call GC hr (by rfl) gC FC.kp bC .nil pass0 (pa_cons (pv 0) (pa_cons (pe_ix ix_list (pv 5) (pe_un un_neg pe_int) (fun _ _ => rfl)) (pa_cons (pv 6) pa_nil)))) pa_nil)))))
      (pss_one (ps_ret (pe_callTy call_tuple_of (by rfl) mt (by decide +kernel) (pa_cons (pv 5) pa_nil)))))))  , ?_⟩
    -- names
    obtain ⟨cn, hcn, cn1, cn2⟩ : ∃ cn : Nat, (if (r : Int) + 4 < 24 then (r : Int) + 4 else 24) = (cn : Int) ∧ cn ≤ 24 ∧ cn ≤ r + 4 := by
      by_cases h : (r : Int) + 4 < 24
      · exact ⟨r + 4, by rw [if_pos h]; rfl, by omega, by omega⟩
      · exact ⟨24, by rw [if_neg h]; rfl, by omega, by omega⟩
    refine ⟨.ref a, rfl, _, rfl, _, 4, rfl, rfl, _, _, rfl, a, n, cn, congrArg (fun z => [V.ref a, V.int z]) hcn, hh, by omega, by omega, fun H1 nm nl sb1 hd1 nn1 e1 len1 nd1 row1 => ?_⟩
    -- many
    refine ⟨.ref a, rfl, _, rfl, _, 1, rfl, rfl, a, n + 5, _, rfl, hd1, by omega, by omega, by omega, fun H2 y2 sb2 hd2 y0 y1 => ?_⟩
    obtain ⟨my, rfl⟩ := Int.eq_ofNat_of_zero_le y0
    have nma : nm ≠ a := hh.ne nn1
    have e2 := sb2 nm _ nma e1
    have b2 : But a H H2 := sb1.trans sb2
    -- the first version
    refine ⟨.ref a, rfl, .ref nm, rfl, _, rfl, my, rfl, nm, _, rfl, SqL.of e2, fun l3 hl3 => ?_⟩
    have ec : cutV (nl.map V.str) none (some (my : Int)) = (nl.take my).map V.str := by rw [cut_to, List.map_take]
    refine ⟨a, l3, n + 6, nl.take my, rfl, hd2.new hl3, hd2.ne hl3, .inl (by rw [upd_same, ec]), ?_, ?_, fun z hz => row1 z (List.mem_of_mem_take hz), fun H4 p4 rows sb4 hd4 n4 e4 pm4 => ?_⟩
    · rw [List.length_take]
      omega
    · rw [List.length_take]
      omega
    refine ⟨p4, _, rfl, .inl ⟨SqL.of e4, fun v5 hv5 => ?_⟩⟩
    have b4 : But a H H4 := (b2.new hl3).trans sb4
    have hd4' : Hd H4 a (n + 30) := hd4.up (by rw [List.length_take]; omega)
    have b5 : But a H (upd H4 v5 (.tup (rows.map V.str))) := b4.new hv5
    have hd5 : Hd (upd H4 v5 (.tup (rows.map V.str))) a (n + 30) := hd4'.new hv5
    have e5 : (upd H4 v5 (.tup (rows.map V.str))) v5 = some (.tup (rows.map V.str)) := upd_same
    have e25 : (upd H4 v5 (.tup (rows.map V.str))) nm = some (.lst (nl.map V.str)) := by
      have z : H4 nm = some (.lst (nl.map V.str)) := sb4 nm _ nma (by rw [upd_ne (ne_of_none e2 hl3)]; exact e2)
      rw [upd_ne (ne_of_none z hv5)]
      exact z
    generalize upd H4 v5 (.tup (rows.map V.str)) = H5 at b5 hd5 e5 e25 ⊢
    refine ⟨(by show 1 ≤ sizeLine; decide), fun vl hvl => ?_⟩
    have e256 : (upd H5 vl (.lst [.ref v5])) nm = some (.lst (nl.map V.str)) := by
      rw [upd_ne (ne_of_none e25 hvl)]
      exact e25
    -- fresh
    refine ⟨.ref nm, rfl, _, rfl, my, rfl, nm, _, rfl, SqL.of e256, fun c hc => ?_⟩
    refine ⟨_, _, rfl, ?_⟩
    have vla : vl ≠ a := hd5.ne hvl
    have hd6 := hd5.new (o := .lst [.ref v5]) hvl
    have ca : c ≠ a := hd6.ne hc
    have vlc : vl ≠ c := ne_of_none upd_same hc
    have vlH : H vl = none := fr b5 hh hd5 hvl
    have cH : H c = none := fr (b5.new hvl) hh hd6 hc
    have ef : cutV (nl.map V.str) (some (my : Int)) none = (nl.drop my).map V.str := by rw [cut_from, List.map_drop]
    rw [ef]
    have b7 : But a H (upd (upd H5 vl (.lst [.ref v5])) c (.lst ((nl.drop my).map V.str))) := (b5.new hvl).new hc
    have hd7 : Hd (upd (upd H5 vl (.lst [.ref v5])) c (.lst ((nl.drop my).map V.str))) a (n + 30) := hd6.new hc
    have evl : (upd (upd H5 vl (.lst [.ref v5])) c (.lst ((nl.drop my).map V.str))) vl = some (.lst [.ref v5]) := by
      rw [upd_ne vlc]
      exact upd_same
    have ecc : (upd (upd H5 vl (.lst [.ref v5])) c (.lst ((nl.drop my).map V.str))) c = some (.lst ((nl.drop my).map V.str)) := upd_same
    have ev5 : SqT K (upd (upd H5 vl (.lst [.ref v5])) c (.lst ((nl.drop my).map V.str))) v5 (rows.map V.str) := by
      have z : (upd H5 vl (.lst [.ref v5])) v5 = some (.tup (rows.map V.str)) := by
        rw [upd_ne (ne_of_none e5 hvl)]
        exact e5
      refine SqT.of ?_
      rw [upd_ne (ne_of_none z hc)]
      exact z
    generalize upd (upd H5 vl (.lst [.ref v5])) c (.lst ((nl.drop my).map V.str)) = H7 at b7 hd7 evl ecc ev5 ⊢
    have G7 : Grow nl [rows] (nl.drop my) := Grow.first nd1 row1 my pm4 rfl (by rw [pm4.length_eq, List.length_take]; omega)
    -- the turns
    refine ⟨.ref a, rfl, _, rfl, a, n + 30, m, rfl, hd7, by omega, by omega, by omega, fun H8 tn sb8 hd8 tn0 tn1 => ?_⟩
    obtain ⟨tn, rfl⟩ := Int.eq_ofNat_of_zero_le tn0
    refine ⟨tn, rfl, by omega, by omega, ?_⟩
    refine for_range (lo := 0) (n := tn) (fun i σ H' => ∃ (y : Option V) (xs : List V) (L : List (List Str)) (fresh : List Str), σ = [some (.ref a), some (.int r), some (.int m), some (.ref nm), some (.int my), some (.ref vl), some (.ref c), y] ∧ But a H H' ∧ Hd H' a (n + 31 + 4 * i) ∧ H' vl = some (.lst xs) ∧ VsAt K H' xs L ∧ H' c = some (.lst (fresh.map V.str)) ∧ Grow nl L fresh ∧ L.length = i + 1 ∧ fresh.length ≤ 30)
      ⟨none, [.ref v5], [rows], nl.drop my, rfl, b7.trans sb8, hd8, sb8 _ _ vla evl, ⟨⟨v5, rfl, but_t sb8 hd7 ev5⟩, trivial⟩, sb8 _ _ ca ecc, G7, rfl, ?_⟩ (fun i σ H' hi hP => ?_) (fun σ H' hP => ?_)
    · rw [List.length_drop]
      omega
    · obtain ⟨y, xs, L, fresh, rfl, p1, p2, p3, p4, p5, p6, p7, p8⟩ := hP
      have hlast : ∃ last, L.getLast? = some last := by
        cases L with
        | nil => cases p7
        | cons u L => exact ⟨_, List.getLast?_eq_getLast (List.cons_ne_nil _ _)⟩
      obtain ⟨last, hlast⟩ := hlast
      have lx := p4.len
      have gl : L[L.length - 1]? = some last := by
        rw [← List.getLast?_eq_getElem?]
        exact hlast
      obtain ⟨lv, glv, hlv⟩ := p4.get gl
      have ox := p6.ok.ver last (List.mem_of_getLast? hlast)
      have glx : atI xs (-1) = some (.ref lv) := by
        have ex : xs = xs.dropLast ++ [.ref lv] := by
          rw [← lx, ← List.getLast?_eq_getElem?] at glv
          obtain ⟨ys, rfl⟩ := List.getLast?_eq_some_iff.mp glv
          rw [List.dropLast_concat]
        rw [ex]
        exact atI_last _ _
      refine ⟨.ref vl, rfl, .inl ⟨rfl, _, SqL.of p3⟩, .ref a, rfl, .ref vl, rfl, 1, rfl, vl, _, -1, _, rfl, rfl, SqL.of p3, glx, .ref c, rfl, a, lv, c, n + 31 + 4 * i, last, fresh, rfl, p2, by omega, hlv, ca, p5, ox.len, p8, ox.row, fun z hz => p6.row z (p6.fin z hz), fun H9 p9 rows' fresh' sb9 hd9 n9 e9 ef9 ch9 => ?_⟩
      have evl9 := sb9 vl _ vla vlc p3
      have f8 : fresh'.length ≤ 30 := by
        rcases ch9.2 with ⟨x, e, _⟩ | ⟨e, _⟩
        · rw [e, List.length_cons] at p8
          omega
        · rw [e]
          exact p8
      refine ⟨vl, xs, _, rfl, rfl, evl9, ?_, ?_⟩
      · rw [lx]
        exact small1000 (by omega)
      · have cH' : ∀ b o, H b = some o → b ≠ a → H9 b = some o := fun b o e na => sb9 b o na (ne_of_none e cH) (p1 b o na e)
        refine ⟨_, xs ++ [.ref p9], L ++ [rows'], fresh', rfl, ?_, hd9.oth vla, upd_same, ?_, ?_, p6.step hlast ch9, ?_, f8⟩
        · intro b o na e
          rw [upd_ne (ne_of_none e vlH)]
          exact cH' b o e na
        · refine VsAt.snoc (upd_t evl9 (SqT.of e9)) ((p4.keep fun b ys => but2_t sb9 p2 p5).keep fun b ys => upd_t evl9)
        · rw [upd_ne vlc.symm]
          exact ef9
        · rw [List.length_append, List.length_singleton, p7]
    · obtain ⟨y, xs, L, fresh, rfl, p1, p2, p3, p4, p5, p6, p7, p8⟩ := hP
      refine ⟨.ref vl, rfl, vl, _, rfl, .inl ⟨SqL.of p3, fun t ht => ?_⟩⟩
      have k : ∀ b ys, SqT K H' b ys → SqT K (upd H' t (.tup xs)) b ys := fun b ys => same_t (same_new ht)
      exact q _ t L nl (p1.new ht) ((p2.new ht).up (by omega)) (fr p1 hh p2 ht) ⟨xs, SqT.of upd_same, p4.keep k⟩ p6.ok (by omega) nd1 (by omega) p6.inn
end
end M
namespace M
open PySem PySem.Spec PyProof.Rows L2 Gd
/-! ### values of any kind -/
inductive Kd (K : PySem.W.Frag) (H : Hp) : V → String → Prop
  | non : Kd K H .non "NoneType"
  | bl (b : Bool) : Kd K H (.bl b) "bool"
  | int (i : Int) : Kd K H (.int i) "int"
  | str (z : Str) : Kd K H (.str z) "str"
  | lst {a : Addr} {xs : List V} : SqL K H a xs → Kd K H (.ref a) "list"
  | tup {a : Addr} {xs : List V} : SqT K H a xs → Kd K H (.ref a) "tuple"
  | dct {a : Addr} {kvs : List (Key × V)} : H a = some (.dK kvs) → Kd K H (.ref a) "dict"
theorem Kd.ty {K : PySem.W.Frag} {H : Hp} {x : V} {T : String} (k : Kd K H x T) : TyX K H x (.type T) := by
  cases k with
  | non => exact .base .non
  | bl b => exact .base (.bl b)
  | int i => exact .base (.int i)
  | str z => exact .base (.str z)
  | lst h =>
    rcases h with (h | ⟨o, h⟩) | ⟨o, its, n, h, c, _⟩
    · exact .base (.lst h)
    · exact .base (.frz h)
    · exact .kList h c
  | tup h =>
    rcases h with (h | ⟨o, h⟩) | ⟨o, its, n, h, c, _⟩
    · exact .base (.tup h)
    · exact .fTuple h
    · exact .kTuple h c
  | dct h => exact .base (.dK h)
theorem Kd.kbool {K : PySem.W.Frag} {H : Hp} {x : V} {T : String} (k : Kd K H x T) : kitB T "bool" = some (T == "bool") := by
  cases k <;> decide +kernel
theorem Kd.kint {K : PySem.W.Frag} {H : Hp} {x : V} {T : String} (k : Kd K H x T) : kitB T "int" = some (T == "int" || T == "bool") := by
  cases k <;> decide +kernel
theorem Kd.kstr {K : PySem.W.Frag} {H : Hp} {x : V} {T : String} (k : Kd K H x T) : kitB T "str" = some (T == "str") := by
  cases k <;> decide +kernel
theorem Kd.ktup {K : PySem.W.Frag} {H : Hp} {x : V} {T : String} (k : Kd K H x T) : kitB T "tuple" = some (T == "tuple") := by
  cases k <;> decide +kernel
theorem Kd.same {K : PySem.W.Frag} {H H' : Hp} {x : V} {T : String} (s : Same H H') (k : Kd K H x T) : Kd K H' x T := by
  cases k with
  | non => exact .non
  | bl b => exact .bl b
  | int i => exact .int i
  | str z => exact .str z
  | lst h => exact .lst (s.seq h)
  | tup h => exact .tup (same_t s h)
  | dct h => exact .dct (s _ _ h)
end M
namespace M
open PySem PySem.Spec PyProof.Rows L2 Gd
/-! ### is_integer_within -/
def within (x : V) (lo hi : Int) : Bool := match x with
  | .int i => decide (lo ≤ i) && decide (i ≤ hi)
  | _ => false
abbrev sWithin : Stmt := topS 1
theorem scWithin : FnScope ["value", "low", "high"] ["value", "low", "high"] (defScope sWithin) := ⟨rfl, rfl, rfl, by decide +kernel, rfl, by decide +kernel, by decide +kernel⟩
def spWithin (K : PySem.W.Frag) : Sp := fun vs H Q _ => ∃ (x : V) (T : String) (lo hi : Int), vs = [x, .int lo, .int hi] ∧ Kd K H x T ∧ Q (.bl (within x lo hi)) H
section
variable {P : Program} {w : World} {K : PySem.W.Frag} {mg : Str → Option Value} {base : Heap}
theorem ok_within {f : Addr} {fd : FuncData} {k : Nat} (F : Fun K "is_integer_within" "is_integer_within" sWithin f fd) (mi : mg "isinstance" = none) (mb : mg "bool" = none) (mint : mg "int" = none) : FnOk P w K mg base CX0 (k + 1) f fd ["value", "low", "high"] (spWithin K) := by
  refine F.ok scWithin (fun vs H Q E h => ?_) (fun cdv A outer s H vs Q E hr h => ?_)
  · obtain ⟨x, T, lo, hi, rfl, _⟩ := h
    rfl
  · obtain ⟨x, T, lo, hi, rfl, kd, q⟩ := h
    refine ⟨_, pss_cons (ps_if (PW.pt (pw_or (pt_val (pe_callB call_isi (by rfl) mi (by decide +kernel) (pa_cons (pv 0) (pa_cons (pe_bltn (v := .ty "bool") (by rfl) mb (by decide +kernel) rfl) pa_nil))))
        (pw_or1 (pt_not (pt_val (pe_callB call_isi (by rfl) mi (by decide +kernel) (pa_cons (pv 0) (pa_cons (pe_bltn (v := .ty "int") (by rfl) mint (by decide +kernel) rfl) pa_nil))))))))
        (pss_one (ps_ret pe_bl)) pss_nil)
      (pss_one (ps_ret (pe_chain op_le op_le (pv 1) (pv 0) (pv 2)))), ?_⟩
    refine ⟨_, rfl, x, _, _, _, _, rfl, .ty "bool", kd.ty, kit_ty kd.kbool, _, rfl, ?_⟩
    cases kd with
    | bl b => exact iteT (iteT q)
    | int i =>
      refine iteF ⟨_, rfl, _, _, _, _, _, rfl, .ty "int", (Kd.int (K := K) (H := H) i).ty, kit_ty (Kd.int (K := K) (H := H) i).kint, _, rfl, iteF ?_⟩
      refine ⟨_, rfl, _, rfl, _, _, rfl, rfl, _, rfl, ite2 (fun h1 => ?_) (fun h1 => ?_)⟩
      · refine ⟨_, rfl, _, _, rfl, rfl, ?_⟩
        have e : within (.int i) lo hi = decide (i ≤ hi) := by
          show (decide (lo ≤ i) && decide (i ≤ hi)) = _
          rw [h1, Bool.true_and]
        rw [e] at q
        exact q
      · have e : within (.int i) lo hi = false := by
          show (decide (lo ≤ i) && decide (i ≤ hi)) = _
          rw [Bool.eq_false_iff.mpr h1, Bool.false_and]
        rw [e] at q
        exact q
    | non => exact iteF ⟨_, rfl, _, _, _, _, _, rfl, .ty "int", (Kd.non (K := K) (H := H)).ty, kit_ty (Kd.non (K := K) (H := H)).kint, _, rfl, iteT q⟩
    | str z => exact iteF ⟨_, rfl, _, _, _, _, _, rfl, .ty "int", (Kd.str (K := K) (H := H) z).ty, kit_ty (Kd.str (K := K) (H := H) z).kint, _, rfl, iteT q⟩
    | lst h => exact iteF ⟨_, rfl, _, _, _, _, _, rfl, .ty "int", (Kd.lst h).ty, kit_ty (Kd.lst h).kint, _, rfl, iteT q⟩
    | tup h => exact iteF ⟨_, rfl, _, _, _, _, _, rfl, .ty "int", (Kd.tup h).ty, kit_ty (Kd.tup h).kint, _, rfl, iteT q⟩
    | dct h => exact iteF ⟨_, rfl, _, _, _, _, _, rfl, .ty "int", (Kd.dct (K := K) h).ty, kit_ty (Kd.dct (K := K) h).kint, _, rfl, iteT q⟩
end
end M
namespace M
open PySem PySem.Spec PyProof.Rows L2 Gd
/-! ### ints and bools as numbers -/
def numV : V → Option Int
  | .int i => some i
  | .bl b => some (if b = true then 1 else 0)
  | _ => none
section
variable {X : Cx}
theorem op_addB : OpR X (binaryOp .Add) (fun x y H Q => ∃ i j, numV x = some i ∧ y = .int j ∧ Q (.int (i + j)) H) := by
  rintro pins s σ H x y v u Q I rx ry ⟨i, j, ex, rfl, q⟩
  obtain ⟨t, rfl⟩ := ry
  cases x with
  | int k =>
    obtain ⟨t2, rfl⟩ := rx
    cases ex
    exact add_int ⟨.int _, H, I.tok _, ⟨_, rfl⟩, q⟩
  | bl b =>
    cases (show v = Value.bool b from rx)
    cases ex
    exact PySem.IntBool.add_bool_int ⟨.int _, H, I.tok _, ⟨_, rfl⟩, q⟩
  | _ => cases ex
theorem op_subB : OpR X (binaryOp .Sub) (fun x y H Q => ∃ i j, numV x = some i ∧ y = .int j ∧ Q (.int (i - j)) H) := by
  rintro pins s σ H x y v u Q I rx ry ⟨i, j, ex, rfl, q⟩
  obtain ⟨t, rfl⟩ := ry
  cases x with
  | int k =>
    obtain ⟨t2, rfl⟩ := rx
    cases ex
    exact sub_int ⟨.int _, H, I.tok _, ⟨_, rfl⟩, q⟩
  | bl b =>
    cases (show v = Value.bool b from rx)
    cases ex
    exact PySem.IntBool.sub_bool_int ⟨.int _, H, I.tok _, ⟨_, rfl⟩, q⟩
  | _ => cases ex
/-- what str(x) is of an int or a bool -/
def numS : V → Option Str
  | .int i => some (toString i : String)
  | .bl b => some (if b then "True" else "False" : String)
  | _ => none
theorem call_strB : CallR X (.type "str") (fun xs H Q => ∃ x z, xs = [x] ∧ numS x = some z ∧ (∀ i, x = .int i → i.natAbs.log2 < 1920) ∧ Q (.str z) H) := by
  rintro pins s σ H xs us Q I r ⟨x, z, rfl, ez, hz, q⟩
  obtain ⟨u, rfl, rx⟩ := vals1 r
  cases x with
  | int k =>
    obtain ⟨t2, rfl⟩ := rx
    cases ez
    exact PySem.P.str_of_int (hz k rfl) ⟨.str _, H, I.tok _, ⟨_, rfl⟩, q⟩
  | bl b =>
    cases (show u = Value.bool b from rx)
    cases ez
    refine PySem.P.str_of_bool ⟨.str _, H, I.tok _, ⟨_, rfl⟩, ?_⟩
    cases b <;> exact q
  | _ => cases ez
/-- t != () -/
theorem op_ne_nil (hu : X.A.units < cLine) : OpR X (compareOp .NotEq) (fun x y H Q => ∃ a b xs, x = .ref a ∧ y = .ref b ∧ SqT X.K H a xs ∧ SqT X.K H b [] ∧ Q (.bl (!xs.isEmpty)) H) := by
  rintro pins s σ H x y v u Q I rx ry ⟨a, b, xs, rfl, rfl, ha, hb, q⟩
  cases rx
  cases ry
  obtain ⟨its, r1, p1, _⟩ := I.tuple ha
  obtain ⟨its2, r2, p2, _⟩ := I.tuple hb
  cases r2
  refine SeqAt.RcNeAt.tuples (e := fun _ => true) p1 p2 hu (fun j h1 h2 => absurd h2 (Nat.not_lt_zero _)) _ _ _ _ ⟨.bl (!xs.isEmpty), H, I, ?_, q⟩
  cases r1 with
  | nil => rfl
  | cons z zs => rfl
end
/-! ### t[::-1] -/
section
variable {prog : Program} {w : World} {A : Around} {E : Value → Shared → Prop} {s : Shared}
theorem rev_pick (xs : Array Value) : ((List.range xs.size).filterMap fun (m : Nat) => xs[(((xs.size : Int) - 1) + (m : Int) * (-1)).toNat]?).toArray = xs.toList.reverse.toArray := by
  congr 1
  apply List.ext_getElem?
  intro i
  have h : (List.range xs.size).filterMap (fun (m : Nat) => xs[(((xs.size : Int) - 1) + (m : Int) * (-1)).toNat]?) = (List.range xs.size).map fun (m : Nat) => (xs[(xs.size - 1 - m)]?).getD default := by
    have go : ∀ l : List Nat, (∀ m ∈ l, m < xs.size) → l.filterMap (fun (m : Nat) => xs[(((xs.size : Int) - 1) + (m : Int) * (-1)).toNat]?) = l.map fun (m : Nat) => (xs[(xs.size - 1 - m)]?).getD default := by
      intro l
      induction l with
      | nil => intro _; rfl
      | cons m l ih =>
        intro hl
        have hm := hl m List.mem_cons_self
        have e : (((xs.size : Int) - 1) + (m : Int) * (-1)).toNat = xs.size - 1 - m := by omega
        have e2 : xs[xs.size - 1 - m]? = some xs[xs.size - 1 - m] := Array.getElem?_eq_getElem (by omega)
        rw [List.filterMap_cons, e, e2, List.map_cons, ih fun x hx => hl x (List.mem_cons_of_mem _ hx), e2]
        rfl
    exact go _ fun m hm => List.mem_range.mp hm
  rw [h, List.getElem?_map]
  by_cases hi : i < xs.size
  · rw [List.getElem?_range hi, List.getElem?_reverse (by rw [Array.length_toList]; exact hi), Array.length_toList, Array.getElem?_toList, Array.getElem?_eq_getElem (show xs.size - 1 - i < xs.size by omega)]
    show some ((xs[xs.size - 1 - i]?).getD default) = _
    rw [Array.getElem?_eq_getElem (show xs.size - 1 - i < xs.size by omega)]
    rfl
  · rw [List.getElem?_eq_none (by rw [List.length_range]; omega), List.getElem?_eq_none (by rw [List.length_reverse, Array.length_toList]; omega)]
    rfl
theorem rev_places (n : Nat) : Builtin.Slice.slicePlaces ((n : Int) - 1) (-1) (-1) = n := by
  unfold Builtin.Slice.slicePlaces
  rw [if_neg (by decide)]
  simp only [Int.neg_neg, Int.ediv_one]
  split <;> omega
theorem getItem_tup_rev {t sl : Addr} {items : Array Value} {vl vu vs : Value} {Q : Value → Shared → Prop} (ht : IsTup s.heap t items) (hs : s.heap.IsSliceOf sl vl vu vs) (pl : IsPart vl none) (pu : IsPart vu none) (ps : IsPart vs (some (-1))) (hsz : items.size ≤ sizeLine)
    (h : Q (.ref s.heap.objs.size) { s with heap := s.heap.push { cls := .type "tuple", data := .seq items.toList.reverse.toArray } }) : wpAny (model prog w) A (getItem (.ref t) (.ref sl)) Q E s := by
  have fits : sizeOk (.seq items.toList.reverse.toArray) := by
    show items.toList.reverse.toArray.size ≤ sizeLine
    rw [List.size_toArray, List.length_reverse, Array.length_toList]
    exact hsz
  obtain ⟨os, hos, hcs, hds⟩ := id hs
  have hTs : s.TypeIs (.ref sl) "slice" := ⟨os, hos, hcs⟩
  unfold getItem
  try with_reducible refine wpAny_holding ?_
  first | refine wpAny_bind (wpAny_pure ?_) | skip
  refine wpAny_bind (wpAny_sequenceKey ht.typeIs (by decide) ?_)
  refine wpAny_bind (wpAny_callSpecial?_slot (name := Str.ofString "__getitem__") ht.typeIs slot_tuple_getitem (wpAny_call_entry slot_tuple_getitem ht.typeIs entry_tuple_getitem ?_ (args_tuple_getitem _ _)))
  show wpAny _ _ (Builtin.Tuple.tupleItemsOf (.ref t) >>= _) _ _ s
  refine wpAny_bind (tupleItemsOf_ ht ?_)
  refine wpAny_bind (wpAny_typeOf hTs ?_)
  rw [if_pos (by decide)]
  have ap : wpAny (model prog w) A.in1 (Builtin.Slice.sliceApplied (.ref sl) (pure (items.size : Int))) (fun r s' => r = ((items.size : Int) - 1, -1, items.size) ∧ s' = s) E s := by
    unfold Builtin.Slice.sliceApplied Builtin.Slice.sliceFields
    refine wpAny_bind (wpAny_bind (wpAny_field hos hds (x := vl) rfl (wpAny_bind (wpAny_field hos hds (x := vu) rfl (wpAny_bind (wpAny_field hos hds (x := vs) rfl (wpAny_pure ?_)))))))
    refine wpAny_bind (HT.slicePart_ ps ?_)
    show wpAny _ _ (if ((-1 : Int) == 0) = true then _ else _) _ _ s
    rw [if_neg (by decide)]
    refine wpAny_bind (HT.slicePart_ pl (wpAny_bind (HT.slicePart_ pu (wpAny_bind (wpAny_pure ?_)))))
    show wpAny _ _ (pure (((items.size : Int) - 1), (-1 : Int), Builtin.Slice.slicePlaces ((items.size : Int) - 1) (-1) (-1))) _ _ s
    rw [rev_places]
    exact wpAny_pure ⟨rfl, rfl⟩
  refine wpAny_bind (wpAny_mono ap ?_ fun _ _ z => z)
  rintro _ _ ⟨rfl, rfl⟩
  have no : ¬ ((((items.size : Int) - 1) == 0 && (-1 : Int) == 1 && items.size == items.size) = true) := by
    rw [show ((-1 : Int) == 1) = false from rfl, Bool.and_false, Bool.false_and]
    exact Bool.false_ne_true
  show wpAny _ _ (if (((items.size : Int) - 1) == 0 && (-1 : Int) == 1 && items.size == items.size) = true then _ else _) _ _ _
  rw [if_neg no, rev_pick]
  first
    | exact wpAny_bind (m := Builtin.Tuple.tupleExact _) (wpAny_newObj_type (wpAny_pure ⟨_, rfl, wpAny_pure h⟩) fits)
    | exact wpAny_bind (m := Builtin.Tuple.tupleExact _) (wpAny_newObj_type (wpAny_bind (wpAny_pure (wpAny_pure ⟨_, rfl, wpAny_pure h⟩))) fits)
    | exact wpAny_bind (wpAny_bind (m := Builtin.Tuple.tupleExact _) (wpAny_newObj_type (wpAny_pure (wpAny_pure ⟨_, rfl, wpAny_pure h⟩)) fits))
    | exact wpAny_bind (wpAny_bind (m := Builtin.Tuple.tupleExact _) (wpAny_newObj_type (wpAny_pure ⟨_, rfl, wpAny_pure h⟩) fits))
end
section
variable {X : Cx}
def tRevT (K : PySem.W.Frag) (te : TE) : TE := fun σ H Q => te σ H fun x H1 => ∃ a xs, x = .ref a ∧ SqT K H1 a xs ∧ ∀ p, H1 p = none → Q (.ref p) (upd H1 p (.tup xs.reverse))
theorem pe_revT {e : Expr} {te : TE} {k : Nat} {p1 p2 p3 pos : Pos} (he : PE X e te) : PE X (.Subscript e (.Slice none none (some (.UnaryOp .USub (.Constant (.int 1) k p1) p2)) p3) pos) (tRevT X.K te) := by
  refine ⟨fun pins s σ H Q I h => ?_⟩
  refine Subscript_ (thn (he.run pins s σ H _ I h) ?_)
  rintro v s1 ⟨x, H1, I1, r1, a, xs, rfl, hx, q⟩
  cases r1
  have step : PO X (some (.UnaryOp .USub (.Constant (.int 1) k p1) p2)) (tPart (tUn (rU fun i => .int (-i)) (tC (.int 1)))) := po_some (pe_un un_neg pe_int)
  refine wpAny_Slice (thn (po_none.run pins s1 σ H1 (fun o H2 => o = none ∧ H2 = H1) I1 ⟨rfl, rfl⟩) ?_)
  rintro vl s2 ⟨l, _, I2, pl, rfl, rfl⟩
  refine thn (po_none.run pins s2 σ _ (fun o H3 => o = none ∧ H3 = _) I2 ⟨rfl, rfl⟩) ?_
  rintro vu s3 ⟨u, _, I3, pu, rfl, rfl⟩
  refine thn (step.run pins s3 σ _ (fun o H4 => o = some (-1) ∧ H4 = _) I3 ⟨1, rfl, -1, rfl, rfl, rfl⟩) ?_
  rintro vs s4 ⟨o, H4, I4, ps, rfl, e4⟩
  subst e4
  have J : Inv X pins σ H4 { s4 with heap := s4.heap.push { cls := .type "slice", data := .fields #[vl, vu, vs] } } := I4.kept (t' := s4.toks) fun b ob q => Heap.get?_push_of_some _ q
  obtain ⟨its, r, tp, hz⟩ := J.tuple hx
  have len := r.length
  show wpAny (model X.prog X.w) X.A (subscriptTail e (.Slice none none (some (.UnaryOp .USub (.Constant (.int 1) k p1) p2)) p3) (.ref a) (.ref s4.heap.objs.size)) (EP X pins σ Q) X.xe _
  refine tail_any (ops := [.ref a, .ref s4.heap.objs.size]) tp.typeIs (slot_tuple_getitem.lookup) ?_ (by with_unfolding_all rfl)
  refine getItem_tup_rev tp (Heap.IsSliceOf.new _ vl vu vs) pl pu ps (by rw [List.size_toArray]; omega) ?_
  refine ⟨.ref _, _, J.laid (t' := s4.toks) (o := .tup xs.reverse) (fun b ob z => Heap.get?_push_of_some _ z) (Nat.le_refl _) ?_, rfl, q _ (J.hok.fresh (Nat.le_refl _))⟩
  exact ⟨by rw [List.length_reverse]; exact hz, its.reverse, r.reverse, ⟨_, Heap.get?_push_size _ rfl, rfl, _, rfl⟩⟩
end
end M
namespace M
open PySem PySem.Spec PyProof.Rows L2 Gd
/-! ### values of any kind, as trees: what lists and dicts hold is left open -/
inductive AD
  | non
  | bl (b : Bool)
  | int (i : Int)
  | str (z : Str)
  | lst
  | dct
  | tup (ds : List AD)
mutual
def AD.deep : AD → Nat
  | .tup ds => AD.deepAll ds + 1
  | .non | .bl _ | .int _ | .str _ | .lst | .dct => 0
def AD.deepAll : List AD → Nat
  | [] => 0
  | d :: ds => max (AD.deep d) (AD.deepAll ds)
end
mutual
def AD.ok (w : Nat) : AD → Prop
  | .int i => i.natAbs ≤ w
  | .str z => z.length ≤ w
  | .tup ds => ds.length ≤ w ∧ AD.okAll w ds
  | .non | .bl _ | .lst | .dct => True
def AD.okAll (w : Nat) : List AD → Prop
  | [] => True
  | d :: ds => AD.ok w d ∧ AD.okAll w ds
end
theorem deepAll_le {n : Nat} : ∀ {ds : List AD}, AD.deepAll ds ≤ n ↔ ∀ d ∈ ds, d.deep ≤ n
  | [] => ⟨fun _ d h => (nomatch h), fun _ => Nat.zero_le _⟩
  | d :: ds => by
    show max d.deep (AD.deepAll ds) ≤ n ↔ _
    rw [Nat.max_le, deepAll_le (ds := ds), List.forall_mem_cons]
theorem okAll_iff {w : Nat} : ∀ {ds : List AD}, AD.okAll w ds ↔ ∀ d ∈ ds, d.ok w
  | [] => ⟨fun _ d h => (nomatch h), fun _ => trivial⟩
  | d :: ds => by
    show d.ok w ∧ AD.okAll w ds ↔ _
    rw [okAll_iff (ds := ds), List.forall_mem_cons]
theorem AD.ok.up {w w' : Nat} (h : w ≤ w') : ∀ {d : AD}, d.ok w → d.ok w'
  | .non, _ => trivial
  | .bl _, _ => trivial
  | .lst, _ => trivial
  | .dct, _ => trivial
  | .int i, x => Nat.le_trans (show i.natAbs ≤ w from x) h
  | .str z, x => Nat.le_trans (show z.length ≤ w from x) h
  | .tup ds, x => by
    have x : ds.length ≤ w ∧ AD.okAll w ds := x
    exact ⟨Nat.le_trans x.1 h, okAll_iff.mpr fun d hd => AD.ok.up h (okAll_iff.mp x.2 d hd)⟩
mutual
inductive Av (K : PySem.W.Frag) (H : Hp) : V → AD → Prop
  | non : Av K H .non .non
  | bl (b : Bool) : Av K H (.bl b) (.bl b)
  | int (i : Int) : Av K H (.int i) (.int i)
  | str (z : Str) : Av K H (.str z) (.str z)
  | lst {a : Addr} {xs : List V} : SqL K H a xs → Av K H (.ref a) .lst
  | dct {a : Addr} {kvs : List (Key × V)} : H a = some (.dK kvs) → Av K H (.ref a) .dct
  | tup {a : Addr} {xs : List V} {ds : List AD} : SqT K H a xs → AvAll K H xs ds → Av K H (.ref a) (.tup ds)
inductive AvAll (K : PySem.W.Frag) (H : Hp) : List V → List AD → Prop
  | nil : AvAll K H [] []
  | cons {x : V} {xs : List V} {d : AD} {ds : List AD} : Av K H x d → AvAll K H xs ds → AvAll K H (x :: xs) (d :: ds)
end
section
variable {K : PySem.W.Frag} {H H' : Hp}
mutual
theorem Av.keep (kl : ∀ b xs, SqL K H b xs → ∃ ys, SqL K H' b ys) (kt : ∀ b xs, SqT K H b xs → SqT K H' b xs) (kd : ∀ b kvs, H b = some (.dK kvs) → H' b = some (.dK kvs)) : ∀ {x : V} (d : AD), Av K H x d → Av K H' x d
  | _, .non, .non => .non
  | _, .bl b, .bl _ => .bl b
  | _, .int i, .int _ => .int i
  | _, .str z, .str _ => .str z
  | _, .lst, .lst h => let ⟨_, z⟩ := kl _ _ h; .lst z
  | _, .dct, .dct h => .dct (kd _ _ h)
  | _, .tup ds, .tup h r => .tup (kt _ _ h) (AvAll.keep kl kt kd ds r)
theorem AvAll.keep (kl : ∀ b xs, SqL K H b xs → ∃ ys, SqL K H' b ys) (kt : ∀ b xs, SqT K H b xs → SqT K H' b xs) (kd : ∀ b kvs, H b = some (.dK kvs) → H' b = some (.dK kvs)) : ∀ {xs : List V} (ds : List AD), AvAll K H xs ds → AvAll K H' xs ds
  | _, [], .nil => .nil
  | _, d :: ds, .cons h r => .cons (Av.keep kl kt kd d h) (AvAll.keep kl kt kd ds r)
end
theorem Av.same (s : Same H H') {x : V} {d : AD} (h : Av K H x d) : Av K H' x d := Av.keep (fun _ xs z => ⟨xs, s.seq z⟩) (fun _ _ => same_t s) (fun b _ z => s b _ z) d h
theorem AvAll.same (s : Same H H') {xs : List V} {ds : List AD} (h : AvAll K H xs ds) : AvAll K H' xs ds := AvAll.keep (fun _ ys z => ⟨ys, s.seq z⟩) (fun _ _ => same_t s) (fun b _ z => s b _ z) ds h
theorem but_l {a b : Addr} {n m : Nat} {xs : List V} (bt : But a H H') (h : Hd H a n) (h' : Hd H' a m) (z : SqL K H b xs) : ∃ ys, SqL K H' b ys := by
  by_cases e : b = a
  · obtain ⟨ys, e2⟩ := h'.some
    rw [e]
    exact ⟨ys, SqL.of e2⟩
  · rcases z with (z | ⟨o, z⟩) | z
    · exact ⟨xs, .inl (.inl (bt b _ e z))⟩
    · exact ⟨xs, .inl (.inr ⟨o, bt b _ e z⟩)⟩
    · exact ⟨xs, .inr z⟩
theorem but_d {a b : Addr} {n : Nat} {kvs : List (Key × V)} (bt : But a H H') (h : Hd H a n) (z : H b = some (.dK kvs)) : H' b = some (.dK kvs) := by
  obtain ⟨ys, e2⟩ := h.some
  exact bt b _ (fun e => by rw [e, e2] at z; cases z) z
theorem Av.but {a : Addr} {n m : Nat} (bt : But a H H') (h : Hd H a n) (h' : Hd H' a m) {x : V} {d : AD} (z : Av K H x d) : Av K H' x d := Av.keep (fun _ _ => but_l bt h h') (fun _ _ => but_t bt h) (fun _ _ => but_d bt h) d z
theorem AvAll.but {a : Addr} {n m : Nat} (bt : But a H H') (h : Hd H a n) (h' : Hd H' a m) {xs : List V} {ds : List AD} (z : AvAll K H xs ds) : AvAll K H' xs ds := AvAll.keep (fun _ _ => but_l bt h h') (fun _ _ => but_t bt h) (fun _ _ => but_d bt h) ds z
theorem AvAll.len : ∀ {xs : List V} {ds : List AD}, AvAll K H xs ds → xs.length = ds.length
  | _, _, .nil => rfl
  | _, _, .cons _ r => by rw [List.length_cons, List.length_cons, AvAll.len r]
theorem AvAll.append : ∀ {xs ys : List V} {ds es : List AD}, AvAll K H xs ds → AvAll K H ys es → AvAll K H (xs ++ ys) (ds ++ es)
  | _, _, _, _, .nil, z => z
  | _, _, _, _, .cons h r, z => .cons h (AvAll.append r z)
theorem AvAll.take : ∀ {xs : List V} {ds : List AD} (n : Nat), AvAll K H xs ds → AvAll K H (xs.take n) (ds.take n)
  | _, _, 0, _ => by rw [List.take_zero, List.take_zero]; exact .nil
  | _, _, n + 1, .nil => by rw [List.take_nil, List.take_nil]; exact .nil
  | _, _, n + 1, .cons h r => .cons h (AvAll.take n r)
theorem AvAll.drop : ∀ {xs : List V} {ds : List AD} (n : Nat), AvAll K H xs ds → AvAll K H (xs.drop n) (ds.drop n)
  | _, _, 0, r => r
  | _, _, n + 1, .nil => .nil
  | _, _, n + 1, .cons h r => AvAll.drop n r
theorem AvAll.reverse : ∀ {xs : List V} {ds : List AD}, AvAll K H xs ds → AvAll K H xs.reverse ds.reverse
  | _, _, .nil => .nil
  | _, _, .cons h r => by
    rw [List.reverse_cons, List.reverse_cons]
    exact AvAll.append (AvAll.reverse r) (.cons h .nil)
theorem AvAll.get : ∀ {xs : List V} {ds : List AD} {i : Nat} {x : V}, AvAll K H xs ds → xs[i]? = some x → ∃ d, ds[i]? = some d ∧ Av K H x d
  | _, _, _, _, .nil, g => by simp at g
  | _, _, 0, _, .cons h r, g => by
    cases Option.some.inj g
    exact ⟨_, rfl, h⟩
  | _, _, i + 1, _, .cons h r, g => AvAll.get (i := i) r g
theorem Av.kd {x : V} {d : AD} (h : Av K H x d) : ∃ T, Kd K H x T := by
  cases h with
  | non => exact ⟨_, .non⟩
  | bl b => exact ⟨_, .bl b⟩
  | int i => exact ⟨_, .int i⟩
  | str z => exact ⟨_, .str z⟩
  | lst h => exact ⟨_, .lst h⟩
  | dct h => exact ⟨_, .dct h⟩
  | tup h _ => exact ⟨_, .tup h⟩
def AD.isTup : AD → Bool
  | .tup _ => true
  | _ => false
def AD.isStr : AD → Bool
  | .str _ => true
  | _ => false
def AD.isBl : AD → Bool
  | .bl _ => true
  | _ => false
def AD.isNum : AD → Bool
  | .bl _ => true
  | .int _ => true
  | _ => false
theorem Av.kd2 {x : V} {d : AD} (h : Av K H x d) : ∃ T, Kd K H x T ∧ kitB T "tuple" = some d.isTup ∧ kitB T "str" = some d.isStr ∧ kitB T "bool" = some d.isBl ∧ kitB T "int" = some d.isNum := by
  cases h with
  | non => exact ⟨_, .non, by decide +kernel, by decide +kernel, by decide +kernel, by decide +kernel⟩
  | bl b => exact ⟨_, .bl b, (Kd.bl (K := K) (H := H) b).ktup, (Kd.bl (K := K) (H := H) b).kstr, (Kd.bl (K := K) (H := H) b).kbool, (Kd.bl (K := K) (H := H) b).kint⟩
  | int i => exact ⟨_, .int i, (Kd.int (K := K) (H := H) i).ktup, (Kd.int (K := K) (H := H) i).kstr, (Kd.int (K := K) (H := H) i).kbool, (Kd.int (K := K) (H := H) i).kint⟩
  | str z => exact ⟨_, .str z, (Kd.str (K := K) (H := H) z).ktup, (Kd.str (K := K) (H := H) z).kstr, (Kd.str (K := K) (H := H) z).kbool, (Kd.str (K := K) (H := H) z).kint⟩
  | lst h => exact ⟨_, .lst h, (Kd.lst h).ktup, (Kd.lst h).kstr, (Kd.lst h).kbool, (Kd.lst h).kint⟩
  | dct h => exact ⟨_, .dct h, (Kd.dct (K := K) h).ktup, (Kd.dct (K := K) h).kstr, (Kd.dct (K := K) h).kbool, (Kd.dct (K := K) h).kint⟩
  | tup h _ => exact ⟨_, .tup h, (Kd.tup h).ktup, (Kd.tup h).kstr, (Kd.tup h).kbool, (Kd.tup h).kint⟩
end
/-! ### slices and sums of tuples of anything -/
theorem slV_to {K : PySem.W.Frag} {H : Hp} {Q : VK} {a : Addr} {xs : List V} {c : Nat} (ha : SqT K H a xs) (q : ∀ H' p, Same H H' → SqT K H' p (xs.take c) → Q (.ref p) H') : rSlA K (.ref a) none (some (c : Int)) H Q := by
  refine ⟨a, _, rfl, ha, fun e => ?_, fun _ p hp => ?_⟩
  · refine q H a (Same.refl H) ?_
    rw [HT.sIx_nat] at e
    rw [List.take_of_length_le (by omega)]
    exact ha
  · refine q _ p (same_new hp) (SqT.of ?_)
    rw [upd_same, cut_to]
theorem slV_from {K : PySem.W.Frag} {H : Hp} {Q : VK} {a : Addr} {xs : List V} {c : Nat} (ha : SqT K H a xs) (q : ∀ H' p, Same H H' → SqT K H' p (xs.drop c) → Q (.ref p) H') : rSlA K (.ref a) (some (c : Int)) none H Q := by
  refine ⟨a, _, rfl, ha, fun e => ?_, fun _ p hp => ?_⟩
  · refine q H a (Same.refl H) ?_
    rw [HT.sIx_nat] at e
    have z : xs.drop c = xs := by
      rcases Nat.lt_or_ge 0 c with h | h
      · have : xs.length = 0 := by omega
        rw [List.length_eq_zero_iff.mp this, List.drop_nil]
      · rw [Nat.le_zero.mp h, List.drop_zero]
    rw [z]
    exact ha
  · refine q _ p (same_new hp) (SqT.of ?_)
    rw [upd_same, cut_from]
theorem catV_of {K : PySem.W.Frag} {H : Hp} {Q : VK} {a b : Addr} {xs ys : List V} (ha : SqT K H a xs) (hb : SqT K H b ys) (hz : xs.length + ys.length ≤ sizeLine) (q : ∀ H' p, Same H H' → SqT K H' p (xs ++ ys) → Q (.ref p) H') : rCatA K (.ref a) (.ref b) H Q := by
  refine ⟨a, b, _, _, rfl, rfl, ha, hb, hz, fun e => ?_, fun _ e => ?_, fun _ _ p hp => ?_⟩
  · refine q H b (Same.refl H) ?_
    rw [e, List.nil_append]
    exact hb
  · refine q H a (Same.refl H) ?_
    rw [e, List.append_nil]
    exact ha
  · exact q _ p (same_new hp) (SqT.of upd_same)
end M
namespace M
open PySem PySem.Spec PyProof.Rows L2 Gd
/-! ### bent -/
abbrev sBent : Stmt := topS 14
abbrev nBent : List Str := ["_law_hand_here", "_law_item", "_law_at", "_law_some"]
theorem scBent : FnScope nBent ["_law_hand_here", "_law_item"] (defScope sBent) := ⟨rfl, rfl, rfl, by decide +kernel, rfl, by decide +kernel, by decide +kernel⟩
def spBent (K : PySem.W.Frag) (n : Nat) : Sp := fun vs H Q _ => ∃ (a : Addr) (x : V) (t m : Nat) (d : AD), vs = [.ref a, x] ∧ Hd H a t ∧ t + 2 * n + 10 < 1000000 ∧ Av K H x d ∧ d.deep < n ∧ d.ok m ∧ m ≤ 1000000 ∧
  ∀ H' y d', But a H H' → Hd H' a (t + 2 * n + 3) → Av K H' y d' → d'.deep ≤ n + 1 → d'.ok (3 * m + 2000) → Q y H'
/-- the items that may be picked -/
def GoodL (K : PySem.W.Frag) (H : Hp) (n w : Nat) (xs : List V) : Prop := ∀ y ∈ xs, ∃ d, Av K H y d ∧ d.deep ≤ n ∧ d.ok w
theorem GoodL.same {K : PySem.W.Frag} {H H' : Hp} {n w : Nat} {xs : List V} (s : Same H H') (h : GoodL K H n w xs) : GoodL K H' n w xs := fun y hy => by
  obtain ⟨d, h1, h2, h3⟩ := h y hy
  exact ⟨d, h1.same s, h2, h3⟩
theorem GoodL.nil {K : PySem.W.Frag} {H : Hp} {n w : Nat} : GoodL K H n w [] := fun y hy => (nomatch hy)
theorem GoodL.cons {K : PySem.W.Frag} {H : Hp} {n w : Nat} {x : V} {xs : List V} {d : AD} (h : Av K H x d) (h2 : d.deep ≤ n) (h3 : d.ok w) (r : GoodL K H n w xs) : GoodL K H n w (x :: xs) := fun y hy => by
  rcases List.mem_cons.mp hy with e | e
  · rw [e]
    exact ⟨d, h, h2, h3⟩
  · exact r y e
theorem GoodL.append {K : PySem.W.Frag} {H : Hp} {n w : Nat} {xs ys : List V} (h : GoodL K H n w xs) (r : GoodL K H n w ys) : GoodL K H n w (xs ++ ys) := fun y hy => (List.mem_append.mp hy).elim (h y) (r y)
theorem deep_str (z : Str) : (AD.str z).deep = 0 := rfl
theorem one_deep (d : AD) : (AD.tup [d]).deep = d.deep + 1 := by
  show max d.deep 0 + 1 = _
  rw [Nat.max_zero]
theorem szM {n : Nat} (h : n ≤ 10000000) : n ≤ sizeLine := Nat.le_trans h (by decide)
section
variable {P : Program} {w : World} {K : PySem.W.Frag} {mg : Str → Option Value} {base : Heap}
structure BentTxt (K : PySem.W.Frag) (mg : Str → Option Value) (f fT fP : Addr) (fd fdT fdP : FuncData) : Prop where
  B : Fun K "_law_bent" "_law_bent" sBent f fd
  bB : Binds K fd ["_law_hand_here", "_law_item"] []
  gB : mg "_law_bent" = some (.ref f)
  T : Fun K "_law_take" "_law_take" sTake fT fdT
  bT : Binds K fdT ["_law_hand_here", "_law_many"] []
  gT : mg "_law_take" = some (.ref fT)
  P : Fun K "_law_pick" "_law_pick" sPick fP fdP
  bP : Binds K fdP ["_law_hand_here", "_law_items"] []
  gP : mg "_law_pick" = some (.ref fP)
  len : mg "len" = none
  isi : mg "isinstance" = none
  tup : mg "tuple" = none
  lst : mg "list" = none
  str : mg "str" = none
  int : mg "int" = none
theorem ok_bent {f fT fP : Addr} {fd fdT fdP : FuncData} (T : BentTxt K mg f fT fP fd fdT fdP) : ∀ n : Nat, FnOk P w K mg base CX0 (n + 3) f fd ["_law_hand_here", "_law_item"] (spBent K n)
  | 0 => ⟨fun vs H Q E h => by obtain ⟨a, x, t, m, d, rfl, _⟩ := h; rfl, fun A outer s H args us vs Q E _ _ _ _ h => by
      obtain ⟨a, x, t, m, d, _, _, _, _, hd, _⟩ := h
      exact absurd hd (Nat.not_lt_zero _)⟩
  | n + 1 => by
    have GB : FnOk P w K mg base CX0 (n + 3) f fd ["_law_hand_here", "_law_item"] (spBent K n) := ok_bent T n
    have GT : FnOk P w K mg base CX0 (n + 3) fT fdT ["_law_hand_here", "_law_many"] spTake := ok_take T.T
    have GP : FnOk P w K mg base CX0 (n + 3) fP fdP ["_law_hand_here", "_law_items"] spPick := (ok_pick (k := 0) T.P T.T T.bT T.gT T.len).mono (by omega)
    refine T.B.ok scBent (fun vs H Q E h => ?_) (fun cdv A outer s H vs Q E hr h => ?_)
    · obtain ⟨a, x, t, m, d, rfl, _⟩ := h
      rfl
    · obtain ⟨a, x, t, m, d, rfl, hh, ht, av, dp, ok, hm, q⟩ := h
      -- return pick(hand, some)
      obtain ⟨t5, h5, e5⟩ : ∃ t5, PSs (cxOf CX0 P w K mg base nBent "_law_bent" (defScope sBent) f cdv A outer s H E).nox ((defBody sBent).drop 5) t5 ∧ ∀ (y2 : Option V) (l : Addr) (xs : List V) (H1 : Hp), But a H H1 → Hd H1 a (t + 1) → H1 l = some (.lst xs) → l ≠ a → GoodL K H1 (n + 2) (3 * m + 2000) xs → 0 < xs.length → xs.length ≤ 100 →
          t5 { nx := fun _ H' => Q .non H', rt := Q } [some (.ref a), some x, y2, some (.ref l)] H1 := by
        refine ⟨_, pss_one (ps_ret (pe_call GP hr (by rfl) T.gP T.P.kp T.bP .nil pass0 (pa_cons (pv 0) (pa_cons (pv 3) pa_nil)))), ?_⟩
        intro y2 l xs H1 b1 hd1 el nl good l0 l1
        refine ⟨.ref a, rfl, .ref l, rfl, a, t + 1, .ref l, rfl, hd1, by omega, .inl ⟨l, xs, rfl, nl, .inl el, l0, by omega, fun H2 y b2 hd2 hy => ?_⟩⟩
        obtain ⟨d', h1, h2, h3⟩ := good y hy
        exact q H2 y d' (b1.trans b2) (hd2.up (by omega)) (h1.but b2 hd1 hd2) (by omega) h3
      -- if isinstance(item, int)
      obtain ⟨t4, h4, e4⟩ : ∃ t4, PSs (cxOf CX0 P w K mg base nBent "_law_bent" (defScope sBent) f cdv A outer s H E).nox ((defBody sBent).drop 4) t4 ∧ ∀ (y2 : Option V) (l : Addr) (xs : List V) (H1 : Hp), But a H H1 → Hd H1 a (t + 1) → H1 l = some (.lst xs) → l ≠ a → GoodL K H1 (n + 2) (3 * m + 2000) xs → 0 < xs.length → xs.length ≤ 80 → Av K H1 x d →
          t4 { nx := fun _ H' => Q .non H', rt := Q } [some (.ref a), some x, y2, some (.ref l)] H1 := by
        refine ⟨_, pss_cons (ps_if (pt_val (pe_callB call_isi (by rfl) T.isi (by decide +kernel) (pa_cons (pv 1) (pa_cons (pe_bltn (v := .ty "int") (by rfl) T.int (by decide +kernel) rfl) pa_nil))))
          (pss_one (ps_set (i := 3) scBent.nd rfl (.inl rfl) (pe_op op_cat (pv 3) (pe_lst (pa_cons (pe_op op_addB (pv 1) pe_int) (pa_cons (pe_op op_subB (pv 1) pe_int) (pa_cons (pe_callTy call_strB (by rfl) T.str (by decide +kernel) (pa_cons (pv 1) pa_nil)) (pa_cons (pe_tup (pa_cons (pv 1) pa_nil)) (pa_cons (pe_cmpR (op_eqD hr.units) (pv 1) pe_int (nomark _)) pa_nil)))))))))
          pss_nil) h5, ?_⟩
        intro y2 l xs H1 b1 hd1 el nl good l0 l1 av1
        obtain ⟨T0, kd⟩ := av1.kd
        refine ⟨_, rfl, x, _, _, _, _, rfl, .ty "int", kd.ty, kit_ty kd.kint, _, rfl, ?_⟩
        have key : ∀ (i : Int) (z : Str) (dd : PyData), numV x = some i → numS x = some z → i.natAbs ≤ m + 1 → z.length ≤ 2000 → (∀ j, x = .int j → j.natAbs.log2 < 1920) → (∀ H2, Dp K H2 x dd) → SeqAt.shaped dd = true →
            (∃ v1, ([some (.ref a), some x, y2, some (.ref l)] : L2.St)[3]? = some (some v1) ∧ ∃ v2, ([some (.ref a), some x, y2, some (.ref l)] : L2.St)[1]? = some (some v2) ∧ ∃ i2 j2, numV v2 = some i2 ∧ V.int 1 = .int j2 ∧
              ∃ v3, ([some (.ref a), some x, y2, some (.ref l)] : L2.St)[1]? = some (some v3) ∧ ∃ i3 j3, numV v3 = some i3 ∧ V.int 1 = .int j3 ∧
              ∃ v4, ([some (.ref a), some x, y2, some (.ref l)] : L2.St)[1]? = some (some v4) ∧ ∃ x4 z4, [v4] = [x4] ∧ numS x4 = some z4 ∧ (∀ j, x4 = .int j → j.natAbs.log2 < 1920) ∧
              ∃ v5, ([some (.ref a), some x, y2, some (.ref l)] : L2.St)[1]? = some (some v5) ∧ [v5].length ≤ sizeLine ∧ ∀ p, H1 p = none →
              ∃ v6, ([some (.ref a), some x, y2, some (.ref l)] : L2.St)[1]? = some (some v6) ∧ ∃ d6 e6, Dp K (upd H1 p (.tup [v5])) v6 d6 ∧ Dp K (upd H1 p (.tup [v5])) (.int 1) e6 ∧ SeqAt.shaped d6 = true ∧ SeqAt.shaped e6 = true ∧
              [V.int (i2 + j2), V.int (i3 - j3), V.str z4, V.ref p, V.bl (PyData.eqv d6 e6)].length ≤ sizeLine ∧ ∀ p2, (upd H1 p (.tup [v5])) p2 = none →
              rCat v1 (.ref p2) (upd (upd H1 p (.tup [v5])) p2 (.lst [V.int (i2 + j2), V.int (i3 - j3), V.str z4, V.ref p, V.bl (PyData.eqv d6 e6)])) fun y H9 => t5 { nx := fun _ H' => Q .non H', rt := Q } [some (.ref a), some x, y2, some y] H9) := by
          intro i z dd e1 e2 b2 lz hl hdp hsh
          refine ⟨.ref l, rfl, x, rfl, i, 1, e1, rfl, x, rfl, i, 1, e1, rfl, x, rfl, x, z, rfl, e2, hl, x, rfl, (by show 1 ≤ sizeLine; decide), fun p hp => ?_⟩
          refine ⟨x, rfl, dd, .int 1, hdp _, .int 1, hsh, rfl, (by show 5 ≤ sizeLine; decide), fun p2 hp2 => ?_⟩
          have s1 : Same H1 (upd H1 p (.tup [x])) := same_new hp
          have s2 := s1.trans (same_new hp2 (o := .lst [V.int (i + 1), V.int (i - 1), V.str z, V.ref p, V.bl (PyData.eqv dd (.int 1))]))
          refine ⟨l, p2, xs, _, rfl, rfl, s2 _ _ el, upd_same, szM (by show xs.length + 5 ≤ _; omega), fun p3 hp3 => ?_⟩
          have s3 := s2.trans (same_new hp3 (o := .lst (xs ++ [V.int (i + 1), V.int (i - 1), V.str z, V.ref p, V.bl (PyData.eqv dd (.int 1))])))
          have hdx : Hd (upd (upd H1 p (.tup [x])) p2 (.lst [V.int (i + 1), V.int (i - 1), V.str z, V.ref p, V.bl (PyData.eqv dd (.int 1))])) a (t + 1) := same_hd s2 hd1
          refine e5 y2 p3 _ _ (b1.trans (same_but s3)) (same_hd s3 hd1) upd_same (hdx.ne hp3) ?_ ?_ ?_
          · refine (good.same s3).append ?_
            have sp : Same (upd H1 p (.tup [x])) (upd (upd (upd H1 p (.tup [x])) p2 (.lst [V.int (i + 1), V.int (i - 1), V.str z, V.ref p, V.bl (PyData.eqv dd (.int 1))])) p3 (.lst (xs ++ [V.int (i + 1), V.int (i - 1), V.str z, V.ref p, V.bl (PyData.eqv dd (.int 1))]))) := (same_new hp2).trans (same_new hp3)
            have avp : Av K (upd H1 p (.tup [x])) (.ref p) (.tup [d]) := .tup (SqT.of upd_same) (.cons (av1.same s1) .nil)
            refine .cons (.int (i + 1)) (Nat.zero_le _) ?_ (.cons (.int (i - 1)) (Nat.zero_le _) ?_ (.cons (.str z) (Nat.zero_le _) ?_ (.cons (avp.same sp) ?_ ?_ (.cons (.bl _) (Nat.zero_le _) trivial .nil))))
            · show (i + 1).natAbs ≤ 3 * m + 2000
              omega
            · show (i - 1).natAbs ≤ 3 * m + 2000
              omega
            · show z.length ≤ 3 * m + 2000
              omega
            · rw [one_deep]
              omega
            · exact ⟨by show 1 ≤ 3 * m + 2000; omega, ok.up (by omega), trivial⟩
          · rw [List.length_append]
            omega
          · rw [List.length_append]
            show xs.length + 5 ≤ 100
            omega
        cases av1 with
        | non => cases kd; exact iteF (e5 y2 l xs H1 b1 hd1 el nl good l0 (by omega))
        | str z => cases kd; exact iteF (e5 y2 l xs H1 b1 hd1 el nl good l0 (by omega))
        | lst h =>
          have eT : (T0 == "int" || T0 == "bool") = false := by cases kd <;> rfl
          rw [eT]
          exact iteF (e5 y2 l xs H1 b1 hd1 el nl good l0 (by omega))
        | dct h =>
          have eT : (T0 == "int" || T0 == "bool") = false := by cases kd <;> rfl
          rw [eT]
          exact iteF (e5 y2 l xs H1 b1 hd1 el nl good l0 (by omega))
        | tup h r =>
          have eT : (T0 == "int" || T0 == "bool") = false := by cases kd <;> rfl
          rw [eT]
          exact iteF (e5 y2 l xs H1 b1 hd1 el nl good l0 (by omega))
        | bl b =>
          cases kd
          refine iteT ?_
          refine key (if b = true then 1 else 0) (if b then "True" else "False" : String) (.bool b) rfl rfl ?_ ?_ (fun j e => by cases e) (fun H2 => .bl b) rfl
          · cases b
            · show 0 ≤ m + 1
              omega
            · show 1 ≤ m + 1
              omega
          · cases b <;> decide +kernel
        | int i =>
          cases kd
          have oi : i.natAbs ≤ m := ok
          refine iteT ?_
          have lt : i.natAbs < 10 ^ 7 := by
            have : (10 : Nat) ^ 7 = 10000000 := by decide
            omega
          refine key i (toString i : String) (.int i) rfl rfl (by omega) ?_ (fun j e => ?_) (fun H2 => .int i) rfl
          · have h1 := int_text_length_le10 (k := 7) (by decide) lt
            rw [PySem.ofString_length]
            omega
          · cases e
            refine Nat.lt_of_lt_of_le (PySem.Flt.log2_lt_of (k := 24) (by decide) ?_) (by decide)
            have : (2 : Nat) ^ 24 = 16777216 := by decide
            omega
      -- if isinstance(item, str)
      obtain ⟨t3, h3, e3⟩ : ∃ t3, PSs (cxOf CX0 P w K mg base nBent "_law_bent" (defScope sBent) f cdv A outer s H E).nox ((defBody sBent).drop 3) t3 ∧ ∀ (y2 : Option V) (l : Addr) (xs : List V) (H1 : Hp), But a H H1 → Hd H1 a (t + 1) → H1 l = some (.lst xs) → l ≠ a → GoodL K H1 (n + 2) (3 * m + 2000) xs → 0 < xs.length → xs.length ≤ 60 → Av K H1 x d →
          t3 { nx := fun _ H' => Q .non H', rt := Q } [some (.ref a), some x, y2, some (.ref l)] H1 := by
        refine ⟨_, pss_cons (ps_if (pt_val (pe_callB call_isi (by rfl) T.isi (by decide +kernel) (pa_cons (pv 1) (pa_cons (pe_bltn (v := .ty "str") (by rfl) T.str (by decide +kernel) rfl) pa_nil))))
          (pss_one (ps_set (i := 3) scBent.nd rfl (.inl rfl) (pe_op op_cat (pv 3) (pe_lst (pa_cons (pe_op op_add_str (pv 1) pe_str) (pa_cons (pe_slice sl_str (pv 1) (po_some pe_int) po_none) (pa_cons (pe_lst (pa_cons (pv 1) pa_nil)) (pa_cons (pe_tup (pa_cons (pv 1) pa_nil)) (pa_cons (pe_upper (pv 1)) pa_nil)))))))))
          pss_nil) h4, ?_⟩
        intro y2 l xs H1 b1 hd1 el nl good l0 l1 av1
        obtain ⟨T0, kd⟩ := av1.kd
        refine ⟨_, rfl, x, _, _, _, _, rfl, .ty "str", kd.ty, kit_ty kd.kstr, _, rfl, ?_⟩
        by_cases hstr : ∃ z, x = .str z
        · obtain ⟨z, rfl⟩ := hstr
          cases kd
          cases av1
          have oz : z.length ≤ m := ok
          refine iteT ?_
          refine ⟨.ref l, rfl, _, rfl, z, "b", rfl, rfl, szM (by show z.length + 1 ≤ _; omega), _, rfl, 1, rfl, z, rfl, szM (by omega), _, rfl, (by show 1 ≤ sizeLine; decide), fun p hp => ?_⟩
          refine ⟨_, rfl, (by show 1 ≤ sizeLine; decide), fun p1 hp1 => ?_⟩
          refine ⟨_, rfl, ⟨_, rfl⟩, z, rfl, rfl, by omega, (by show 5 ≤ sizeLine; decide), fun p2 hp2 => ?_⟩
          have s1 : Same H1 (upd H1 p (.lst [.str z])) := same_new hp
          have s2 := s1.trans (same_new hp1 (o := .tup [.str z]))
          have s3 := s2.trans (same_new hp2 (o := .lst [V.str (z ++ "b"), V.str (cutS z (some 1) none), V.ref p, V.ref p1, V.str (Txt.upper z)]))
          refine ⟨l, p2, xs, _, rfl, rfl, s3 _ _ el, upd_same, szM (by show xs.length + 5 ≤ _; omega), fun p3 hp3 => ?_⟩
          have s4 := s3.trans (same_new hp3 (o := .lst (xs ++ [V.str (z ++ "b"), V.str (cutS z (some 1) none), V.ref p, V.ref p1, V.str (Txt.upper z)])))
          refine e4 y2 p3 _ _ (b1.trans (same_but s4)) (same_hd s4 hd1) upd_same ((same_hd s3 hd1).ne hp3) ?_ ?_ ?_ (.str z)
          · refine (good.same s4).append ?_
            have k2 := (same_new hp1 (o := .tup [.str z])).trans ((same_new hp2 (o := .lst [V.str (z ++ "b"), V.str (cutS z (some 1) none), V.ref p, V.ref p1, V.str (Txt.upper z)])).trans (same_new hp3 (o := .lst (xs ++ [V.str (z ++ "b"), V.str (cutS z (some 1) none), V.ref p, V.ref p1, V.str (Txt.upper z)]))))
            have k3 := (same_new hp2 (o := .lst [V.str (z ++ "b"), V.str (cutS z (some 1) none), V.ref p, V.ref p1, V.str (Txt.upper z)])).trans (same_new hp3 (o := .lst (xs ++ [V.str (z ++ "b"), V.str (cutS z (some 1) none), V.ref p, V.ref p1, V.str (Txt.upper z)])))
            refine .cons (.str _) (Nat.zero_le _) ?_ (.cons (.str _) (Nat.zero_le _) ?_ (.cons (.lst (k2.seq (SqL.of upd_same))) (Nat.zero_le _) trivial (.cons (d := .tup [.str z]) (.tup (same_t k3 (SqT.of upd_same)) (.cons (.str z) .nil)) ?_ ?_ (.cons (.str _) (Nat.zero_le _) ?_ .nil))))
            · show (z ++ ("b" : Str)).length ≤ _
              rw [← len_cps, PySem.W.KT.app_list, List.length_append, len_cps, len_cps]
              show z.length + 1 ≤ _
              omega
            · exact Nat.le_trans (cutS_length z _ _) (by omega)
            · rw [one_deep]
              show 0 + 1 ≤ n + 2
              omega
            · exact ⟨by show 1 ≤ 3 * m + 2000; omega, Nat.le_trans oz (by omega), trivial⟩
            · exact Nat.le_trans (PyProof.Rows.len_upper z) (by omega)
          · rw [List.length_append]
            omega
          · rw [List.length_append]
            show xs.length + 5 ≤ 80
            omega
        · have eT : (T0 == "str") = false := by
            cases kd with
            | str z => exact absurd ⟨z, rfl⟩ hstr
            | _ => rfl
          rw [eT]
          exact iteF (e4 y2 l xs H1 b1 hd1 el nl good l0 (by omega) av1)
      -- if isinstance(item, tuple)
      obtain ⟨t2, h2, e2⟩ : ∃ t2, PSs (cxOf CX0 P w K mg base nBent "_law_bent" (defScope sBent) f cdv A outer s H E).nox ((defBody sBent).drop 2) t2 ∧ ∀ (y2 : Option V) (l : Addr) (xs : List V) (H1 : Hp), But a H H1 → Hd H1 a (t + 1) → H1 l = some (.lst xs) → l ≠ a → GoodL K H1 (n + 2) (3 * m + 2000) xs → 0 < xs.length → xs.length ≤ 40 → Av K H1 x d →
          t2 { nx := fun _ H' => Q .non H', rt := Q } [some (.ref a), some x, y2, some (.ref l)] H1 := by
        refine ⟨_, pss_cons (ps_if (pt_val (pe_callB call_isi (by rfl) T.isi (by decide +kernel) (pa_cons (pv 1) (pa_cons (pe_bltn (v := .ty "tuple") (by rfl) T.tup (by decide +kernel) rfl) pa_nil))))
          (pss_one (ps_set (i := 3) scBent.nd rfl (.inl rfl) (pe_op op_cat (pv 3) (pe_lst (pa_cons (pe_callTy call_list_of (by rfl) T.lst (by decide +kernel) (pa_cons (pv 1) pa_nil)) (pa_cons (pe_op op_catA (pv 1) (pe_slice sl_tupA (pv 1) po_none (po_some pe_int))) (pa_cons (pe_slice sl_tupA (pv 1) (po_some pe_int) po_none) (pa_cons (pe_revT (pv 1)) (pa_cons (pe_op op_catA (pv 1) (pe_tup (pa_cons pe_str pa_nil))) (pa_cons (pe_tup (pa_cons (pv 1) pa_nil)) pa_nil))))))))))
          pss_nil) h3, ?_⟩
        intro y2 l xs H1 b1 hd1 el nl good l0 l1 av1
        cases av1 with
        | non => exact ⟨_, rfl, _, _, _, _, _, rfl, .ty "tuple", (Kd.non (K := K) (H := H1)).ty, kit_ty (Kd.non (K := K) (H := H1)).ktup, _, rfl, iteF (e3 y2 l xs H1 b1 hd1 el nl good l0 (by omega) .non)⟩
        | bl b => exact ⟨_, rfl, _, _, _, _, _, rfl, .ty "tuple", (Kd.bl (K := K) (H := H1) b).ty, kit_ty (Kd.bl (K := K) (H := H1) b).ktup, _, rfl, iteF (e3 y2 l xs H1 b1 hd1 el nl good l0 (by omega) (.bl b))⟩
        | int i => exact ⟨_, rfl, _, _, _, _, _, rfl, .ty "tuple", (Kd.int (K := K) (H := H1) i).ty, kit_ty (Kd.int (K := K) (H := H1) i).ktup, _, rfl, iteF (e3 y2 l xs H1 b1 hd1 el nl good l0 (by omega) (.int i))⟩
        | str z => exact ⟨_, rfl, _, _, _, _, _, rfl, .ty "tuple", (Kd.str (K := K) (H := H1) z).ty, kit_ty (Kd.str (K := K) (H := H1) z).ktup, _, rfl, iteF (e3 y2 l xs H1 b1 hd1 el nl good l0 (by omega) (.str z))⟩
        | lst h => exact ⟨_, rfl, _, _, _, _, _, rfl, .ty "tuple", (Kd.lst h).ty, kit_ty (Kd.lst h).ktup, _, rfl, iteF (e3 y2 l xs H1 b1 hd1 el nl good l0 (by omega) (.lst h))⟩
        | dct h => exact ⟨_, rfl, _, _, _, _, _, rfl, .ty "tuple", (Kd.dct (K := K) h).ty, kit_ty (Kd.dct (K := K) h).ktup, _, rfl, iteF (e3 y2 l xs H1 b1 hd1 el nl good l0 (by omega) (.dct h))⟩
        | @tup b ys ds h r =>
          refine ⟨_, rfl, _, _, _, _, _, rfl, .ty "tuple", (Kd.tup h).ty, kit_ty (Kd.tup h).ktup, _, rfl, iteT ?_⟩
          have okt : ds.length ≤ m ∧ AD.okAll m ds := ok
          have lys : ys.length ≤ m := by rw [r.len]; exact okt.1
          have dpt : AD.deepAll ds + 1 < n + 1 := dp
          have dpe : ∀ d ∈ ds, d.deep ≤ n := deepAll_le.mp (by omega)
          have oke := okAll_iff.mp okt.2
          -- what a tuple of such items is
          have good1 : ∀ {H9 : Hp} {p : Addr} {zs : List V} {es : List AD}, SqT K H9 p zs → AvAll K H9 zs es → es.length ≤ m + 1 → (∀ e ∈ es, e.deep ≤ n + 1 ∧ e.ok (m + 5)) → ∃ d', Av K H9 (.ref p) d' ∧ d'.deep ≤ n + 2 ∧ d'.ok (3 * m + 2000) := by
            intro H9 p zs es z1 z2 z3 z4
            refine ⟨.tup es, .tup z1 z2, ?_, ⟨by omega, okAll_iff.mpr fun e he => (z4 e he).2.up (by omega)⟩⟩
            show AD.deepAll es + 1 ≤ n + 2
            have := deepAll_le (n := n + 1) (ds := es) |>.mpr fun e he => (z4 e he).1
            omega
          have base1 : ∀ e ∈ ds, e.deep ≤ n + 1 ∧ e.ok (m + 5) := fun e he => ⟨by have := dpe e he; omega, (oke e he).up (by omega)⟩
          refine ⟨.ref l, rfl, .ref b, rfl, b, ys, rfl, .inr h, fun p1 hp1 => ?_⟩
          have s1 : Same H1 (upd H1 p1 (.lst ys)) := same_new hp1
          refine ⟨.ref b, rfl, .ref b, rfl, 1, rfl, ?_⟩
          dsimp only
          refine slV_to (c := 1) (same_t s1 h) fun H2 p2 s2 e2' => ?_
          refine catV_of (same_t (s1.trans s2) h) e2' (szM (by rw [List.length_take]; omega)) fun H3 p3 s3 e3' => ?_
          have s13 := s1.trans (s2.trans s3)
          refine ⟨.ref b, rfl, 1, rfl, ?_⟩
          dsimp only [tNoPart]
          refine slV_from (c := 1) (same_t s13 h) fun H4 p4 s4 e4' => ?_
          have s14 := s13.trans s4
          refine ⟨.ref b, rfl, b, ys, rfl, same_t s14 h, fun p5 hp5 => ?_⟩
          have s45 : Same H4 (upd H4 p5 (.tup ys.reverse)) := same_new hp5
          have s15 := s14.trans s45
          refine ⟨.ref b, rfl, (by show 1 ≤ sizeLine; decide), fun p6 hp6 => ?_⟩
          have s56 := same_new hp6 (o := .tup [.str "zz"])
          have s16 := s15.trans s56
          dsimp only
          refine catV_of (same_t s16 h) (SqT.of upd_same) (szM (by show ys.length + 1 ≤ _; omega)) fun H7 p7 s7 e7' => ?_
          have s17 := s16.trans s7
          refine ⟨.ref b, rfl, (by show 1 ≤ sizeLine; decide), fun p8 hp8 => ?_⟩
          have s78 := same_new hp8 (o := .tup [.ref b])
          have s18 := s17.trans s78
          refine ⟨(by show 6 ≤ sizeLine; decide), fun p9 hp9 => ?_⟩
          have s89 := same_new hp9 (o := .lst [.ref p1, .ref p3, .ref p4, .ref p5, .ref p7, .ref p8])
          have s19 := s18.trans s89
          refine ⟨l, p9, xs, _, rfl, rfl, s19 _ _ el, upd_same, szM (by show xs.length + 6 ≤ _; omega), fun p10 hp10 => ?_⟩
          have s90 := same_new hp10 (o := .lst (xs ++ [.ref p1, .ref p3, .ref p4, .ref p5, .ref p7, .ref p8]))
          have sA := s19.trans s90
          have hd9 := same_hd s19 hd1
          refine e3 y2 p10 _ _ (b1.trans (same_but sA)) (same_hd sA hd1) upd_same (hd9.ne hp10) ?_ ?_ ?_ (Av.same sA (.tup h r))
          · refine (good.same sA).append fun y hy => ?_
            have rA := r.same sA
            simp only [List.mem_cons, List.not_mem_nil, or_false] at hy
            rcases hy with rfl | rfl | rfl | rfl | rfl | rfl
            · exact ⟨.lst, .lst ((s2.trans (s3.trans (s4.trans (s45.trans (s56.trans (s7.trans (s78.trans (s89.trans s90)))))))).seq (SqL.of upd_same)), Nat.zero_le _, trivial⟩
            · refine good1 (same_t (s4.trans (s45.trans (s56.trans (s7.trans (s78.trans (s89.trans s90)))))) e3') (rA.append (rA.take 1)) (by rw [List.length_append, List.length_take]; omega) fun e he => ?_
              exact base1 e ((List.mem_append.mp he).elim id List.mem_of_mem_take)
            · exact good1 (same_t (s45.trans (s56.trans (s7.trans (s78.trans (s89.trans s90))))) e4') (rA.drop 1) (by rw [List.length_drop]; omega) fun e he => base1 e (List.mem_of_mem_drop he)
            · exact good1 (same_t (s56.trans (s7.trans (s78.trans (s89.trans s90)))) (SqT.of upd_same)) rA.reverse (by rw [List.length_reverse]; omega) fun e he => base1 e (List.mem_reverse.mp he)
            · refine good1 (same_t (s78.trans (s89.trans s90)) e7') (rA.append (.cons (.str "zz") .nil)) (by rw [List.length_append]; show ds.length + 1 ≤ _; omega) fun e he => ?_
              rcases List.mem_append.mp he with he | he
              · exact base1 e he
              · rw [List.mem_singleton.mp he]
                exact ⟨Nat.zero_le _, (show 2 ≤ m + 5 by omega)⟩
            · refine good1 (same_t (s89.trans s90) (SqT.of upd_same)) (.cons (Av.same sA (.tup h r)) .nil) (by show 1 ≤ m + 1; omega) fun e he => ?_
              rw [List.mem_singleton.mp he]
              refine ⟨by show AD.deepAll ds + 1 ≤ n + 1; omega, AD.ok.up (w := m) (by omega) ⟨okt.1, okt.2⟩⟩
          · rw [List.length_append]
            omega
          · rw [List.length_append]
            show xs.length + 6 ≤ 60
            omega
      -- some = [..]
      obtain ⟨t1, h1, e1⟩ : ∃ t1, PSs (cxOf CX0 P w K mg base nBent "_law_bent" (defScope sBent) f cdv A outer s H E).nox ((defBody sBent).drop 1) t1 ∧ ∀ (y2 y3 : Option V) (H1 : Hp), But a H H1 → Hd H1 a (t + 1) → Av K H1 x d →
          t1 { nx := fun _ H' => Q .non H', rt := Q } [some (.ref a), some x, y2, y3] H1 := by
        refine ⟨_, pss_cons (ps_set (i := 3) scBent.nd rfl (.inl rfl) (pe_lst (pa_cons pe_non (pa_cons pe_bl (pa_cons pe_bl (pa_cons (pe_un un_neg pe_int) (pa_cons pe_int (pa_cons pe_int (pa_cons pe_int (pa_cons pe_int (pa_cons pe_str (pa_cons pe_str (pa_cons pe_str (pa_cons pe_str (pa_cons pe_str (pa_cons (pe_tup pa_nil) (pa_cons (pe_tup (pa_cons pe_str pa_nil)) (pa_cons (pe_lst (pa_cons pe_str pa_nil)) (pa_cons pe_dnewK (pa_cons (pe_tup (pa_cons (pe_tup pa_nil) pa_nil)) pa_nil)))))))))))))))))))) h2, ?_⟩
        intro y2 y3 H1 b1 hd1 av1
        refine ⟨1, rfl, Nat.zero_le _, fun p1 hp1 => ?_⟩
        have s1 := same_new hp1 (o := .tup [])
        refine ⟨(by show 1 ≤ sizeLine; decide), fun p2 hp2 => ?_⟩
        have s2 := same_new hp2 (o := .tup [.str "a"])
        refine ⟨(by show 1 ≤ sizeLine; decide), fun p3 hp3 => ?_⟩
        have s3 := same_new hp3 (o := .lst [.str "a"])
        refine fun p4 hp4 => ?_
        have s4 := same_new hp4 (o := .dK [])
        refine ⟨Nat.zero_le _, fun p5 hp5 => ?_⟩
        have s5 := same_new hp5 (o := .tup [])
        refine ⟨(by show 1 ≤ sizeLine; decide), fun p6 hp6 => ?_⟩
        have s6 := same_new hp6 (o := .tup [.ref p5])
        refine ⟨(by show 18 ≤ sizeLine; decide), fun l hl => ?_⟩
        have s7 := same_new hl (o := .lst [.non, .bl true, .bl false, .int (-1), .int 0, .int 1, .int 2, .int 1001, .str "", .str "a", .str "A", .str "a b", .str "abcdefghi", .ref p1, .ref p2, .ref p3, .ref p4, .ref p6])
        have s16 := s1.trans (s2.trans (s3.trans (s4.trans (s5.trans s6))))
        have sA := s16.trans s7
        refine e2 y2 l _ _ (b1.trans (same_but sA)) (same_hd sA hd1) upd_same ((same_hd s16 hd1).ne hl) ?_ (by show 0 < 18; decide) (by show 18 ≤ 40; decide) (av1.same sA)
        have i : ∀ z : Int, z.natAbs ≤ 1001 → (AD.int z).ok (3 * m + 2000) := fun z h => Nat.le_trans h (by omega)
        have st : ∀ z : Str, z.length ≤ 9 → (AD.str z).ok (3 * m + 2000) := fun z h => Nat.le_trans h (by omega)
        refine .cons .non (Nat.zero_le _) trivial (.cons (.bl _) (Nat.zero_le _) trivial (.cons (.bl _) (Nat.zero_le _) trivial (.cons (.int _) (Nat.zero_le _) (i _ (by decide)) (.cons (.int _) (Nat.zero_le _) (i _ (by decide)) (.cons (.int _) (Nat.zero_le _) (i _ (by decide)) (.cons (.int _) (Nat.zero_le _) (i _ (by decide)) (.cons (.int _) (Nat.zero_le _) (i _ (by decide))
          (.cons (.str _) (Nat.zero_le _) (st _ (by decide +kernel)) (.cons (.str _) (Nat.zero_le _) (st _ (by decide +kernel)) (.cons (.str _) (Nat.zero_le _) (st _ (by decide +kernel)) (.cons (.str _) (Nat.zero_le _) (st _ (by decide +kernel)) (.cons (.str _) (Nat.zero_le _) (st _ (by decide +kernel)) ?_))))))))))))
        have n1 : (AD.tup []).deep ≤ n + 2 := by show 0 + 1 ≤ n + 2; omega
        have n2 : (AD.tup [.str "a"]).deep ≤ n + 2 := by rw [one_deep]; show 0 + 1 ≤ n + 2; omega
        have n3 : (AD.tup [.tup []]).deep ≤ n + 2 := by rw [one_deep]; show 0 + 1 + 1 ≤ n + 2; omega
        refine .cons (.tup (same_t (s2.trans (s3.trans (s4.trans (s5.trans (s6.trans s7))))) (SqT.of upd_same)) .nil) n1 ⟨Nat.zero_le _, trivial⟩
          (.cons (.tup (same_t (s3.trans (s4.trans (s5.trans (s6.trans s7)))) (SqT.of upd_same)) (.cons (.str "a") .nil)) n2 ⟨by show 1 ≤ 3 * m + 2000; omega, st _ (by decide +kernel), trivial⟩
          (.cons (.lst ((s4.trans (s5.trans (s6.trans s7))).seq (SqL.of upd_same))) (Nat.zero_le _) trivial
          (.cons (.dct ((s5.trans (s6.trans s7)) _ _ upd_same)) (Nat.zero_le _) trivial
          (.cons (.tup (same_t s7 (SqT.of upd_same)) (.cons (.tup (same_t (s6.trans s7) (SqT.of upd_same)) .nil) .nil)) n3 ⟨by show 1 ≤ 3 * m + 2000; omega, ⟨Nat.zero_le _, trivial⟩, trivial⟩ .nil))))
      -- the first if
      refine ⟨_, pss_cons (ps_if (PW.pt (pw_and (pt_val (pe_callB call_isi (by rfl) T.isi (by decide +kernel) (pa_cons (pv 1) (pa_cons (pe_bltn (v := .ty "tuple") (by rfl) T.tup (by decide +kernel) rfl) pa_nil))))
            (pw_and (pt_cmpR (op_ne_nil hr.units0) (pv 1) (pe_tup pa_nil) (nomark _)) (pw_and1 (pt_cmpR op_gt (pe_call GT hr (by rfl) T.gT T.T.kp T.bT .nil pass0 (pa_cons (pv 0) (pa_cons pe_int pa_nil))) pe_int (nomark _))))))
          (pss_cons (ps_set (i := 2) scBent.nd rfl (.inl rfl) (pe_call GT hr (by rfl) T.gT T.T.kp T.bT .nil pass0 (pa_cons (pv 0) (pa_cons (pe_callB call_len (by rfl) T.len PySem.boot_len (pa_cons (pv 1) pa_nil)) pa_nil))))
          (pss_one (ps_ret (pe_op op_catA (pe_op op_catA (pe_slice sl_tupA (pv 1) po_none (po_some (pv 2))) (pe_tup (pa_cons (pe_call GB hr (by rfl) T.gB T.B.kp T.bB .nil pass0 (pa_cons (pv 0) (pa_cons (pe_ix ix_tup (pv 1) (pv 2) (fun _ _ => rfl)) pa_nil))) pa_nil))) (pe_slice sl_tupA (pv 1) (po_some (pe_op op_add (pv 2) pe_int)) po_none)))))
          pss_nil) h1, ?_⟩
      have b0 := But.refl a H
      have hd0 := hh.up (show t ≤ t + 1 by omega)
      cases av with
      | non => exact ⟨_, rfl, _, _, _, _, _, rfl, .ty "tuple", (Kd.non (K := K) (H := H)).ty, kit_ty (Kd.non (K := K) (H := H)).ktup, _, rfl, iteF (iteF (e1 none none H b0 hd0 .non))⟩
      | bl b => exact ⟨_, rfl, _, _, _, _, _, rfl, .ty "tuple", (Kd.bl (K := K) (H := H) b).ty, kit_ty (Kd.bl (K := K) (H := H) b).ktup, _, rfl, iteF (iteF (e1 none none H b0 hd0 (.bl b)))⟩
      | int i => exact ⟨_, rfl, _, _, _, _, _, rfl, .ty "tuple", (Kd.int (K := K) (H := H) i).ty, kit_ty (Kd.int (K := K) (H := H) i).ktup, _, rfl, iteF (iteF (e1 none none H b0 hd0 (.int i)))⟩
      | str z => exact ⟨_, rfl, _, _, _, _, _, rfl, .ty "tuple", (Kd.str (K := K) (H := H) z).ty, kit_ty (Kd.str (K := K) (H := H) z).ktup, _, rfl, iteF (iteF (e1 none none H b0 hd0 (.str z)))⟩
      | lst h => exact ⟨_, rfl, _, _, _, _, _, rfl, .ty "tuple", (Kd.lst h).ty, kit_ty (Kd.lst h).ktup, _, rfl, iteF (iteF (e1 none none H b0 hd0 (.lst h)))⟩
      | dct h => exact ⟨_, rfl, _, _, _, _, _, rfl, .ty "tuple", (Kd.dct (K := K) h).ty, kit_ty (Kd.dct (K := K) h).ktup, _, rfl, iteF (iteF (e1 none none H b0 hd0 (.dct h)))⟩
      | @tup b ys ds h r =>
        refine ⟨_, rfl, _, _, _, _, _, rfl, .ty "tuple", (Kd.tup h).ty, kit_ty (Kd.tup h).ktup, _, rfl, iteT ?_⟩
        refine ⟨.ref b, rfl, Nat.zero_le _, fun p hp => ?_⟩
        have s1 : Same H (upd H p (.tup [])) := same_new hp
        refine ⟨b, p, ys, rfl, rfl, same_t s1 h, SqT.of upd_same, _, rfl, ?_⟩
        have b1 := same_but (a := a) s1
        have hd1 := same_hd s1 hh
        have av1 := Av.same s1 (Av.tup h r)
        have hq1 := same_t s1 h
        generalize upd H p (.tup []) = H1 at b1 hd1 av1 hq1 s1 ⊢
        by_cases hy : ys = []
        · subst hy
          exact iteF (iteF (e1 none none H1 b1 (hd1.up (by omega)) av1))
        · have e0 : (!ys.isEmpty) = true := by
            cases ys with
            | nil => exact absurd rfl hy
            | cons _ _ => rfl
          rw [e0]
          refine iteT ?_
          refine ⟨.ref a, rfl, a, t, 4, rfl, hd1, by omega, by decide, by decide, fun H2 v2 sb2 hd2 _ _ => ?_⟩
          refine ⟨_, _, rfl, rfl, _, rfl, ite2 (fun h1 => ?_) (fun h1 => ?_)⟩
          · have okt : ds.length ≤ m ∧ AD.okAll m ds := ok
            have lys : ys.length ≤ m := by rw [r.len]; exact okt.1
            have l0 : 0 < ys.length := List.length_pos_iff.mpr hy
            have dpt : AD.deepAll ds + 1 < n + 1 := dp
            have dpe : ∀ d ∈ ds, d.deep ≤ AD.deepAll ds := deepAll_le.mp (Nat.le_refl _)
            have oke := okAll_iff.mp okt.2
            have h2 := but_t sb2 hd1 hq1
            refine ⟨.ref a, rfl, .ref b, rfl, _, ys.length, rfl, .inr ⟨_, h2, rfl⟩, a, t + 1, _, rfl, hd2, by omega, by omega, by omega, fun H3 v3 sb3 hd3 v0 v1 => ?_⟩
            obtain ⟨at', rfl⟩ := Int.eq_ofNat_of_zero_le v0
            have hat : at' < ys.length := by omega
            have h3 := but_t sb3 hd2 h2
            have gy : ys[at']? = some ys[at'] := List.getElem?_eq_getElem hat
            obtain ⟨de, gd, ave⟩ := r.get gy
            have dem := List.mem_of_getElem? gd
            refine ⟨.ref b, rfl, _, rfl, at', rfl, ?_⟩
            dsimp only
            refine slV_to h3 fun H4 p4 s4 e4' => ?_
            have b04 : But a H H4 := (b1.trans sb2).trans (sb3.trans (same_but s4))
            have hd4 := same_hd s4 hd3
            refine ⟨.ref a, rfl, .ref b, rfl, _, rfl, b, ys, at', _, rfl, rfl, same_t s4 h3, atI_nat gy, a, _, t + 2, m, de, rfl, hd4, by omega, ave.but b04 hh hd4, ?_, oke de dem, hm, fun H5 y5 d5 sb5 hd5 av5 dp5 ok5 => ?_⟩
            · have := dpe de dem
              omega
            refine ⟨(by show 1 ≤ sizeLine; decide), fun t6 ht6 => ?_⟩
            have s6 := same_new ht6 (o := .tup [y5])
            dsimp only
            refine catV_of (same_t s6 (but_t sb5 hd4 e4')) (SqT.of upd_same) (szM (by rw [List.length_take]; show _ + 1 ≤ _; omega)) fun H7 p7 s7 e7' => ?_
            have h5 := but_t sb5 hd4 (same_t s4 h3)
            refine ⟨.ref b, rfl, _, rfl, _, 1, rfl, rfl, ((at' + 1 : Nat) : Int), rfl, ?_⟩
            dsimp only [tNoPart]
            refine slV_from (same_t (s6.trans s7) h5) fun H8 p8 s8 e8' => ?_
            refine catV_of (same_t s8 e7') e8' (szM (by rw [List.length_append, List.length_take, List.length_drop]; show _ + 1 + _ ≤ _; omega)) fun H9 p9 s9 e9' => ?_
            have s59 := s6.trans (s7.trans (s8.trans s9))
            have b09 : But a H H9 := (b04.trans sb5).trans (same_but s59)
            have hd9 := same_hd s59 hd5
            have r9 := r.but b09 hh hd9
            refine q H9 (.ref p9) (.tup (ds.take at' ++ [d5] ++ ds.drop (at' + 1))) b09 (hd9.up (by omega)) (.tup e9' (((r9.take at').append (.cons (av5.same s59) .nil)).append (r9.drop (at' + 1)))) ?_ ?_
            · show AD.deepAll _ + 1 ≤ n + 1 + 1
              have : AD.deepAll (ds.take at' ++ [d5] ++ ds.drop (at' + 1)) ≤ n + 1 := deepAll_le.mpr fun e he => by
                rcases List.mem_append.mp he with he | he
                · rcases List.mem_append.mp he with he | he
                  · have := dpe e (List.mem_of_mem_take he)
                    omega
                  · rw [List.mem_singleton.mp he]
                    exact dp5
                · have := dpe e (List.mem_of_mem_drop he)
                  omega
              omega
            · refine ⟨?_, okAll_iff.mpr fun e he => ?_⟩
              · rw [List.length_append, List.length_append, List.length_take, List.length_drop]
                show _ + 1 + _ ≤ _
                omega
              · rcases List.mem_append.mp he with he | he
                · rcases List.mem_append.mp he with he | he
                  · exact (oke e (List.mem_of_mem_take he)).up (by omega)
                  · rw [List.mem_singleton.mp he]
                    exact ok5
                · exact (oke e (List.mem_of_mem_drop he)).up (by omega)
          · exact e1 none none H2 (b1.trans sb2) hd2 (av1.but sb2 hd1 hd2)
end
end M
namespace M
open PySem PySem.Spec PyProof.Rows L2 Gd RZ
/-- a walk over a tuple, whatever a turn asks -/
theorem walk_tup {K : PySem.W.Frag} {a : Addr} {xs : List V} {Qd : Hp → Prop} {Step : V → Hp → (Hp → Prop) → Prop} {H0 : Hp} (Pv : Nat → Hp → Prop) (h0 : Pv 0 H0) (hl : ∀ i H, i ≤ xs.length → Pv i H → SqT K H a xs)
    (hs : ∀ i x H, xs[i]? = some x → Pv i H → Step x H (Pv (i + 1))) (hd : ∀ H, Pv xs.length H → Qd H) :
    ∃ W : Nat → Nat → Hp → Prop, (∃ m, W 0 m H0) ∧ ∀ i m H, W i m H → ((Itt K a).stop i H ∧ Qd H) ∨ ((Itt K a).go i H ∧ ∃ Nx : Hp → Prop, (∀ H', Nx H' → ∃ m', m' < m ∧ W (i + 1) m' H') ∧ ∀ x H', (Itt K a).yld i H x H' → Step x H' Nx) := by
  refine ⟨fun i m H => (m + i = xs.length) ∧ Pv i H, ⟨xs.length, rfl, h0⟩, fun i m H h => ?_⟩
  obtain ⟨em, p⟩ := h
  have sq := hl i H (by omega) p
  rcases Nat.lt_or_ge i xs.length with lt | ge
  · refine Or.inr ⟨⟨xs, xs[i], sq, List.getElem?_eq_getElem lt⟩, Pv (i + 1), fun H' p' => ⟨m - 1, by omega, by omega, p'⟩, ?_⟩
    rintro x H' ⟨rfl, y⟩
    exact hs i x H' (y xs sq) p
  · have ei : i = xs.length := by omega
    rw [ei] at p
    exact Or.inl ⟨⟨xs, sq, by omega⟩, hd H p⟩
/-- a walk over two tuples at once, up to the end of the shorter -/
theorem walk_zip {K : PySem.W.Frag} {a b : Addr} {xs ys : List V} {n : Nat} {Qd : Hp → Prop} {Step : V → Hp → (Hp → Prop) → Prop} {H0 : Hp} (hn : n = min xs.length ys.length) (Pv : Nat → Hp → Prop) (h0 : Pv 0 H0) (hl : ∀ i H, Pv i H → SqT K H a xs ∧ SqT K H b ys)
    (hs : ∀ i x y H t, xs[i]? = some x → ys[i]? = some y → Pv i H → H t = none → Step (.ref t) (upd H t (.tup [x, y])) (Pv (i + 1))) (hd : ∀ H, Pv n H → Qd H) :
    ∃ W : Nat → Nat → Hp → Prop, (∃ m, W 0 m H0) ∧ ∀ i m H, W i m H → ((ItzT K a b).stop i H ∧ Qd H) ∨ ((ItzT K a b).go i H ∧ ∃ Nx : Hp → Prop, (∀ H', Nx H' → ∃ m', m' < m ∧ W (i + 1) m' H') ∧ ∀ x H', (ItzT K a b).yld i H x H' → Step x H' Nx) := by
  refine ⟨fun i m H => (m + i = n) ∧ Pv i H, ⟨n, rfl, h0⟩, fun i m H h => ?_⟩
  obtain ⟨em, p⟩ := h
  obtain ⟨sa, sb⟩ := hl i H p
  rcases Nat.lt_or_ge i n with lt | ge
  · have l1 : i < xs.length := by omega
    have l2 : i < ys.length := by omega
    refine Or.inr ⟨⟨xs, ys, xs[i], ys[i], sa, sb, List.getElem?_eq_getElem l1, List.getElem?_eq_getElem l2⟩, Pv (i + 1), fun H' p' => ⟨m - 1, by omega, by omega, p'⟩, ?_⟩
    rintro v H' ⟨t, x, y, rfl, ht, rfl, h1, h2⟩
    exact hs i x y H t (h1 xs sa) (h2 ys sb) p ht
  · have ei : i = n := by omega
    rw [ei] at p
    refine Or.inl ⟨⟨xs, ys, sa, sb, by omega⟩, hd H p⟩
end M
namespace M
open PySem PySem.Spec PyProof.Rows L2 Gd RZ
/-! ### what a schedule is, of trees -/
def withinD (d : AD) (lo hi : Int) : Bool := match d with
  | .int i => decide (lo ≤ i) && decide (i ≤ hi)
  | _ => false
def fstD (d : AD) : Int := match d with
  | .tup (.int i :: _) => i
  | _ => 0
def intD (d : AD) : Int := match d with
  | .int i => i
  | _ => 0
def reqD (L : Nat) (d : AD) : Bool := match d with
  | .tup [a, b] => withinD a 0 (L - 1) && withinD b 0 1000
  | _ => false
def upD (ds : List AD) : Bool := (ds.zip (ds.drop 1)).all fun p => decide (fstD p.1 ≤ fstD p.2)
def schedL (L : Nat) (ds : List AD) : Bool := ds.all (reqD L) && upD ds
def schedD (L : Nat) (d : AD) : Bool := match d with
  | .tup ds => schedL L ds
  | _ => false
def stepD (L : Nat) (last : Int) (d : AD) : Bool := match d with
  | .tup [a, b] => withinD a last (L - 1) && withinD b 0 1000
  | _ => false
def dueD (L : Nat) : List AD → Int → Bool
  | [], _ => true
  | d :: ds, last => stepD L last d && dueD L ds (fstD d)
theorem within_av {K : PySem.W.Frag} {H : Hp} {x : V} {d : AD} (h : Av K H x d) (lo hi : Int) : within x lo hi = withinD d lo hi := by
  cases h <;> rfl
theorem req_int {L : Nat} {d : AD} (h : reqD L d = true) : ∃ (i : Int) (b : AD), d = .tup [.int i, b] ∧ 0 ≤ i ∧ withinD b 0 1000 = true ∧ i ≤ L - 1 := by
  cases d with
  | tup ds =>
    match ds, h with
    | [a, b], h =>
      have h : (withinD a 0 (L - 1) && withinD b 0 1000) = true := h
      rw [Bool.and_eq_true] at h
      cases a with
      | int i =>
        have h1 : (decide (0 ≤ i) && decide (i ≤ (L : Int) - 1)) = true := h.1
        rw [Bool.and_eq_true, decide_eq_true_eq, decide_eq_true_eq] at h1
        exact ⟨i, b, rfl, h1.1, h.2, h1.2⟩
      | _ => exact absurd h.1 Bool.false_ne_true
    | [], h => exact absurd h Bool.false_ne_true
    | [_], h => exact absurd h Bool.false_ne_true
    | _ :: _ :: _ :: _, h => exact absurd h Bool.false_ne_true
  | _ => exact absurd h Bool.false_ne_true
theorem step_int {L : Nat} {d : AD} {last : Int} (h : stepD L last d = true) : ∃ (i : Int) (b : AD), d = .tup [.int i, b] ∧ last ≤ i ∧ withinD b 0 1000 = true ∧ i ≤ L - 1 := by
  cases d with
  | tup ds =>
    match ds, h with
    | [a, b], h =>
      have h : (withinD a last (L - 1) && withinD b 0 1000) = true := h
      rw [Bool.and_eq_true] at h
      cases a with
      | int i =>
        have h1 : (decide (last ≤ i) && decide (i ≤ (L : Int) - 1)) = true := h.1
        rw [Bool.and_eq_true, decide_eq_true_eq, decide_eq_true_eq] at h1
        exact ⟨i, b, rfl, h1.1, h.2, h1.2⟩
      | _ => exact absurd h.1 Bool.false_ne_true
    | [], h => exact absurd h Bool.false_ne_true
    | [_], h => exact absurd h Bool.false_ne_true
    | _ :: _ :: _ :: _, h => exact absurd h Bool.false_ne_true
  | _ => exact absurd h Bool.false_ne_true
theorem step_iff {L : Nat} {d : AD} {last : Int} (h0 : 0 ≤ last) : stepD L last d = true ↔ reqD L d = true ∧ last ≤ fstD d := by
  constructor
  · intro h
    obtain ⟨i, b, rfl, h1, h2, h3⟩ := step_int h
    refine ⟨?_, h1⟩
    show ((decide (0 ≤ i) && decide (i ≤ (L : Int) - 1)) && withinD b 0 1000) = true
    rw [decide_eq_true (by omega : 0 ≤ i), decide_eq_true h3, h2]
    rfl
  · rintro ⟨h, h4⟩
    obtain ⟨i, b, rfl, h1, h2, h3⟩ := req_int h
    have h4 : last ≤ i := h4
    show ((decide (last ≤ i) && decide (i ≤ (L : Int) - 1)) && withinD b 0 1000) = true
    rw [decide_eq_true h4, decide_eq_true h3, h2]
    rfl
theorem up_cons (d e : AD) (ds : List AD) : upD (d :: e :: ds) = (decide (fstD d ≤ fstD e) && upD (e :: ds)) := rfl
theorem due_iff {L : Nat} : ∀ (ds : List AD) (last : Int), 0 ≤ last → (dueD L ds last = true ↔ ds.all (reqD L) = true ∧ upD ds = true ∧ ∀ d, ds.head? = some d → last ≤ fstD d)
  | [], last, _ => ⟨fun _ => ⟨rfl, rfl, fun d h => (nomatch h)⟩, fun _ => rfl⟩
  | [d], last, h0 => by
    show (stepD L last d && true) = true ↔ (reqD L d && true) = true ∧ true = true ∧ _
    rw [Bool.and_true, Bool.and_true, step_iff h0]
    exact ⟨fun h => ⟨h.1, rfl, fun e he => by cases he; exact h.2⟩, fun h => ⟨h.1, h.2.2 d rfl⟩⟩
  | d :: e :: ds, last, h0 => by
    show (stepD L last d && dueD L (e :: ds) (fstD d)) = true ↔ (reqD L d && (e :: ds).all (reqD L)) = true ∧ upD (d :: e :: ds) = true ∧ _
    rw [up_cons, Bool.and_eq_true, Bool.and_eq_true, Bool.and_eq_true, step_iff h0, decide_eq_true_eq]
    constructor
    · rintro ⟨⟨h1, h2⟩, h3⟩
      obtain ⟨i, b, rfl, g1, _, _⟩ := req_int h1
      obtain ⟨h4, h5, h6⟩ := (due_iff (e :: ds) _ g1).mp h3
      exact ⟨⟨h1, h4⟩, ⟨h6 e rfl, h5⟩, fun x hx => by cases hx; exact h2⟩
    · rintro ⟨⟨h1, h4⟩, ⟨h6, h5⟩, h7⟩
      obtain ⟨i, b, rfl, g1, _, _⟩ := req_int h1
      exact ⟨⟨h1, h7 _ rfl⟩, (due_iff (e :: ds) _ g1).mpr ⟨h4, h5, fun x hx => by cases hx; exact h6⟩⟩
theorem due_sched {L : Nat} (ds : List AD) : dueD L ds 0 = schedL L ds := by
  rw [Bool.eq_iff_iff, due_iff ds 0 (Int.le_refl 0)]
  unfold schedL
  rw [Bool.and_eq_true]
  refine ⟨fun h => ⟨h.1, h.2.1⟩, fun h => ⟨h.1, h.2, fun d hd => ?_⟩⟩
  have : reqD L d = true := List.all_eq_true.mp h.1 d (List.mem_of_mem_head? hd)
  obtain ⟨i, b, rfl, g1, _, _⟩ := req_int this
  exact g1
theorem AvAll.two {K : PySem.W.Frag} {H : Hp} : ∀ {ys : List V} {ds : List AD}, AvAll K H ys ds → ys.length = 2 → ∃ y1 y2 d1 d2, ys = [y1, y2] ∧ ds = [d1, d2] ∧ Av K H y1 d1 ∧ Av K H y2 d2
  | _, _, .nil, h => (nomatch h)
  | _, _, .cons _ .nil, h => (nomatch h)
  | _, _, .cons a (.cons b .nil), _ => ⟨_, _, _, _, rfl, rfl, a, b⟩
  | _, _, .cons _ (.cons _ (.cons _ _)), h => absurd h (by intro z; simp at z)
/-! ### is_request -/
abbrev sReq : Stmt := topS 5
theorem scReq : FnScope ["history", "value"] ["history", "value"] (defScope sReq) := ⟨rfl, rfl, rfl, by decide +kernel, rfl, by decide +kernel, by decide +kernel⟩
def spReq (K : PySem.W.Frag) : Sp := fun vs H Q _ => ∃ (h : Addr) (L : Nat) (x : V) (d : AD), vs = [.ref h, x] ∧ LenV K (.ref h) H L ∧ Av K H x d ∧ Q (.bl (reqD L d)) H
section
variable {P : Program} {w : World} {K : PySem.W.Frag} {mg : Str → Option Value} {base : Heap}
theorem ok_req {f fA : Addr} {fd fdA : FuncData} {k : Nat} {tk : Tok} (F : Fun K "is_request" "is_request" sReq f fd) (FA : Fun K "is_integer_within" "is_integer_within" sWithin fA fdA) (bA : Binds K fdA ["value", "low", "high"] []) (gA : mg "is_integer_within" = some (.ref fA))
    (mi : mg "isinstance" = none) (mb : mg "bool" = none) (mint : mg "int" = none) (mt : mg "tuple" = none) (ml : mg "len" = none) (mC : mg "MOST_COUNT" = some (.int 1000 tk)) : FnOk P w K mg base CX0 (k + 2) f fd ["history", "value"] (spReq K) := by
  have GA : FnOk P w K mg base CX0 (k + 1) fA fdA ["value", "low", "high"] (spWithin K) := ok_within FA mi mb mint
  refine F.ok scReq (fun vs H Q E h => ?_) (fun cdv A outer s H vs Q E hr h => ?_)
  · obtain ⟨h, L, x, d, rfl, _⟩ := h
    rfl
  · obtain ⟨h, L, x, d, rfl, hL, av, q⟩ := h
    refine ⟨_, pss_cons (ps_if (PW.pt (pw_or (pt_not (pt_val (pe_callB call_isi (by rfl) mi (by decide +kernel) (pa_cons (pv 1) (pa_cons (pe_bltn (v := .ty "tuple") (by rfl) mt (by decide +kernel) rfl) pa_nil)))))
        (pw_or1 (pt_cmpR op_ne (pe_callB call_len (by rfl) ml PySem.boot_len (pa_cons (pv 1) pa_nil)) pe_int (nomark _)))))
        (pss_one (ps_ret pe_bl)) pss_nil)
      (pss_one (ps_ret (pe_and (pe_call GA hr (by rfl) gA FA.kp bA .nil pass0 (pa_cons (pe_ix ix_tup (pv 1) pe_int (fun _ _ => rfl)) (pa_cons pe_int (pa_cons (pe_op op_sub (pe_callB call_len (by rfl) ml PySem.boot_len (pa_cons (pv 0) pa_nil)) pe_int) pa_nil))))
        (pe_one (pe_call GA hr (by rfl) gA FA.kp bA .nil pass0 (pa_cons (pe_ix ix_tup (pv 1) pe_int (fun _ _ => rfl)) (pa_cons pe_int (pa_cons (pe_glob (v := .int 1000) (by rfl) mC ⟨_, rfl⟩) pa_nil)))))))), ?_⟩
    obtain ⟨T, kd, kt, _⟩ := av.kd2
    refine ⟨_, rfl, x, _, _, _, _, rfl, .ty "tuple", kd.ty, kit_ty kt, _, rfl, ?_⟩
    cases av with
    | non => exact iteT (iteT q)
    | bl b => exact iteT (iteT q)
    | int i => exact iteT (iteT q)
    | str z => exact iteT (iteT q)
    | lst hl => exact iteT (iteT q)
    | dct hl => exact iteT (iteT q)
    | @tup b ys ds h r =>
      refine iteF ?_
      refine ⟨_, rfl, _, ys.length, rfl, .inr ⟨_, h, rfl⟩, rfl, _, rfl, ?_⟩
      by_cases e : ys.length = 2
      · have n : (V.int ((ys.length : Nat) : Int) = V.int 2) := by rw [e]; rfl
        refine iteNS n ?_
        obtain ⟨y1, y2, d1, d2, rfl, rfl, a1, a2⟩ := r.two e
        obtain ⟨T1, k1⟩ := a1.kd
        obtain ⟨T2, k2⟩ := a2.kd
        have e : reqD L (.tup [d1, d2]) = (within y1 0 (L - 1) && within y2 0 1000) := by
          rw [within_av a1, within_av a2]
          rfl
        rw [e] at q
        refine ⟨.ref b, rfl, b, _, 0, _, rfl, rfl, h, rfl, _, rfl, _, L, rfl, hL, _, 1, rfl, rfl, _, T1, 0, _, rfl, k1, _, rfl, ite2 (fun h1 => ?_) (fun h1 => ?_)⟩
        · refine ⟨.ref b, rfl, b, _, 1, _, rfl, rfl, h, rfl, _, T2, 0, _, rfl, k2, ?_⟩
          rw [h1, Bool.true_and] at q
          exact q
        · rw [Bool.eq_false_iff.mpr h1, Bool.false_and] at q
          exact q
      · have n : ¬ (V.int ((ys.length : Nat) : Int) = V.int 2) := fun z => e (by injection z with z; omega)
        rw [decide_eq_false n]
        refine iteT ?_
        have e2 : reqD L (.tup ds) = false := by
          have l := r.len
          match ds, l with
          | [], _ => rfl
          | [_], _ => rfl
          | [_, _], l => exact absurd l e
          | _ :: _ :: _ :: _, _ => rfl
        rw [e2] at q
        exact q
end
/-! ### is_schedule -/
abbrev sSch : Stmt := topS 4
abbrev nSch : List Str := ["history", "value", "pair", "one", "other"]
theorem scSch : FnScope nSch ["history", "value"] (defScope sSch) := ⟨rfl, rfl, rfl, by decide +kernel, rfl, by decide +kernel, by decide +kernel⟩
def spSch (K : PySem.W.Frag) : Sp := fun vs H Q _ => ∃ (h : Addr) (L : Nat) (x : V) (d : AD), vs = [.ref h, x] ∧ (∀ H', Same H H' → LenV K (.ref h) H' L) ∧ Av K H x d ∧ d.ok 10000000 ∧ ∀ H', Same H H' → Q (.bl (schedD L d)) H'
def upB (ds : List AD) : List Bool := (ds.zip (ds.drop 1)).map fun p => decide (fstD p.1 ≤ fstD p.2)
theorem upB_all (ds : List AD) : (upB ds).all id = upD ds := by
  unfold upB upD
  rw [List.all_map]
  rfl
section
variable {P : Program} {w : World} {K : PySem.W.Frag} {mg : Str → Option Value} {base : Heap}
theorem ok_sch {f fR : Addr} {fd fdR : FuncData} {k : Nat} (F : Fun K "is_schedule" "is_schedule" sSch f fd) (FR : Fun K "is_request" "is_request" sReq fR fdR) (bR : Binds K fdR ["history", "value"] []) (gR : mg "is_request" = some (.ref fR)) (GR : FnOk P w K mg base CX0 (k + 2) fR fdR ["history", "value"] (spReq K))
    (mi : mg "isinstance" = none) (mt : mg "tuple" = none) (ma : mg "all" = none) (mz : mg "zip" = none) : FnOk P w K mg base CX0 (k + 3) f fd ["history", "value"] (spSch K) := by
  refine F.ok scSch (fun vs H Q E h => ?_) (fun cdv A outer s H vs Q E hr h => ?_)
  · obtain ⟨h, L, x, d, rfl, _⟩ := h
    rfl
  · obtain ⟨h, L, x, d, rfl, hL, av, ok, q⟩ := h
    refine ⟨_, pss_cons (ps_if (pt_not (pt_val (pe_callB call_isi (by rfl) mi (by decide +kernel) (pa_cons (pv 1) (pa_cons (pe_bltn (v := .ty "tuple") (by rfl) mt (by decide +kernel) rfl) pa_nil)))))
        (pss_one (ps_ret pe_bl)) pss_nil)
      (pss_cons (ps_if (pt_not (pt_val (pe_callB (cr_all rfl) (by rfl) ma (by decide +kernel) (pa_cons (pe_lc (own := [("pair", 2)]) (g := gName 2) (tt := tYes) (te := tCall (spReq K) [] E0 (tCons (tVar 0) (tCons (tVar 2) tNil))) rfl scSch.nd (pi_tup (pv 1))
          (blkOk_by (own := [("pair", 2)]) (N := nSch) (sc := defScope sSch) (by decide +kernel)) (fun _ _ _ _ _ => pg_name (i := 2) scSch.nd rfl (.inl rfl)) (fun _ _ _ _ _ => pts_nil) (fun _ _ _ _ _ => pe_call GR hr (by rfl) gR FR.kp bR .nil pass0 (pa_cons (pv 0) (pa_cons (pv 2) pa_nil)))) pa_nil))))
        (pss_one (ps_ret pe_bl)) pss_nil)
      (pss_one (ps_ret (pe_callB (cr_all rfl) (by rfl) ma (by decide +kernel) (pa_cons (pe_lc (own := [("one", 3), ("other", 4)]) (g := gTup K 2 (gCons (gName 3) (gCons (gName 4) gNil))) (tt := tYes) (te := tOp (rI0 fun i j => .bl (decide (i ≤ j))) (tOp (rIxT K) (tVar 3) (tC (.int 0))) (tOp (rIxT K) (tVar 4) (tC (.int 0)))) rfl scSch.nd
          (pi_zipA (by rfl) mz (pa_cons (pv 1) (pa_cons (pe_slice sl_tupA (pv 1) (po_some pe_int) po_none) pa_nil)))
          (blkOk_by (own := [("one", 3), ("other", 4)]) (N := nSch) (sc := defScope sSch) (by decide +kernel)) (fun _ _ _ _ _ => pg_tup (by rfl) (pgs_cons (pg_name (i := 3) scSch.nd rfl (.inl rfl)) (pgs_cons (pg_name (i := 4) scSch.nd rfl (.inl rfl)) pgs_nil))) (fun _ _ _ _ _ => pts_nil) (fun _ _ _ _ _ => pe_cmpR op_le (pe_ix ix_tup (pv 3) pe_int (fun _ _ => rfl)) (pe_ix ix_tup (pv 4) pe_int (fun _ _ => rfl)) (nomark _))) pa_nil))))), ?_⟩
    have qH := q H (Same.refl H)
    obtain ⟨T, kd, kt, _⟩ := av.kd2
    refine ⟨_, rfl, x, _, _, _, _, rfl, .ty "tuple", kd.ty, kit_ty kt, _, rfl, ?_⟩
    cases av with
    | non => exact iteT qH
    | bl b => exact iteT qH
    | int i => exact iteT qH
    | str z => exact iteT qH
    | lst hl => exact iteT qH
    | dct hl => exact iteT qH
    | @tup b ys ds hb r =>
      refine iteF ?_
      have okd : ds.length ≤ 10000000 ∧ AD.okAll 10000000 ds := ok
      have ln := r.len
      refine ⟨.ref b, rfl, b, rfl, ⟨_, hb⟩, fun D hD => walk_tup (xs := ys) (fun i H' => Same H H' ∧ H' D = some (.lst (((ds.take i).map (reqD L)).map V.bl))) ⟨same_new hD, upd_same⟩ (fun i H' _ hP => same_t hP.1 hb) (fun i x H' hx hP => ?_) (fun H' hP => ?_)⟩
      · obtain ⟨p1, p2⟩ := hP
        obtain ⟨dx, gx, ax⟩ := r.get hx
        have hi : i < ds.length := (List.getElem?_eq_some_iff.mp gx).1
        refine ⟨rfl, lc_yes ?_⟩
        refine ⟨_, rfl, _, rfl, h, L, x, dx, rfl, hL H' p1, ax.same p1, _, p2, ?_, same_own p1 hD, ?_⟩
        · rw [List.length_map, List.length_map, List.length_take]
          exact Nat.lt_of_le_of_lt (show min i ds.length ≤ 10000000 by omega) (by decide)
        · rw [upd_same, List.take_add_one, gx, List.map_append, List.map_append]
          rfl
      · obtain ⟨p1, p2⟩ := hP
        rw [ln, List.take_length] at p2
        refine ⟨D, _, rfl, SqL.of p2, _, rfl, ?_⟩
        rw [List.all_map]
        show if (!ds.all (reqD L)) = true then _ else _
        by_cases ha : ds.all (reqD L) = true
        · rw [ha]
          refine iteF ?_
          refine ⟨.ref b, rfl, .ref b, rfl, 1, rfl, ?_⟩
          dsimp only [tNoPart]
          refine slV_from (c := 1) (same_t p1 hb) fun H2 t2 s2 e2 => ?_
          have hb2 := same_t (p1.trans s2) hb
          refine ⟨b, t2, ys, ys.drop 1, rfl, .inr ⟨hb2, e2, fun D2 hD2 => walk_zip (n := ds.length - 1) (by rw [List.length_drop, ln]; omega) (fun i H' => Same H2 H' ∧ H' D2 = some (.lst (((upB ds).take i).map V.bl))) ⟨same_new hD2, upd_same⟩ (fun i H' hP => ⟨same_t hP.1 hb2, same_t hP.1 e2⟩) (fun i x y H' t hx hy hP ht => ?_) (fun H' hP => ?_)⟩⟩
          · obtain ⟨q1, q2⟩ := hP
            have r2 := r.same (p1.trans (s2.trans (q1.trans (same_new ht (o := .tup [x, y])))))
            obtain ⟨dx, gx, ax⟩ := r2.get hx
            obtain ⟨dy, gy, ay⟩ := (r2.drop 1).get hy
            obtain ⟨i1, b1, rfl, _⟩ := req_int (List.all_eq_true.mp ha dx (List.mem_of_getElem? gx))
            obtain ⟨i2, b2, rfl, _⟩ := req_int (List.all_eq_true.mp ha dy (List.mem_of_mem_drop (List.mem_of_getElem? gy)))
            have gz : (upB ds)[i]? = some (decide (i1 ≤ i2)) := by
              unfold upB
              rw [List.getElem?_map, List.zip, List.getElem?_zipWith, gx, gy]
              rfl
            have lu : (upB ds).length ≤ 10000000 := by
              unfold upB
              rw [List.length_map, List.length_zip, List.length_drop]
              omega
            cases ax with
            | @tup c1 z1 _ hc1 rc1 =>
              cases ay with
              | @tup c2 z2 _ hc2 rc2 =>
                cases rc1 with
                | cons k1 _ =>
                  cases rc2 with
                  | cons k2 _ =>
                    cases k1
                    cases k2
                    refine ⟨t, _, rfl, SqT.of upd_same, rfl, _, _, rfl, _, _, rfl, rfl, rfl, lc_yes ?_⟩
                    have e3 : (upd H' t (.tup [.ref c1, .ref c2])) D2 = some (.lst (((upB ds).take i).map V.bl)) := by
                      rw [upd_ne (ne_of_none q2 ht)]
                      exact q2
                    refine ⟨_, rfl, c1, _, ((0 : Nat) : Int), _, rfl, rfl, hc1, atI_nat rfl, _, rfl, c2, _, ((0 : Nat) : Int), _, rfl, rfl, hc2, atI_nat rfl, _, _, rfl, rfl, _, e3, ?_, ?_, ?_⟩
                    · rw [List.length_map, List.length_take]
                      exact Nat.lt_of_le_of_lt (show min i (upB ds).length ≤ 10000000 by omega) (by decide)
                    · exact same_own (q1.trans (same_new ht)) hD2
                    · rw [upd_same, List.take_add_one, gz, List.map_append]
                      rfl
          · obtain ⟨q1, q2⟩ := hP
            have lu : (upB ds).length = ds.length - 1 := by
              unfold upB
              rw [List.length_map, List.length_zip, List.length_drop]
              omega
            rw [← lu, List.take_length] at q2
            refine ⟨D2, _, rfl, SqL.of q2, ?_⟩
            have z := q H' (p1.trans (s2.trans q1))
            have e : schedD L (.tup ds) = (upB ds).all id := by
              rw [upB_all]
              show (ds.all (reqD L) && upD ds) = _
              rw [ha, Bool.true_and]
            rw [e] at z
            exact z
        · have ha := Bool.eq_false_iff.mpr ha
          rw [ha]
          refine iteT ?_
          have e : schedD L (.tup ds) = false := by
            show (ds.all (reqD L) && upD ds) = _
            rw [ha, Bool.false_and]
          have z := q H' p1
          rw [e] at z
          exact z
end
end M
namespace M
open PySem PySem.Spec PyProof.Rows L2 Gd
/-! ### is_whole -/
abbrev sWhole : Stmt := topS 15
theorem scWhole : FnScope ["_law_item", "_law_low", "_law_high"] ["_law_item", "_law_low", "_law_high"] (defScope sWhole) := ⟨rfl, rfl, rfl, by decide +kernel, rfl, by decide +kernel, by decide +kernel⟩
section
variable {P : Program} {w : World} {K : PySem.W.Frag} {mg : Str → Option Value} {base : Heap}
theorem ok_whole {f : Addr} {fd : FuncData} {k : Nat} (F : Fun K "_law_is_whole" "_law_is_whole" sWhole f fd) (mi : mg "isinstance" = none) (mb : mg "bool" = none) (mint : mg "int" = none) : FnOk P w K mg base CX0 (k + 1) f fd ["_law_item", "_law_low", "_law_high"] (spWithin K) := by
  refine F.ok scWhole (fun vs H Q E h => ?_) (fun cdv A outer s H vs Q E hr h => ?_)
  · obtain ⟨x, T, lo, hi, rfl, _⟩ := h
    rfl
  · obtain ⟨x, T, lo, hi, rfl, kd, q⟩ := h
    refine ⟨_, pss_one (ps_ret (pe_and (pe_callB call_isi (by rfl) mi (by decide +kernel) (pa_cons (pv 0) (pa_cons (pe_bltn (v := .ty "int") (by rfl) mint (by decide +kernel) rfl) pa_nil)))
        (pe_and (pe_not (pe_callB call_isi (by rfl) mi (by decide +kernel) (pa_cons (pv 0) (pa_cons (pe_bltn (v := .ty "bool") (by rfl) mb (by decide +kernel) rfl) pa_nil))))
          (pe_one (pe_chain op_le op_le (pv 1) (pv 0) (pv 2)))))), ?_⟩
    refine ⟨_, rfl, x, _, _, _, _, rfl, .ty "int", kd.ty, kit_ty kd.kint, _, rfl, ?_⟩
    cases kd with
    | bl b =>
      exact iteT ⟨_, rfl, _, _, _, _, _, rfl, .ty "bool", (Kd.bl (K := K) (H := H) b).ty, kit_ty (Kd.bl (K := K) (H := H) b).kbool, _, rfl, _, rfl, iteF q⟩
    | int i =>
      refine iteT ⟨_, rfl, _, _, _, _, _, rfl, .ty "bool", (Kd.int (K := K) (H := H) i).ty, kit_ty (Kd.int (K := K) (H := H) i).kbool, _, rfl, _, rfl, iteT ?_⟩
      refine ⟨_, rfl, _, rfl, _, _, rfl, rfl, _, rfl, ite2 (fun h1 => ?_) (fun h1 => ?_)⟩
      · refine ⟨_, rfl, _, _, rfl, rfl, ?_⟩
        have e : within (.int i) lo hi = decide (i ≤ hi) := by
          show (decide (lo ≤ i) && decide (i ≤ hi)) = _
          rw [h1, Bool.true_and]
        rw [e] at q
        exact q
      · have e : within (.int i) lo hi = false := by
          show (decide (lo ≤ i) && decide (i ≤ hi)) = _
          rw [Bool.eq_false_iff.mpr h1, Bool.false_and]
        rw [e] at q
        exact q
    | non => exact iteF q
    | str z => exact iteF q
    | lst h => exact iteF q
    | tup h => exact iteF q
    | dct h => exact iteF q
end
end M
namespace M
open PySem PySem.Spec PyProof.Rows L2 Gd
/-! ### due -/
abbrev sDue : Stmt := topS 16
abbrev nDue : List Str := ["_law_history_here", "_law_item", "_law_last", "_law_one"]
theorem scDue : FnScope nDue ["_law_history_here", "_law_item"] (defScope sDue) := ⟨rfl, rfl, rfl, by decide +kernel, rfl, by decide +kernel, by decide +kernel⟩
def spDue (K : PySem.W.Frag) : Sp := fun vs H Q _ => ∃ (h : Addr) (L : Nat) (x : V) (d : AD), vs = [.ref h, x] ∧ LenV K (.ref h) H L ∧ Av K H x d ∧ Q (.bl (schedD L d)) H
section
variable {P : Program} {w : World} {K : PySem.W.Frag} {mg : Str → Option Value} {base : Heap}
theorem ok_due {f fW : Addr} {fd fdW : FuncData} {k : Nat} (F : Fun K "_law_due" "_law_due" sDue f fd) (FW : Fun K "_law_is_whole" "_law_is_whole" sWhole fW fdW) (bW : Binds K fdW ["_law_item", "_law_low", "_law_high"] []) (gW : mg "_law_is_whole" = some (.ref fW))
    (mi : mg "isinstance" = none) (mb : mg "bool" = none) (mint : mg "int" = none) (mt : mg "tuple" = none) (ml : mg "len" = none) : FnOk P w K mg base CX0 (k + 2) f fd ["_law_history_here", "_law_item"] (spDue K) := by
  have GW : FnOk P w K mg base CX0 (k + 1) fW fdW ["_law_item", "_law_low", "_law_high"] (spWithin K) := ok_whole FW mi mb mint
  refine F.ok scDue (fun vs H Q E h => ?_) (fun cdv A outer s H vs Q E hr h => ?_)
  · obtain ⟨h, L, x, d, rfl, _⟩ := h
    rfl
  · obtain ⟨h, L, x, d, rfl, hL, av, q⟩ := h
    refine ⟨_, pss_cons (ps_if (pt_not (pt_val (pe_callB call_isi (by rfl) mi (by decide +kernel) (pa_cons (pv 1) (pa_cons (pe_bltn (v := .ty "tuple") (by rfl) mt (by decide +kernel) rfl) pa_nil)))))
        (pss_one (ps_ret pe_bl)) pss_nil)
      (pss_cons (ps_set (i := 2) scDue.nd rfl (.inl rfl) pe_int)
      (pss_cons (ps_for PassesOwn.never rfl (pi_tup (pv 1)) (pg_name (i := 3) scDue.nd rfl (.inl rfl))
        (pss_cons (ps_if (PW.pt (pw_or (pt_not (pt_val (pe_callB call_isi (by rfl) mi (by decide +kernel) (pa_cons (pv 3) (pa_cons (pe_bltn (v := .ty "tuple") (by rfl) mt (by decide +kernel) rfl) pa_nil)))))
            (pw_or (pt_cmpR op_ne (pe_callB call_len (by rfl) ml PySem.boot_len (pa_cons (pv 3) pa_nil)) pe_int (nomark _))
            (pw_or1 (pt_not (pt_val (pe_call GW hr (by rfl) gW FW.kp bW .nil pass0 (pa_cons (pe_ix ix_tup (pv 3) pe_int (fun _ _ => rfl)) (pa_cons (pv 2) (pa_cons (pe_op op_sub (pe_callB call_len (by rfl) ml PySem.boot_len (pa_cons (pv 0) pa_nil)) pe_int) pa_nil))))))))))
          (pss_one (ps_ret pe_bl)) pss_nil)
        (pss_cons (ps_if (pt_not (pt_val (pe_call GW hr (by rfl) gW FW.kp bW .nil pass0 (pa_cons (pe_ix ix_tup (pv 3) pe_int (fun _ _ => rfl)) (pa_cons pe_int (pa_cons pe_int pa_nil))))))
          (pss_one (ps_ret pe_bl)) pss_nil)
        (pss_one (ps_set (i := 2) scDue.nd rfl (.inl rfl) (pe_ix ix_tup (pv 3) pe_int (fun _ _ => rfl)))))))
      (pss_one (ps_ret pe_bl)))), ?_⟩
    obtain ⟨T, kd, kt, _⟩ := av.kd2
    refine ⟨_, rfl, x, _, _, _, _, rfl, .ty "tuple", kd.ty, kit_ty kt, _, rfl, ?_⟩
    cases av with
    | non => exact iteT q
    | bl b => exact iteT q
    | int i => exact iteT q
    | str z => exact iteT q
    | lst hl => exact iteT q
    | dct hl => exact iteT q
    | @tup b ys ds hb r =>
      refine iteF ?_
      have e0 : schedD L (.tup ds) = dueD L ds 0 := (due_sched ds).symm
      rw [e0] at q
      refine ⟨.ref b, rfl, b, rfl, ⟨_, hb⟩, for_tup (xs := ys) (fun i σ H' => ∃ (last : Int) (y : Option V), σ = [some (.ref h), some (.ref b), some (.int last), y] ∧ H' = H ∧ dueD L ds 0 = dueD L (ds.drop i) last)
        ⟨0, none, rfl, rfl, rfl⟩ (fun i σ H' _ hP => ?_) (fun i x σ H' hx hP => ?_) (fun σ H' hP => ?_)⟩
      · obtain ⟨_, _, _, rfl, _⟩ := hP
        exact hb
      · obtain ⟨last, y, rfl, rfl, p2⟩ := hP
        obtain ⟨dx, gx, ax⟩ := r.get hx
        have hi := (List.getElem?_eq_some_iff.mp gx).1
        have ed : ds.drop i = dx :: ds.drop (i + 1) := by
          rw [List.drop_eq_getElem_cons hi]
          congr 1
          exact (List.getElem?_eq_some_iff.mp gx).2
        rw [ed] at p2
        have p2 : dueD L ds 0 = (stepD L last dx && dueD L (ds.drop (i + 1)) (fstD dx)) := p2
        have no : stepD L last dx = false → Q (.bl false) H' := fun e => by
          rw [p2, e, Bool.false_and] at q
          exact q
        obtain ⟨T1, kd1, kt1, _⟩ := ax.kd2
        refine ⟨_, rfl, x, _, _, _, _, rfl, .ty "tuple", kd1.ty, kit_ty kt1, _, rfl, ?_⟩
        cases ax with
        | non => exact iteT (iteT (no rfl))
        | bl b => exact iteT (iteT (no rfl))
        | int i => exact iteT (iteT (no rfl))
        | str z => exact iteT (iteT (no rfl))
        | lst hl => exact iteT (iteT (no rfl))
        | dct hl => exact iteT (iteT (no rfl))
        | @tup c zs es hc rc =>
          refine iteF ?_
          refine ⟨_, rfl, _, zs.length, rfl, .inr ⟨_, hc, rfl⟩, rfl, _, rfl, ?_⟩
          by_cases e : zs.length = 2
          · have n : (V.int ((zs.length : Nat) : Int) = V.int 2) := by rw [e]; rfl
            refine iteNS n ?_
            obtain ⟨y1, y2, d1, d2, rfl, rfl, a1, a2⟩ := rc.two e
            obtain ⟨T1, k1⟩ := a1.kd
            obtain ⟨T2, k2⟩ := a2.kd
            have e2 : stepD L last (.tup [d1, d2]) = (within y1 last (L - 1) && within y2 0 1000) := by
              rw [within_av a1, within_av a2]
              rfl
            refine ⟨_, rfl, c, _, 0, _, rfl, rfl, hc, rfl, _, rfl, _, rfl, _, L, rfl, hL, _, 1, rfl, rfl, _, T1, last, _, rfl, k1, _, rfl, ?_⟩
            cases w1 : within y1 last (L - 1) with
            | false => exact iteT (no (by rw [e2, w1, Bool.false_and]))
            | true =>
              refine iteF ?_
              refine ⟨_, rfl, c, _, 1, _, rfl, rfl, hc, rfl, _, T2, 0, _, rfl, k2, _, rfl, ?_⟩
              cases w2 : within y2 0 1000 with
              | false => exact iteT (no (by rw [e2, w1, w2]; rfl))
              | true =>
                refine iteF ?_
                refine ⟨_, rfl, c, _, 0, _, rfl, rfl, hc, rfl, ?_⟩
                cases a1 with
                | int j =>
                  refine ⟨j, _, rfl, rfl, ?_⟩
                  rw [p2, e2, w1, w2]
                  rfl
                | _ => exact absurd w1 Bool.false_ne_true
          · have n : ¬ (V.int ((zs.length : Nat) : Int) = V.int 2) := fun z => e (by injection z with z; omega)
            rw [decide_eq_false n]
            refine iteT (iteT (no ?_))
            have l := rc.len
            match es, l with
            | [], _ => rfl
            | [_], _ => rfl
            | [_, _], l => exact absurd l e
            | _ :: _ :: _ :: _, _ => rfl
      · obtain ⟨last, y, rfl, rfl, p2⟩ := hP
        rw [p2, r.len, List.drop_length] at q
        exact q
end
end M
namespace M
open PySem PySem.Spec PyProof.Rows L2 Gd
/-! ### schedule -/
abbrev sSched : Stmt := topS 17
abbrev nSched : List Str := ["_law_hand_here", "_law_history_here", "_law_found", "_law_turn", "_law_nth"]
theorem scSched : FnScope nSched ["_law_hand_here", "_law_history_here"] (defScope sSched) := ⟨rfl, rfl, rfl, by decide +kernel, rfl, by decide +kernel, by decide +kernel⟩
def planA (pl : List (Int × Int)) : List AD := pl.map fun q => AD.tup [.int q.1, .int q.2]
def spSched (K : PySem.W.Frag) : Sp := fun vs H Q _ => ∃ (a h : Addr) (n : Nat) (hs : List (List Str)), vs = [.ref a, .ref h] ∧ Hd H a n ∧ n < 900000 ∧ HistAt K H h hs ∧ 0 < hs.length ∧ hs.length ≤ 100 ∧
  ∀ H' p pl, But a H H' → Hd H' a (n + 50) → H p = none → Av K H' (.ref p) (.tup (planA pl)) → pl.length ≤ 8 → (∀ q ∈ pl, 0 ≤ q.1 ∧ q.1 < hs.length ∧ 0 ≤ q.2 ∧ q.2 ≤ 1000) → (pl.map (·.1)).Pairwise (· ≤ ·) → Q (.ref p) H'
theorem pick_nat {v : V} {c : Int} (h : v ∈ [V.int 0, V.int 1, V.int 2, V.int 1000, V.int c]) (c0 : 0 ≤ c) (c1 : c < 1001) : ∃ c : Int, v = .int c ∧ 0 ≤ c ∧ c ≤ 1000 := by
  simp only [List.mem_cons, List.not_mem_nil, or_false] at h
  rcases h with rfl | rfl | rfl | rfl | rfl
  · exact ⟨0, rfl, by decide, by decide⟩
  · exact ⟨1, rfl, by decide, by decide⟩
  · exact ⟨2, rfl, by decide, by decide⟩
  · exact ⟨1000, rfl, by decide, by decide⟩
  · exact ⟨c, rfl, c0, by omega⟩
theorem HistAt.length {K : PySem.W.Frag} {H : Hp} {p : Addr} {hs : List (List Str)} (h : HistAt K H p hs) : LenV K (.ref p) H hs.length := by
  obtain ⟨xs, h1, h2⟩ := h
  exact .inr ⟨xs, h1, h2.len.symm⟩
theorem AvAll.snoc {K : PySem.W.Frag} {H : Hp} {xs : List V} {ds : List AD} {x : V} {d : AD} (h : AvAll K H xs ds) (hx : Av K H x d) : AvAll K H (xs ++ [x]) (ds ++ [d]) := h.append (.cons hx .nil)
section
variable {P : Program} {w : World} {K : PySem.W.Frag} {mg : Str → Option Value} {base : Heap}
theorem ok_sched {f fT fP : Addr} {fd fdT fdP : FuncData} {k : Nat} (F : Fun K "_law_schedule" "_law_schedule" sSched f fd) (FT : Fun K "_law_take" "_law_take" sTake fT fdT) (bT : Binds K fdT ["_law_hand_here", "_law_many"] []) (gT : mg "_law_take" = some (.ref fT))
    (FP : Fun K "_law_pick" "_law_pick" sPick fP fdP) (bP : Binds K fdP ["_law_hand_here", "_law_items"] []) (gP : mg "_law_pick" = some (.ref fP)) (ml : mg "len" = none) (mr : mg "range" = none) (mt : mg "tuple" = none) (ms : mg "sorted" = none) :
    FnOk P w K mg base CX0 (k + 3) f fd ["_law_hand_here", "_law_history_here"] (spSched K) := by
  have GT : FnOk P w K mg base CX0 (k + 2) fT fdT ["_law_hand_here", "_law_many"] spTake := ok_take FT
  have GP : FnOk P w K mg base CX0 (k + 2) fP fdP ["_law_hand_here", "_law_items"] spPick := ok_pick FP FT bT gT ml
  refine F.ok scSched (fun vs H Q E h => ?_) (fun cdv A outer s H vs Q E hr h => ?_)
  · obtain ⟨a, h, n, hs, rfl, _⟩ := h
    rfl
  · obtain ⟨a, h, n, hs, rfl, hh, hn, hA, h0, h1, q⟩ := h
    refine ⟨_, pss_cons (ps_set (i := 2) scSched.nd rfl (.inl rfl) (pe_callB cr_sorted (by rfl) ms (by decide +kernel) (pa_cons (pe_lc (own := [("_law_turn", 3)]) (g := gName 3) (tt := tYes) (te := tCall spTake [] E0 (tCons (tVar 0) (tCons (tCB (fun xs H Q => ∃ x n, xs = [x] ∧ LenV K x H n ∧ Q (.int n) H) (tCons (tVar 1) tNil)) tNil)))
          rfl scSched.nd (pi_range1 (by rfl) mr (pa_cons (pe_call GT hr (by rfl) gT FT.kp bT .nil pass0 (pa_cons (pv 0) (pa_cons pe_int pa_nil))) pa_nil)) (blkOk_by (own := [("_law_turn", 3)]) (N := nSched) (sc := defScope sSched) (by decide +kernel))
          (fun _ _ _ _ _ => pg_name (i := 3) scSched.nd rfl (.inl rfl)) (fun _ _ _ _ _ => pts_nil) (fun _ _ _ _ _ => pe_call GT hr (by rfl) gT FT.kp bT .nil pass0 (pa_cons (pv 0) (pa_cons (pe_callB call_len (by rfl) ml PySem.boot_len (pa_cons (pv 1) pa_nil)) pa_nil)))) pa_nil)))
      (pss_one (ps_ret (pe_callTy call_tuple_of (by rfl) mt (by decide +kernel) (pa_cons (pe_lc (own := [("_law_nth", 4)]) (g := gName 4) (tt := tYes) (te := tTup (tCons (tVar 4) (tCons (tCall spPick [] E0 (tCons (tVar 0) (tCons (tLst (tCons (tC (.int 0)) (tCons (tC (.int 1)) (tCons (tC (.int 2)) (tCons (tC (.int 1000)) (tCons (tCall spTake [] E0 (tCons (tVar 0) (tCons (tC (.int 1001)) tNil))) tNil)))))) tNil))) tNil)))
          rfl scSched.nd (pi_list (pv 2)) (blkOk_by (own := [("_law_nth", 4)]) (N := nSched) (sc := defScope sSched) (by decide +kernel)) (fun _ _ _ _ _ => pg_name (i := 4) scSched.nd rfl (.inl rfl)) (fun _ _ _ _ _ => pts_nil)
          (fun _ _ _ _ _ => pe_tup (pa_cons (pv 4) (pa_cons (pe_call GP hr (by rfl) gP FP.kp bP .nil pass0 (pa_cons (pv 0) (pa_cons (pe_lst (pa_cons pe_int (pa_cons pe_int (pa_cons pe_int (pa_cons pe_int (pa_cons (pe_call GT hr (by rfl) gT FT.kp bT .nil pass0 (pa_cons (pv 0) (pa_cons pe_int pa_nil))) pa_nil)))))) pa_nil))) pa_nil)))) pa_nil)))), ?_⟩
    -- the numbers
    refine ⟨.ref a, rfl, a, n, 9, rfl, hh, by omega, by decide, by decide, fun H1 t1 sb1 hd1 t0 t1' => ?_⟩
    obtain ⟨tn, rfl⟩ := Int.eq_ofNat_of_zero_le t0
    refine ⟨tn, rfl, by omega, by omega, fun D hD => lc_range (lo := 0) (n := tn) (fun i H' => But a H H' ∧ Hd H' a (n + 1 + i) ∧ ∃ is : List Int, H' D = some (.lst (is.map V.int)) ∧ is.length = i ∧ ∀ x ∈ is, 0 ≤ x ∧ x < hs.length) ⟨sb1.new hD, hd1.new hD, [], upd_same, rfl, fun x hx => (nomatch hx)⟩ (fun i H' hi hP => ?_) (fun H' hP => ?_)⟩
    · obtain ⟨p1, p2, is, p3, p4, p5⟩ := hP
      have nDa : D ≠ a := hd1.ne hD
      refine ⟨rfl, lc_yes ?_⟩
      refine ⟨.ref a, rfl, .ref h, rfl, _, hs.length, rfl, (hA.but p1 hh).length, a, n + 1 + i, _, rfl, p2, by omega, by omega, by omega, fun H3 v3 sb3 hd3 v0 v1 => ?_⟩
      have e3 := sb3 D _ nDa p3
      refine ⟨_, e3, ?_, (p1.trans sb3).own (fr sb1 hh hd1 hD), hd3.oth nDa, is ++ [v3], ?_, ?_, ?_⟩
      · rw [List.length_map]
        exact small1000 (by omega)
      · rw [upd_same, List.map_append]
        rfl
      · rw [List.length_append, List.length_singleton, p4]
      · intro x hx
        rcases List.mem_append.mp hx with hx | hx
        · exact p5 x hx
        · rw [List.mem_singleton.mp hx]
          exact ⟨v0, v1⟩
    · obtain ⟨p1, p2, is, p3, p4, p5⟩ := hP
      refine ⟨D, is, rfl, SqL.of p3, by omega, fun js g pm so hg => ?_⟩
      have b2 := p1.new (o := .lst (js.map V.int)) hg
      have hd2 := p2.new (o := .lst (js.map V.int)) hg
      have nga : g ≠ a := p2.ne hg
      have e2 : (upd H' g (.lst (js.map V.int))) g = some (.lst (js.map V.int)) := upd_same
      generalize upd H' g (.lst (js.map V.int)) = H2 at b2 hd2 e2 ⊢
      have hjs : ∀ x ∈ js, 0 ≤ x ∧ x < hs.length := fun x hx => p5 x (pm.subset hx)
      have ljs : js.length = tn := by rw [pm.length_eq, p4]
      -- the pairs
      refine ⟨.ref g, rfl, g, rfl, ⟨_, SqL.of e2⟩, fun D2 hD2 => lc_list (xs := js.map V.int) (fun i H' => But a H2 H' ∧ Hd H' a (n + 1 + tn + 2 * i) ∧ ∃ xs pl, H' D2 = some (.lst xs) ∧ AvAll K H' xs (planA pl) ∧ pl.map (·.1) = js.take i ∧ ∀ q ∈ pl, 0 ≤ q.1 ∧ q.1 < hs.length ∧ 0 ≤ q.2 ∧ q.2 ≤ 1000)
        ⟨(But.refl a H2).new hD2, hd2.new hD2, [], [], upd_same, .nil, rfl, fun q hq => (nomatch hq)⟩ (fun i H' _ hP => SqL.of (hP.1 g _ nga e2)) (fun i x H' hx hP => ?_) (fun H' hP => ?_)⟩
      · obtain ⟨p1, p2, xs, pl, p3, p4, p5, p6⟩ := hP
        have nDa : D2 ≠ a := hd2.ne hD2
        rw [List.getElem?_map] at hx
        obtain ⟨y, hy, rfl⟩ := Option.map_eq_some_iff.mp hx
        have hi : i < js.length := (List.getElem?_eq_some_iff.mp hy).1
        obtain ⟨y0, y1⟩ := hjs y (List.mem_of_getElem? hy)
        have lp : xs.length = i := by
          rw [p4.len]
          unfold planA
          have := congrArg List.length p5
          rw [List.length_map, List.length_take] at this
          rw [List.length_map]
          omega
        refine ⟨rfl, lc_yes ?_⟩
        refine ⟨_, rfl, .ref a, rfl, .ref a, rfl, a, n + 1 + tn + 2 * i, 1001, rfl, p2, by omega, by decide, by decide, fun H3 c3 sb3 hd3 c0 c1 => ?_⟩
        refine ⟨(by show 5 ≤ sizeLine; decide), fun l3 hl3 => ?_⟩
        refine ⟨a, n + 1 + tn + 2 * i + 1, .ref l3, rfl, hd3.new hl3, by omega, .inl ⟨l3, _, rfl, hd3.ne hl3, .inl upd_same, (by show 0 < 5; decide), (by show 5 ≤ 1000; decide), fun H4 v4 sb4 hd4 hv4 => ?_⟩⟩
        obtain ⟨c, rfl, hc0, hc1⟩ := pick_nat hv4 c0 c1
        refine ⟨(by show 2 ≤ sizeLine; decide), fun t ht => ?_⟩
        have b4 : But a H' H4 := sb3.trans (((But.refl a H3).new hl3).trans sb4)
        have e4 : H4 D2 = some (.lst xs) := b4 D2 _ nDa p3
        have e5 : (upd H4 t (.tup [.int y, .int c])) D2 = some (.lst xs) := by
          rw [upd_ne (ne_of_none e4 ht)]
          exact e4
        have hdt := hd4.new (o := .tup [.int y, .int c]) ht
        refine ⟨_, e5, ?_, ?_, hdt.oth nDa, xs ++ [.ref t], pl ++ [(y, c)], upd_same, ?_, ?_, ?_⟩
        · rw [lp]
          exact small1000 (by omega)
        · exact ((p1.trans b4).new ht).own hD2
        · have k4 : AvAll K (upd (upd H4 t (.tup [.int y, .int c])) D2 (.lst (xs ++ [.ref t]))) xs (planA pl) := by
            refine AvAll.keep (fun b zs z => ?_) (fun b zs z => upd_t e5 z) (fun b kvs z => ?_) _ ((p4.but b4 p2 hd4).same (same_new ht))
            · by_cases e : b = D2
              · rw [e]
                exact ⟨_, SqL.of upd_same⟩
              · rcases z with (z | ⟨o, z⟩) | z
                · exact ⟨zs, .inl (.inl (by rw [upd_ne e]; exact z))⟩
                · exact ⟨zs, .inl (.inr ⟨o, by rw [upd_ne e]; exact z⟩)⟩
                · exact ⟨zs, .inr z⟩
            · rw [upd_ne (fun e => by rw [e, e5] at z; cases z)]
              exact z
          have : planA (pl ++ [(y, c)]) = planA pl ++ [.tup [.int y, .int c]] := by
            unfold planA
            rw [List.map_append]
            rfl
          rw [this]
          exact k4.snoc (.tup (upd_t e5 (SqT.of upd_same)) (.cons (.int y) (.cons (.int c) .nil)))
        · rw [List.map_append, p5, List.take_add_one, hy]
          rfl
        · intro q hq
          rcases List.mem_append.mp hq with hq | hq
          · exact p6 q hq
          · rw [List.mem_singleton.mp hq]
            exact ⟨y0, y1, hc0, hc1⟩
      · obtain ⟨p1, p2, xs, pl, p3, p4, p5, p6⟩ := hP
        rw [List.length_map] at p2 p5
        rw [List.take_length] at p5
        refine ⟨D2, _, rfl, .inl ⟨SqL.of p3, fun t ht => ?_⟩⟩
        have b5 := b2.trans p1
        have lp : pl.length = js.length := by
          have := congrArg List.length p5
          rw [List.length_map] at this
          exact this
        refine q _ t pl (b5.new ht) ((p2.new ht).up (by omega)) (fr b5 hh p2 ht) (.tup (SqT.of upd_same) (p4.same (same_new ht))) (by omega) p6 ?_
        rw [p5]
        exact so
end
end M
namespace M
open PySem PySem.Spec PyProof.Rows L2 Gd
abbrev sLaw : Stmt := topS 18
abbrev nLaw : List Str := ["_law_script", "_law_k", "_law_hand_here", "_law_turn", "_law_history_here", "_law_good", "_law_many", "_law_some", "_law_once", "_law_bent_here", "_law_item"]
theorem scLaw : FnScope nLaw ["_law_script"] (defScope sLaw) := ⟨rfl, rfl, rfl, by decide +kernel, rfl, by decide +kernel, by decide +kernel⟩
def spLaw (K : PySem.W.Frag) : Sp := fun vs H Q _ => ∃ (a : Addr) (ns : List Int), vs = [.ref a] ∧ SqL K H a (ns.map V.int) ∧ ns.length ≤ 63 ∧ ∀ H', Q (.bl true) H'
structure Txt0 (K : PySem.W.Frag) (mg : Str → Option Value) (fH fT fP fN fS fC fI fB fW fD fQ fA fR fO : Addr) (dH dT dP dN dS dC dI dB dW dD dQ dA dR dO : FuncData) : Prop where
  H : Fun K "_law_hand" "_law_hand" sHand fH dH
  bH : Binds K dH ["_law_script", "_law_k"] []
  gH : mg "_law_hand" = some (.ref fH)
  T : Fun K "_law_take" "_law_take" sTake fT dT
  bT : Binds K dT ["_law_hand_here", "_law_many"] []
  gT : mg "_law_take" = some (.ref fT)
  P : Fun K "_law_pick" "_law_pick" sPick fP dP
  bP : Binds K dP ["_law_hand_here", "_law_items"] []
  gP : mg "_law_pick" = some (.ref fP)
  N : Fun K "_law_names" "_law_names" sNames fN dN
  bN : Binds K dN ["_law_hand_here", "_law_count"] []
  gN : mg "_law_names" = some (.ref fN)
  S : Fun K "_law_shuffled" "_law_shuffled" sShuf fS dS
  bS : Binds K dS ["_law_hand_here", "_law_items"] []
  gS : mg "_law_shuffled" = some (.ref fS)
  C : Fun K "_law_changed" "_law_changed" sChg fC dC
  bC : Binds K dC ["_law_hand_here", "_law_version", "_law_fresh"] []
  gC : mg "_law_changed" = some (.ref fC)
  I : Fun K "_law_history" "_law_history" sHist fI dI
  bI : Binds K dI ["_law_hand_here", "_law_most_rows", "_law_most_versions"] []
  gI : mg "_law_history" = some (.ref fI)
  B : Fun K "_law_bent" "_law_bent" sBent fB dB
  bB : Binds K dB ["_law_hand_here", "_law_item"] []
  gB : mg "_law_bent" = some (.ref fB)
  W : Fun K "_law_is_whole" "_law_is_whole" sWhole fW dW
  bW : Binds K dW ["_law_item", "_law_low", "_law_high"] []
  gW : mg "_law_is_whole" = some (.ref fW)
  D : Fun K "_law_due" "_law_due" sDue fD dD
  bD : Binds K dD ["_law_history_here", "_law_item"] []
  gD : mg "_law_due" = some (.ref fD)
  Q : Fun K "_law_schedule" "_law_schedule" sSched fQ dQ
  bQ : Binds K dQ ["_law_hand_here", "_law_history_here"] []
  gQ : mg "_law_schedule" = some (.ref fQ)
  A : Fun K "is_integer_within" "is_integer_within" sWithin fA dA
  bA : Binds K dA ["value", "low", "high"] []
  gA : mg "is_integer_within" = some (.ref fA)
  R : Fun K "is_request" "is_request" sReq fR dR
  bR : Binds K dR ["history", "value"] []
  gR : mg "is_request" = some (.ref fR)
  O : Fun K "is_schedule" "is_schedule" sSch fO dO
  bO : Binds K dO ["history", "value"] []
  gO : mg "is_schedule" = some (.ref fO)
  len : mg "len" = none
  abs : mg "abs" = none
  int : mg "int" = none
  rng : mg "range" = none
  lst : mg "list" = none
  tup : mg "tuple" = none
  rpr : mg "repr" = none
  max : mg "max" = none
  min : mg "min" = none
  srt : mg "sorted" = none
  isi : mg "isinstance" = none
  str : mg "str" = none
  bol : mg "bool" = none
  all : mg "all" = none
  zip : mg "zip" = none
  cMOST_COUNT : ∃ tk, mg "MOST_COUNT" = some (.int 1000 tk)
theorem but_same {H H1 H2 : Hp} {p : Addr} (s : Same H H1) (hp : H p = none) (b : But p H1 H2) : Same H H2 := fun c o e => b c o (ne_of_none e hp) (s c o e)
/-- repr of a bool -/
def rReprB : List V → Hp → VK → Prop := fun xs H Q => ∃ b : Bool, xs = [V.bl b] ∧ Q (.str (if b then "True" else "False")) H
theorem call_reprB {X : Cx} : CallR X (.builtin "repr") rReprB := by
  rintro pins s σ H xs us Q I r ⟨b, rfl, q⟩
  obtain ⟨u, rfl, rx⟩ := vals1 r
  cases (show u = Value.bool b from rx)
  refine PySem.P.repr_of_bool ⟨.str _, H, I.tok _, ⟨_, rfl⟩, ?_⟩
  cases b <;> exact q
section
variable {K : PySem.W.Frag} {H : Hp}
theorem Av.updL {l : Addr} {xs ys : List V} {x : V} {d : AD} (e : H l = some (.lst xs)) (h : Av K H x d) : Av K (upd H l (.lst ys)) x d := by
  refine Av.keep (fun b zs z => ?_) (fun b zs z => upd_t e z) (fun b kvs z => ?_) _ h
  · by_cases eb : b = l
    · rw [eb]
      exact ⟨_, SqL.of upd_same⟩
    · rcases z with (z | ⟨o, z⟩) | z
      · exact ⟨zs, .inl (.inl (by rw [upd_ne eb]; exact z))⟩
      · exact ⟨zs, .inl (.inr ⟨o, by rw [upd_ne eb]; exact z⟩)⟩
      · exact ⟨zs, .inr z⟩
  · rw [upd_ne (fun eb => by rw [eb, e] at z; cases z)]
    exact z
theorem GoodL.updL {l : Addr} {n w : Nat} {xs ys zs : List V} (e : H l = some (.lst xs)) (h : GoodL K H n w zs) : GoodL K (upd H l (.lst ys)) n w zs := fun y hy => by
  obtain ⟨d, h1, h2, h3⟩ := h y hy
  exact ⟨d, h1.updL e, h2, h3⟩
theorem GoodL.but {a : Addr} {n w t t' : Nat} {H' : Hp} {zs : List V} (b : But a H H') (h : Hd H a t) (h' : Hd H' a t') (g : GoodL K H n w zs) : GoodL K H' n w zs := fun y hy => by
  obtain ⟨d, h1, h2, h3⟩ := g y hy
  exact ⟨d, h1.but b h h', h2, h3⟩
theorem GoodL.new {p : Addr} {n w : Nat} {zs : List V} {o : HO} {d : AD} (hp : H p = none) (g : GoodL K H n w zs) (h : Av K (upd H p o) (.ref p) d) (h2 : d.deep ≤ n) (h3 : d.ok w) : GoodL K (upd H p o) n w (.ref p :: zs) := .cons h h2 h3 (g.same (same_new hp))
theorem GoodL.sub {n w : Nat} {xs zs : List V} (g : GoodL K H n w zs) (h : ∀ y ∈ xs, y ∈ zs) : GoodL K H n w xs := fun y hy => g y (h y hy)
/-- what is picked out of good ones -/
theorem GoodL.at {n w : Nat} {zs : List V} {x : V} (g : GoodL K H n w zs) (h : x ∈ zs) : ∃ d, Av K H x d ∧ d.deep ≤ n ∧ d.ok w := g x h
theorem GoodL.tup {p : Addr} {n w : Nat} {zs xs : List V} (hp : H p = none) (g : GoodL K H (n + 1) w zs) (gx : GoodL K H n w xs) (hl : xs.length ≤ w) : GoodL K (upd H p (.tup xs)) (n + 1) w (.ref p :: zs) := by
  have : ∃ ds, AvAll K H xs ds ∧ (∀ d ∈ ds, d.deep ≤ n) ∧ (∀ d ∈ ds, d.ok w) := by
    clear hl
    induction xs with
    | nil => exact ⟨[], .nil, fun d hd => (nomatch hd), fun d hd => (nomatch hd)⟩
    | cons x xs ih =>
      obtain ⟨ds, h1, h2, h3⟩ := ih fun y hy => gx y (List.mem_cons_of_mem _ hy)
      obtain ⟨d, k1, k2, k3⟩ := gx x List.mem_cons_self
      exact ⟨d :: ds, .cons k1 h1, List.forall_mem_cons.mpr ⟨k2, h2⟩, List.forall_mem_cons.mpr ⟨k3, h3⟩⟩
  obtain ⟨ds, h1, h2, h3⟩ := this
  refine GoodL.new hp g (.tup (SqT.of upd_same) (h1.same (same_new hp))) (d := .tup ds) ?_ ⟨?_, okAll_iff.mpr h3⟩
  · show AD.deepAll ds + 1 ≤ n + 1
    exact Nat.succ_le_succ (deepAll_le.mpr h2)
  · rw [← h1.len]
    exact hl
end
theorem oki {w : Nat} {i : Int} (h : i.natAbs ≤ w) : (AD.int i).ok w := h
theorem deepLe {d : AD} {n : Nat} (h : Nat.ble d.deep n = true) : d.deep ≤ n := Nat.le_of_ble_eq_true h
theorem plan_deep (pl : List (Int × Int)) : (AD.tup (planA pl)).deep ≤ 2 := by
  show AD.deepAll (planA pl) + 1 ≤ 2
  refine Nat.succ_le_succ (deepAll_le.mpr fun d hd => ?_)
  obtain ⟨q, _, rfl⟩ := List.mem_map.mp hd
  exact Nat.le_refl 1
theorem plan_ok {pl : List (Int × Int)} (l : pl.length ≤ 8) (h : ∀ q ∈ pl, 0 ≤ q.1 ∧ q.1 < 8 ∧ 0 ≤ q.2 ∧ q.2 ≤ 1000) : (AD.tup (planA pl)).ok 1000 := by
  refine ⟨by unfold planA; rw [List.length_map]; omega, okAll_iff.mpr fun d hd => ?_⟩
  obtain ⟨q, hq, rfl⟩ := List.mem_map.mp hd
  have := h q hq
  refine ⟨by show 2 ≤ 1000; decide, (show q.1.natAbs ≤ 1000 by omega), (show q.2.natAbs ≤ 1000 by omega), trivial⟩
theorem plan_up : ∀ {pl : List (Int × Int)}, (pl.map (·.1)).Pairwise (· ≤ ·) → upD (planA pl) = true
  | [], _ => rfl
  | [q], _ => rfl
  | q :: r :: pl, h => by
    have h1 : q.1 ≤ r.1 := (List.pairwise_cons.mp h).1 r.1 List.mem_cons_self
    show (decide (q.1 ≤ r.1) && upD (planA (r :: pl))) = true
    rw [decide_eq_true h1, plan_up (pl := r :: pl) (List.pairwise_cons.mp h).2]
    rfl
theorem plan_sched {pl : List (Int × Int)} {L : Nat} (h : ∀ q ∈ pl, 0 ≤ q.1 ∧ q.1 < L ∧ 0 ≤ q.2 ∧ q.2 ≤ 1000) (up : (pl.map (·.1)).Pairwise (· ≤ ·)) : schedD L (.tup (planA pl)) = true := by
  show ((planA pl).all (reqD L) && upD (planA pl)) = true
  rw [plan_up up, Bool.and_true, List.all_eq_true]
  intro d hd
  obtain ⟨q, hq, rfl⟩ := List.mem_map.mp hd
  have := h q hq
  show ((decide (0 ≤ q.1) && decide (q.1 ≤ (L : Int) - 1)) && (decide (0 ≤ q.2) && decide (q.2 ≤ 1000))) = true
  rw [decide_eq_true (show 0 ≤ q.1 by omega), decide_eq_true (show q.1 ≤ (L : Int) - 1 by omega), decide_eq_true (show 0 ≤ q.2 by omega), decide_eq_true (show q.2 ≤ 1000 by omega)]
  rfl
section
variable {P : Program} {w : World} {K : PySem.W.Frag} {mg : Str → Option Value} {base : Heap}
theorem ok_law {f fH fT fP fN fS fC fI fB fW fD fQ fA fR fO : Addr} {fd dH dT dP dN dS dC dI dB dW dD dQ dA dR dO : FuncData} (F : Fun K "law" "law" sLaw f fd) (T : Txt0 K mg fH fT fP fN fS fC fI fB fW fD fQ fA fR fO dH dT dP dN dS dC dI dB dW dD dQ dA dR dO) : FnG P w K mg base 9 f fd ["_law_script"] (spLaw K) := by
  have GH : FnOk P w K mg base CX0 8 fH dH ["_law_script", "_law_k"] (spHand K) := ok_hand T.H T.len T.abs T.int
  have GN : FnOk P w K mg base CX0 7 fN dN ["_law_hand_here", "_law_count"] spNames := ok_names T.N T.T T.bT T.gT T.P T.bP T.gP T.len T.rng
  have GS : FnOk P w K mg base CX0 7 fS dS ["_law_hand_here", "_law_items"] spShuf := ok_shuf T.S T.T T.bT T.gT T.len T.lst
  have GC : FnOk P w K mg base CX0 7 fC dC ["_law_hand_here", "_law_version", "_law_fresh"] (spChg K) := ok_chg T.C T.T T.bT T.gT T.P T.bP T.gP T.len T.lst T.tup
  have GI : FnOk P w K mg base CX0 8 fI dI ["_law_hand_here", "_law_most_rows", "_law_most_versions"] (spHist K) := ok_hist T.I T.gT T.T T.bT T.gN T.N T.bN GN T.gS T.S T.bS GS T.gC T.C T.bC GC T.min T.tup T.rng
  have GQ : FnOk P w K mg base CX0 8 fQ dQ ["_law_hand_here", "_law_history_here"] (spSched K) := ok_sched T.Q T.T T.bT T.gT T.P T.bP T.gP T.len T.rng T.tup T.srt
  have TB : BentTxt K mg fB fT fP dB dT dP := ⟨T.B, T.bB, T.gB, T.T, T.bT, T.gT, T.P, T.bP, T.gP, T.len, T.isi, T.tup, T.lst, T.str, T.int⟩
  have GB1 : FnOk P w K mg base CX0 8 fB dB ["_law_hand_here", "_law_item"] (spBent K 3) := (ok_bent TB 3).mono (by decide)
  have GB2 : FnOk P w K mg base CX0 8 fB dB ["_law_hand_here", "_law_item"] (spBent K 5) := ok_bent TB 5
  have GD : FnOk P w K mg base CX0 8 fD dD ["_law_history_here", "_law_item"] (spDue K) := ok_due T.D T.W T.bW T.gW T.isi T.bol T.int T.tup T.len
  obtain ⟨tk, hC⟩ := T.cMOST_COUNT
  have GR : FnOk P w K mg base CX0 7 fR dR ["history", "value"] (spReq K) := ok_req T.R T.A T.bA T.gA T.isi T.bol T.int T.tup T.len hC
  have GO : FnOk P w K mg base CX0 8 fO dO ["history", "value"] (spSch K) := ok_sch T.O T.R T.bR T.gR GR T.isi T.tup T.all T.zip
  refine okG F scLaw (fun vs H Q E h => ?_) (fun cdv A outer s H vs Q E hg hr h => ?_)
  · obtain ⟨a, ns, rfl, _⟩ := h
    rfl
  · obtain ⟨a, ns, rfl, hS, hl, q⟩ := h
    refine ⟨_, pss_cons (ps_for PassesOwn.never rfl (pi_range1 (by rfl) T.rng (pa_cons (pe_callB (call_max2 rfl) (by rfl) T.max (by decide +kernel) (pa_cons pe_int (pa_cons (pe_callB (call_min2 rfl) (by rfl) T.min (by decide +kernel) (pa_cons pe_int (pa_cons (pe_callB call_len (by rfl) T.len PySem.boot_len (pa_cons (pv 0) pa_nil)) pa_nil))) pa_nil))) pa_nil)) (pg_name (i := 1) scLaw.nd rfl (.inl rfl))
        (pss_cons (ps_set (i := 2) scLaw.nd rfl (.inl rfl) (pe_call GH hr (by rfl) T.gH T.H.kp T.bH .nil pass0 (pa_cons (pv 0) (pa_cons (pv 1) pa_nil))))
        (pss_one (ps_for PassesOwn.never rfl (pi_range1 (by rfl) T.rng (pa_cons pe_int pa_nil)) (pg_name (i := 3) scLaw.nd rfl (.inl rfl))
          (pss_cons (ps_set (i := 4) scLaw.nd rfl (.inr rfl) (pe_call GI hr (by rfl) T.gI T.I.kp T.bI .nil pass0 (pa_cons (pv 2) (pa_cons pe_int (pa_cons pe_int pa_nil)))))
          (pss_cons (ps_par (i := 5) (j := 6) (by rfl) scLaw.nd rfl rfl (by decide) rfl rfl (pa_cons (pe_call GQ hr (by rfl) T.gQ T.Q.kp T.bQ .nil pass0 (pa_cons (pv 2) (pa_cons (pv 4) pa_nil))) (pa_cons (pe_callB call_len (by rfl) T.len PySem.boot_len (pa_cons (pv 4) pa_nil)) pa_nil)) (by rfl))
          (pss_cons (ps_set (i := 7) scLaw.nd rfl (.inl rfl) (pe_lst (pa_cons (pv 5) (pa_cons (pe_revT (pv 5)) (pa_cons (pe_callTy call_list_of (by rfl) T.lst (by decide +kernel) (pa_cons (pv 5) pa_nil)) (pa_cons pe_non (pa_cons pe_int (pa_cons pe_str (pa_cons pe_dnewK (pa_cons (pe_tup pa_nil) (pa_cons (pe_tup (pa_cons (pe_tup (pa_cons pe_int (pa_cons pe_int pa_nil))) pa_nil)) (pa_cons (pe_tup (pa_cons (pe_tup (pa_cons (pv 6) (pa_cons pe_int pa_nil))) pa_nil)) (pa_cons (pe_tup (pa_cons (pe_tup (pa_cons (pe_un un_neg pe_int) (pa_cons pe_int pa_nil))) pa_nil)) (pa_cons (pe_tup (pa_cons pe_int (pa_cons pe_int pa_nil))) pa_nil))))))))))))))
          (pss_cons (ps_set (i := 7) scLaw.nd rfl (.inl rfl) (pe_op op_cat (pv 7) (pe_lst (pa_cons (pe_tup (pa_cons (pe_tup (pa_cons pe_int (pa_cons pe_int pa_nil))) (pa_cons (pe_tup (pa_cons (pe_op op_sub (pv 6) pe_int) (pa_cons pe_int pa_nil))) pa_nil))) (pa_cons (pe_tup (pa_cons (pe_tup (pa_cons pe_bl (pa_cons pe_int pa_nil))) pa_nil)) (pa_cons (pe_tup (pa_cons (pe_tup (pa_cons pe_int (pa_cons pe_bl pa_nil))) pa_nil)) (pa_cons (pe_tup (pa_cons (pe_tup (pa_cons pe_int (pa_cons pe_int (pa_cons pe_int pa_nil)))) pa_nil)) (pa_cons (pe_tup (pa_cons (pe_lst (pa_cons pe_int (pa_cons pe_int pa_nil))) pa_nil)) (pa_cons (pe_tup (pa_cons (pe_tup (pa_cons pe_int pa_nil)) pa_nil)) pa_nil)))))))))
          (pss_cons (ps_for PassesOwn.never rfl (pi_range1 (by rfl) T.rng (pa_cons pe_int pa_nil)) (pg_name (i := 8) scLaw.nd rfl (.inl rfl))
            (pss_cons (ps_set (i := 9) scLaw.nd rfl (.inl rfl) (pe_call GB1 hr (by rfl) T.gB T.B.kp T.bB .nil pass0 (pa_cons (pv 2) (pa_cons (pv 5) pa_nil))))
            (pss_one (ps_expr (pe_bm PySem.F.plainAttrs_list PySem.F.slot_list_extend PySem.F.type_list_extend mt_extend (pv 7) (pa_cons (pe_lst (pa_cons (pv 9) (pa_cons (pe_call GB2 hr (by rfl) T.gB T.B.kp T.bB .nil pass0 (pa_cons (pv 2) (pa_cons (pv 9) pa_nil))) pa_nil))) pa_nil))))))
          (pss_cons (ps_if (pt_cmpR op_isnot_bl (pe_call GO hr (by rfl) T.gO T.O.kp T.bO .nil pass0 (pa_cons (pv 4) (pa_cons (pv 5) pa_nil))) pe_bl (nomark _)) (pss_one (ps_ret pe_bl)) pss_nil)
          (pss_one (ps_if (pt_not (pt_val (pe_callB (cr_all rfl) (by rfl) T.all (by decide +kernel) (pa_cons (pe_lc (own := [("_law_item", 10)]) (g := gName 10) (tt := tYes) (te := tOp rEq (tCB rReprB (tCons (tCall (spSch K) [] E0 (tCons (tVar 4) (tCons (tVar 10) tNil))) tNil)) (tCB rReprB (tCons (tCall (spDue K) [] E0 (tCons (tVar 4) (tCons (tVar 10) tNil))) tNil))) rfl scLaw.nd (pi_list (pv 7))
              (blkOk_by (own := [("_law_item", 10)]) (N := nLaw) (sc := defScope sLaw) (by decide +kernel)) (fun _ _ _ _ _ => pg_name (i := 10) scLaw.nd rfl (.inl rfl)) (fun _ _ _ _ _ => pts_nil)
              (fun _ _ _ _ _ => pe_cmpR op_eq (pe_callB call_reprB (by rfl) T.rpr (by decide +kernel) (pa_cons (pe_call GO hr (by rfl) T.gO T.O.kp T.bO .nil pass0 (pa_cons (pv 4) (pa_cons (pv 10) pa_nil))) pa_nil)) (pe_callB call_reprB (by rfl) T.rpr (by decide +kernel) (pa_cons (pe_call GD hr (by rfl) T.gD T.D.kp T.bD .nil pass0 (pa_cons (pv 4) (pa_cons (pv 10) pa_nil))) pa_nil)) (nomark _))) pa_nil))))
            (pss_one (ps_ret pe_bl)) pss_nil)))))))))))) (pss_one (ps_ret pe_bl)), ?_⟩
    obtain ⟨top, htop, t0, t3⟩ : ∃ top : Nat, (if (if (ns.length : Int) < 3 then (ns.length : Int) else 3) > 1 then (if (ns.length : Int) < 3 then (ns.length : Int) else 3) else 1) = (top : Int) ∧ 1 ≤ top ∧ top ≤ 3 := by
      by_cases h1 : (ns.length : Int) < 3
      · by_cases h2 : (ns.length : Int) > 1
        · exact ⟨ns.length, by rw [if_pos h1, if_pos h2], by omega, by omega⟩
        · exact ⟨1, by rw [if_pos h1, if_neg h2]; rfl, by omega, by omega⟩
      · exact ⟨3, by rw [if_neg h1]; rfl, by omega, by omega⟩
    refine ⟨.ref a, rfl, _, ns.length, rfl, .inl ⟨_, hS, (List.length_map ..).symm⟩, _, _, rfl, _, _, rfl, top, congrArg (fun z => [V.int z]) htop, by omega, by omega, ?_⟩
    refine for_range (lo := 0) (n := top) (fun i σ H' => ∃ y1 y2 y3 y4 y5 y6 y7 y8 y9 y10, σ = [some (.ref a), y1, y2, y3, y4, y5, y6, y7, y8, y9, y10] ∧ Same H H') ⟨_, _, _, _, _, _, _, _, _, _, rfl, Same.refl H⟩ (fun i σ H1 hi hP => ?_) (fun σ H' hP => q H')
    obtain ⟨y1, y2, y3, y4, y5, y6, y7, y8, y9, y10, rfl, s1⟩ := hP
    -- hand
    refine ⟨.ref a, rfl, _, rfl, a, i, ns, congrArg (fun z => [V.ref a, V.int z]) (Int.zero_add _), s1.seq hS, by omega, fun H2 p s2 np hd2 => ?_⟩
    have npH : H p = none := s1.free np
    have s02 := s1.trans s2
    refine ⟨4, rfl, by decide, by decide, ?_⟩
    refine for_range (lo := 0) (n := 4) (fun j σ H' => ∃ y3 y4 y5 y6 y7 y8 y9 y10, σ = [some (.ref a), some (.int (0 + (i : Int))), some (.ref p), y3, y4, y5, y6, y7, y8, y9, y10] ∧ Same H H' ∧ Hd H' p (1000 * j)) ⟨_, _, _, _, _, _, _, _, rfl, s02, hd2⟩ (fun j σ H3 hj hP => ?_) (fun σ H' hP => ?_)
    · obtain ⟨y3, y4, y5, y6, y7, y8, y9, y10, rfl, s3, hd3⟩ := hP
      have h100 : 1000 * j ≤ 4000 := by omega
      -- history, good, many
      refine ⟨.ref p, rfl, p, 1000 * j, 4, 8, rfl, hd3, by omega, by decide, by decide, by decide, fun H4 h hs names sb4 hd4 n4 hA hok lh _ _ _ => ?_⟩
      have s4 := but_same s3 npH sb4
      have hne : 0 < hs.length := List.length_pos_iff.mpr hok.ne
      refine ⟨.ref p, rfl, .ref h, rfl, p, h, 1000 * j + 500, hs, rfl, hd4, by omega, hA, hne, by omega, fun H5 gp pl sb5 hd5 n5 avg lp hpl srt => ?_⟩
      have s5 := but_same s4 npH sb5
      have hA5 := hA.but sb5 hd4
      refine ⟨.ref h, rfl, _, hs.length, rfl, hA5.length, _, _, rfl, ?_⟩
      have pd := plan_deep pl
      have pk : (AD.tup (planA pl)).ok 1000 := plan_ok lp fun q hq => by
        have := hpl q hq
        omega
      have G5 : GoodL K H5 6 17000 [.ref gp] := .cons avg (by omega) (pk.up (by decide)) .nil
      obtain ⟨xs, hgp, rgp⟩ : ∃ xs, SqT K H5 gp xs ∧ AvAll K H5 xs (planA pl) := by
        cases avg with
        | tup h r => exact ⟨_, h, r⟩
      have lx : xs.length ≤ 8 := by
        rw [rgp.len]
        unfold planA
        rw [List.length_map]
        exact lp
      have gi : ∀ (H' : Hp) (i : Int), i.natAbs ≤ 17000 → ∃ d, Av K H' (.int i) d ∧ d.deep ≤ 4 ∧ d.ok 17000 := fun H' i hi => ⟨.int i, .int i, Nat.zero_le _, hi⟩
      have gb : ∀ (H' : Hp) (b : Bool), ∃ d, Av K H' (.bl b) d ∧ d.deep ≤ 4 ∧ d.ok 17000 := fun H' b => ⟨.bl b, .bl b, Nat.zero_le _, trivial⟩
      -- good[::-1]
      refine ⟨.ref gp, rfl, .ref gp, rfl, gp, xs, rfl, hgp, fun q1 hq1 => ?_⟩
      have S1 := same_new hq1 (o := .tup xs.reverse)
      have G6 : GoodL K (upd H5 q1 (.tup xs.reverse)) 6 17000 [.ref q1, .ref gp] := by
        refine GoodL.new hq1 G5 (.tup (SqT.of upd_same) (rgp.same S1).reverse) ?_ ?_
        · show AD.deepAll (planA pl).reverse + 1 ≤ 6
          have pd : AD.deepAll (planA pl) + 1 ≤ 2 := pd
          have := deepAll_le.mp (show AD.deepAll (planA pl) ≤ 1 by omega)
          have := (deepAll_le (n := 1)).mpr fun d hd => this d (List.mem_reverse.mp hd)
          omega
        · have pk2 : (planA pl).length ≤ 1000 ∧ AD.okAll 1000 (planA pl) := pk
          refine ⟨by rw [List.length_reverse]; omega, okAll_iff.mpr fun d hd => AD.ok.up (by decide) (okAll_iff.mp pk2.2 d (List.mem_reverse.mp hd))⟩
      have hgp6 := same_t S1 hgp
      have T6 : Same H5 (upd H5 q1 (.tup xs.reverse)) := S1
      generalize upd H5 q1 (.tup xs.reverse) = H6 at G6 hgp6 T6 ⊢
      refine ⟨.ref gp, rfl, gp, xs, rfl, .inr hgp6, fun q6 hq6 => ?_⟩
      have T7 := T6.trans (same_new hq6 (o := .lst xs))
      have G7 : GoodL K (upd H6 q6 (.lst xs)) 6 17000 [.ref q6, .ref q1, .ref gp] := .cons (.lst (SqL.of upd_same)) (deepLe rfl) trivial (G6.same (same_new hq6 (o := .lst xs)))
      have hgp7 := same_t (same_new hq6 (o := .lst xs)) hgp6
      generalize upd H6 q6 (.lst xs) = H7 at G7 T7 hgp7 ⊢
      refine fun q7 hq7 => ?_
      have T8 := T7.trans (same_new hq7 (o := .dK []))
      have G8 : GoodL K (upd H7 q7 (.dK [])) 6 17000 [.ref q7, .ref q6, .ref q1, .ref gp] := .cons (.dct upd_same) (deepLe rfl) trivial (G7.same (same_new hq7 (o := .dK [])))
      have hgp8 := same_t (same_new hq7 (o := .dK [])) hgp7
      generalize upd H7 q7 (.dK []) = H8 at G8 T8 hgp8 ⊢
      refine ⟨Nat.zero_le _, fun q8 hq8 => ?_⟩
      have T9 := T8.trans (same_new hq8 (o := .tup []))
      have G9 : GoodL K (upd H8 q8 (.tup [])) 6 17000 [.ref q8, .ref q7, .ref q6, .ref q1, .ref gp] := .cons (.tup (SqT.of upd_same) .nil) (deepLe rfl) ⟨Nat.zero_le _, trivial⟩ (G8.same (same_new hq8 (o := .tup [])))
      have hgp9 := same_t (same_new hq8 (o := .tup [])) hgp8
      generalize upd H8 q8 (.tup []) = H9 at G9 T9 hgp9 ⊢
      refine ⟨(by show 2 ≤ sizeLine; decide), fun q9 hq9 => ?_⟩
      refine ⟨(by show 1 ≤ sizeLine; decide), fun r9 hr9 => ?_⟩
      have T10 := T9.trans ((same_new hq9 (o := .tup [.int 0, .int 1001])).trans (same_new hr9 (o := .tup [.ref q9])))
      have G10 : GoodL K (upd (upd H9 q9 (.tup [.int 0, .int 1001])) r9 (.tup [.ref q9])) 6 17000 [.ref r9, .ref q8, .ref q7, .ref q6, .ref q1, .ref gp] := .cons (.tup (SqT.of upd_same) (.cons (Av.same (same_new hr9 (o := .tup [.ref q9])) (.tup (SqT.of upd_same) (.cons (.int _) (.cons (.int _) (.nil))))) .nil)) (deepLe rfl) ⟨(by show 1 ≤ 17000; decide), ⟨(by show 2 ≤ 17000; decide), oki (by decide), oki (by decide), trivial⟩, trivial⟩ (G9.same ((same_new hq9 (o := .tup [.int 0, .int 1001])).trans (same_new hr9 (o := .tup [.ref q9]))))
      have hgp10 := same_t ((same_new hq9 (o := .tup [.int 0, .int 1001])).trans (same_new hr9 (o := .tup [.ref q9]))) hgp9
      generalize upd (upd H9 q9 (.tup [.int 0, .int 1001])) r9 (.tup [.ref q9]) = H10 at G10 T10 hgp10 ⊢
      refine ⟨_, rfl, (by show 2 ≤ sizeLine; decide), fun q10 hq10 => ?_⟩
      refine ⟨(by show 1 ≤ sizeLine; decide), fun r10 hr10 => ?_⟩
      have T11 := T10.trans ((same_new hq10 (o := .tup [.int (hs.length : Int), .int 1])).trans (same_new hr10 (o := .tup [.ref q10])))
      have G11 : GoodL K (upd (upd H10 q10 (.tup [.int (hs.length : Int), .int 1])) r10 (.tup [.ref q10])) 6 17000 [.ref r10, .ref r9, .ref q8, .ref q7, .ref q6, .ref q1, .ref gp] := .cons (.tup (SqT.of upd_same) (.cons (Av.same (same_new hr10 (o := .tup [.ref q10])) (.tup (SqT.of upd_same) (.cons (.int _) (.cons (.int _) (.nil))))) .nil)) (deepLe rfl) ⟨(by show 1 ≤ 17000; decide), ⟨(by show 2 ≤ 17000; decide), oki (by omega), oki (by decide), trivial⟩, trivial⟩ (G10.same ((same_new hq10 (o := .tup [.int (hs.length : Int), .int 1])).trans (same_new hr10 (o := .tup [.ref q10]))))
      have hgp11 := same_t ((same_new hq10 (o := .tup [.int (hs.length : Int), .int 1])).trans (same_new hr10 (o := .tup [.ref q10]))) hgp10
      generalize upd (upd H10 q10 (.tup [.int (hs.length : Int), .int 1])) r10 (.tup [.ref q10]) = H11 at G11 T11 hgp11 ⊢
      refine ⟨1, rfl, (by show 2 ≤ sizeLine; decide), fun q11 hq11 => ?_⟩
      refine ⟨(by show 1 ≤ sizeLine; decide), fun r11 hr11 => ?_⟩
      have T12 := T11.trans ((same_new hq11 (o := .tup [.int (-1), .int 1])).trans (same_new hr11 (o := .tup [.ref q11])))
      have G12 : GoodL K (upd (upd H11 q11 (.tup [.int (-1), .int 1])) r11 (.tup [.ref q11])) 6 17000 [.ref r11, .ref r10, .ref r9, .ref q8, .ref q7, .ref q6, .ref q1, .ref gp] := .cons (.tup (SqT.of upd_same) (.cons (Av.same (same_new hr11 (o := .tup [.ref q11])) (.tup (SqT.of upd_same) (.cons (.int _) (.cons (.int _) (.nil))))) .nil)) (deepLe rfl) ⟨(by show 1 ≤ 17000; decide), ⟨(by show 2 ≤ 17000; decide), oki (by decide), oki (by decide), trivial⟩, trivial⟩ (G11.same ((same_new hq11 (o := .tup [.int (-1), .int 1])).trans (same_new hr11 (o := .tup [.ref q11]))))
      have hgp12 := same_t ((same_new hq11 (o := .tup [.int (-1), .int 1])).trans (same_new hr11 (o := .tup [.ref q11]))) hgp11
      generalize upd (upd H11 q11 (.tup [.int (-1), .int 1])) r11 (.tup [.ref q11]) = H12 at G12 T12 hgp12 ⊢
      refine ⟨(by show 2 ≤ sizeLine; decide), fun q12 hq12 => ?_⟩
      have T13 := T12.trans (same_new hq12 (o := .tup [.int 0, .int 1]))
      have G13 : GoodL K (upd H12 q12 (.tup [.int 0, .int 1])) 6 17000 [.ref q12, .ref r11, .ref r10, .ref r9, .ref q8, .ref q7, .ref q6, .ref q1, .ref gp] := .cons (.tup (SqT.of upd_same) (.cons (.int _) (.cons (.int _) .nil))) (deepLe rfl) ⟨(by show 2 ≤ 17000; decide), oki (by decide), oki (by decide), trivial⟩ (G12.same (same_new hq12 (o := .tup [.int 0, .int 1])))
      have hgp13 := same_t (same_new hq12 (o := .tup [.int 0, .int 1])) hgp12
      generalize upd H12 q12 (.tup [.int 0, .int 1]) = H13 at G13 T13 hgp13 ⊢
      refine ⟨(by show 12 ≤ sizeLine; decide), fun l1 hl1 => ?_⟩
      have N13 : GoodL K H13 6 17000 [.ref gp, .ref q1, .ref q6, .non, .int 0, .str "", .ref q7, .ref q8, .ref r9, .ref r10, .ref r11, .ref q12] := by
        have z : GoodL K H13 6 17000 ([.non, .int 0, .str ""] ++ [.ref q12, .ref r11, .ref r10, .ref r9, .ref q8, .ref q7, .ref q6, .ref q1, .ref gp]) := GoodL.append (.cons .non (Nat.zero_le _) trivial (.cons (.int 0) (Nat.zero_le _) (oki (by decide)) (.cons (.str "") (Nat.zero_le _) (Nat.zero_le _) .nil))) G13
        refine z.sub fun y hy => ?_
        simp only [List.mem_cons, List.not_mem_nil, or_false, List.mem_append] at hy ⊢
        rcases hy with rfl | rfl | rfl | rfl | rfl | rfl | rfl | rfl | rfl | rfl | rfl | rfl <;> simp
      have T14 := T13.trans (same_new hl1 (o := .lst [.ref gp, .ref q1, .ref q6, .non, .int 0, .str "", .ref q7, .ref q8, .ref r9, .ref r10, .ref r11, .ref q12]))
      have N14 := N13.same (same_new hl1 (o := .lst [.ref gp, .ref q1, .ref q6, .non, .int 0, .str "", .ref q7, .ref q8, .ref r9, .ref r10, .ref r11, .ref q12]))
      have e14 : (upd H13 l1 (.lst [.ref gp, .ref q1, .ref q6, .non, .int 0, .str "", .ref q7, .ref q8, .ref r9, .ref r10, .ref r11, .ref q12])) l1 = some (.lst [.ref gp, .ref q1, .ref q6, .non, .int 0, .str "", .ref q7, .ref q8, .ref r9, .ref r10, .ref r11, .ref q12]) := upd_same
      generalize upd H13 l1 (.lst [.ref gp, .ref q1, .ref q6, .non, .int 0, .str "", .ref q7, .ref q8, .ref r9, .ref r10, .ref r11, .ref q12]) = H14 at T14 N14 e14 ⊢
      have G14 : GoodL K H14 6 17000 [] := .nil
      have U14 : Same H14 H14 := Same.refl H14
      refine ⟨.ref l1, rfl, (by show 2 ≤ sizeLine; decide), fun qa hqa => ?_⟩
      refine ⟨_, rfl, _, 1, rfl, rfl, (by show 2 ≤ sizeLine; decide), fun qb hqb => ?_⟩
      refine ⟨(by show 2 ≤ sizeLine; decide), fun qc hqc => ?_⟩
      have U15 := U14.trans ((same_new hqa (o := .tup [.int 0, .int 1000])).trans ((same_new hqb (o := .tup [.int ((hs.length : Int) - 1), .int 0])).trans (same_new hqc (o := .tup [.ref qa, .ref qb]))))
      have G15 : GoodL K (upd (upd (upd H14 qa (.tup [.int 0, .int 1000])) qb (.tup [.int ((hs.length : Int) - 1), .int 0])) qc (.tup [.ref qa, .ref qb])) 6 17000 [.ref qc] := .cons (.tup (SqT.of upd_same) (.cons (Av.same ((same_new hqb (o := .tup [.int ((hs.length : Int) - 1), .int 0])).trans (same_new hqc (o := .tup [.ref qa, .ref qb]))) (.tup (SqT.of upd_same) (.cons (.int _) (.cons (.int _) (.nil))))) (.cons (Av.same (same_new hqc (o := .tup [.ref qa, .ref qb])) (.tup (SqT.of upd_same) (.cons (.int _) (.cons (.int _) (.nil))))) .nil))) (deepLe rfl) ⟨(by show 2 ≤ 17000; decide), ⟨(by show 2 ≤ 17000; decide), oki (by decide), oki (by decide), trivial⟩, ⟨(by show 2 ≤ 17000; decide), oki (by omega), oki (by decide), trivial⟩, trivial⟩ (G14.same ((same_new hqa (o := .tup [.int 0, .int 1000])).trans ((same_new hqb (o := .tup [.int ((hs.length : Int) - 1), .int 0])).trans (same_new hqc (o := .tup [.ref qa, .ref qb])))))
      generalize upd (upd (upd H14 qa (.tup [.int 0, .int 1000])) qb (.tup [.int ((hs.length : Int) - 1), .int 0])) qc (.tup [.ref qa, .ref qb]) = H15 at G15 U15 ⊢
      refine ⟨(by show 2 ≤ sizeLine; decide), fun q15 hq15 => ?_⟩
      refine ⟨(by show 1 ≤ sizeLine; decide), fun r15 hr15 => ?_⟩
      have U16 := U15.trans ((same_new hq15 (o := .tup [.bl true, .int 1])).trans (same_new hr15 (o := .tup [.ref q15])))
      have G16 : GoodL K (upd (upd H15 q15 (.tup [.bl true, .int 1])) r15 (.tup [.ref q15])) 6 17000 [.ref r15, .ref qc] := .cons (.tup (SqT.of upd_same) (.cons (Av.same (same_new hr15 (o := .tup [.ref q15])) (.tup (SqT.of upd_same) (.cons (.bl _) (.cons (.int _) (.nil))))) .nil)) (deepLe rfl) ⟨(by show 1 ≤ 17000; decide), ⟨(by show 2 ≤ 17000; decide), trivial, oki (by decide), trivial⟩, trivial⟩ (G15.same ((same_new hq15 (o := .tup [.bl true, .int 1])).trans (same_new hr15 (o := .tup [.ref q15]))))
      generalize upd (upd H15 q15 (.tup [.bl true, .int 1])) r15 (.tup [.ref q15]) = H16 at G16 U16 ⊢
      refine ⟨(by show 2 ≤ sizeLine; decide), fun q16 hq16 => ?_⟩
      refine ⟨(by show 1 ≤ sizeLine; decide), fun r16 hr16 => ?_⟩
      have U17 := U16.trans ((same_new hq16 (o := .tup [.int 0, .bl false])).trans (same_new hr16 (o := .tup [.ref q16])))
      have G17 : GoodL K (upd (upd H16 q16 (.tup [.int 0, .bl false])) r16 (.tup [.ref q16])) 6 17000 [.ref r16, .ref r15, .ref qc] := .cons (.tup (SqT.of upd_same) (.cons (Av.same (same_new hr16 (o := .tup [.ref q16])) (.tup (SqT.of upd_same) (.cons (.int _) (.cons (.bl _) (.nil))))) .nil)) (deepLe rfl) ⟨(by show 1 ≤ 17000; decide), ⟨(by show 2 ≤ 17000; decide), oki (by decide), trivial, trivial⟩, trivial⟩ (G16.same ((same_new hq16 (o := .tup [.int 0, .bl false])).trans (same_new hr16 (o := .tup [.ref q16]))))
      generalize upd (upd H16 q16 (.tup [.int 0, .bl false])) r16 (.tup [.ref q16]) = H17 at G17 U17 ⊢
      refine ⟨(by show 3 ≤ sizeLine; decide), fun q17 hq17 => ?_⟩
      refine ⟨(by show 1 ≤ sizeLine; decide), fun r17 hr17 => ?_⟩
      have U18 := U17.trans ((same_new hq17 (o := .tup [.int 0, .int 1, .int 1])).trans (same_new hr17 (o := .tup [.ref q17])))
      have G18 : GoodL K (upd (upd H17 q17 (.tup [.int 0, .int 1, .int 1])) r17 (.tup [.ref q17])) 6 17000 [.ref r17, .ref r16, .ref r15, .ref qc] := .cons (.tup (SqT.of upd_same) (.cons (Av.same (same_new hr17 (o := .tup [.ref q17])) (.tup (SqT.of upd_same) (.cons (.int _) (.cons (.int _) (.cons (.int _) (.nil)))))) .nil)) (deepLe rfl) ⟨(by show 1 ≤ 17000; decide), ⟨(by show 3 ≤ 17000; decide), oki (by decide), oki (by decide), oki (by decide), trivial⟩, trivial⟩ (G17.same ((same_new hq17 (o := .tup [.int 0, .int 1, .int 1])).trans (same_new hr17 (o := .tup [.ref q17]))))
      generalize upd (upd H17 q17 (.tup [.int 0, .int 1, .int 1])) r17 (.tup [.ref q17]) = H18 at G18 U18 ⊢
      refine ⟨(by show 2 ≤ sizeLine; decide), fun q18 hq18 => ?_⟩
      refine ⟨(by show 1 ≤ sizeLine; decide), fun r18 hr18 => ?_⟩
      have U19 := U18.trans ((same_new hq18 (o := .lst [.int 0, .int 1])).trans (same_new hr18 (o := .tup [.ref q18])))
      have G19 : GoodL K (upd (upd H18 q18 (.lst [.int 0, .int 1])) r18 (.tup [.ref q18])) 6 17000 [.ref r18, .ref r17, .ref r16, .ref r15, .ref qc] := .cons (.tup (SqT.of upd_same) (.cons (Av.same (same_new hr18 (o := .tup [.ref q18])) (.lst (SqL.of upd_same))) .nil)) (deepLe rfl) ⟨(by show 1 ≤ 17000; decide), trivial, trivial⟩ (G18.same ((same_new hq18 (o := .lst [.int 0, .int 1])).trans (same_new hr18 (o := .tup [.ref q18]))))
      generalize upd (upd H18 q18 (.lst [.int 0, .int 1])) r18 (.tup [.ref q18]) = H19 at G19 U19 ⊢
      refine ⟨(by show 1 ≤ sizeLine; decide), fun q19 hq19 => ?_⟩
      refine ⟨(by show 1 ≤ sizeLine; decide), fun r19 hr19 => ?_⟩
      have U20 := U19.trans ((same_new hq19 (o := .tup [.int 0])).trans (same_new hr19 (o := .tup [.ref q19])))
      have G20 : GoodL K (upd (upd H19 q19 (.tup [.int 0])) r19 (.tup [.ref q19])) 6 17000 [.ref r19, .ref r18, .ref r17, .ref r16, .ref r15, .ref qc] := .cons (.tup (SqT.of upd_same) (.cons (Av.same (same_new hr19 (o := .tup [.ref q19])) (.tup (SqT.of upd_same) (.cons (.int _) (.nil)))) .nil)) (deepLe rfl) ⟨(by show 1 ≤ 17000; decide), ⟨(by show 1 ≤ 17000; decide), oki (by decide), trivial⟩, trivial⟩ (G19.same ((same_new hq19 (o := .tup [.int 0])).trans (same_new hr19 (o := .tup [.ref q19]))))
      generalize upd (upd H19 q19 (.tup [.int 0])) r19 (.tup [.ref q19]) = H20 at G20 U20 ⊢
      refine ⟨(by show 6 ≤ sizeLine; decide), fun l2 hl2 => ?_⟩
      have U21 := U20.trans (same_new hl2 (o := .lst [.ref qc, .ref r15, .ref r16, .ref r17, .ref r18, .ref r19]))
      have G21 : GoodL K _ 6 17000 [.ref qc, .ref r15, .ref r16, .ref r17, .ref r18, .ref r19] := (G20.sub (xs := [.ref qc, .ref r15, .ref r16, .ref r17, .ref r18, .ref r19]) fun y hy => List.mem_reverse.mp hy).same (same_new hl2 (o := .lst [.ref qc, .ref r15, .ref r16, .ref r17, .ref r18, .ref r19]))
      have eb : (upd H20 l2 (.lst [.ref qc, .ref r15, .ref r16, .ref r17, .ref r18, .ref r19])) l2 = some (.lst [.ref qc, .ref r15, .ref r16, .ref r17, .ref r18, .ref r19]) := upd_same
      generalize upd H20 l2 (.lst [.ref qc, .ref r15, .ref r16, .ref r17, .ref r18, .ref r19]) = H21 at G21 U21 eb ⊢
      refine ⟨l1, l2, _, _, rfl, rfl, U21 _ _ e14, eb, (by show 12 + 6 ≤ sizeLine; decide), fun l hl0 => ?_⟩
      have N22 : GoodL K _ 6 17000 ([.ref gp, .ref q1, .ref q6, .non, .int 0, .str "", .ref q7, .ref q8, .ref r9, .ref r10, .ref r11, .ref q12] ++ [.ref qc, .ref r15, .ref r16, .ref r17, .ref r18, .ref r19]) := ((N14.same U21).append G21).same (same_new hl0 (o := .lst ([.ref gp, .ref q1, .ref q6, .non, .int 0, .str "", .ref q7, .ref q8, .ref r9, .ref r10, .ref r11, .ref q12] ++ [.ref qc, .ref r15, .ref r16, .ref r17, .ref r18, .ref r19])))
      have TT : Same H5 _ := (T14.trans U21).trans (same_new hl0 (o := .lst ([.ref gp, .ref q1, .ref q6, .non, .int 0, .str "", .ref q7, .ref q8, .ref r9, .ref r10, .ref r11, .ref q12] ++ [.ref qc, .ref r15, .ref r16, .ref r17, .ref r18, .ref r19])))
      have nlp : l ≠ p := (same_hd (T14.trans U21) hd5).ne hl0
      have nlH : H l = none := (s5.trans (T14.trans U21)).free hl0
      have el : (upd H21 l (.lst ([.ref gp, .ref q1, .ref q6, .non, .int 0, .str "", .ref q7, .ref q8, .ref r9, .ref r10, .ref r11, .ref q12] ++ [.ref qc, .ref r15, .ref r16, .ref r17, .ref r18, .ref r19]))) l = some (.lst ([.ref gp, .ref q1, .ref q6, .non, .int 0, .str "", .ref q7, .ref q8, .ref r9, .ref r10, .ref r11, .ref q12] ++ [.ref qc, .ref r15, .ref r16, .ref r17, .ref r18, .ref r19])) := upd_same
      have ly : ([.ref gp, .ref q1, .ref q6, .non, .int 0, .str "", .ref q7, .ref q8, .ref r9, .ref r10, .ref r11, .ref q12] ++ [.ref qc, .ref r15, .ref r16, .ref r17, .ref r18, .ref r19] : List V).length = 18 := rfl
      generalize ([.ref gp, .ref q1, .ref q6, .non, .int 0, .str "", .ref q7, .ref q8, .ref r9, .ref r10, .ref r11, .ref q12] ++ [.ref qc, .ref r15, .ref r16, .ref r17, .ref r18, .ref r19] : List V) = ys0 at N22 TT el ly ⊢
      generalize upd H21 l (.lst ys0) = H22 at N22 TT el ⊢
      have N22 := N22
      have s22 := s5.trans TT
      have hd22 := same_hd TT hd5
      have hA22 := hA5.same TT
      have av22 := avg.same TT
      refine ⟨8, rfl, by decide, by decide, ?_⟩
      refine for_range (lo := 0) (n := 8) (fun i2 σ H' => ∃ y8 y9 xs, σ = [some (.ref a), some (.int (0 + (i : Int))), some (.ref p), some (.int (0 + (j : Int))), some (.ref h), some (.ref gp), some (.int hs.length), some (.ref l), y8, y9, y10] ∧ Same H H' ∧ Hd H' p (1000 * j + 550 + 30 * i2) ∧ H' l = some (.lst xs) ∧ xs.length ≤ 18 + 2 * i2 ∧ GoodL K H' 6 17000 xs ∧ HistAt K H' h hs ∧ Av K H' (.ref gp) (.tup (planA pl)))
        ⟨_, _, ys0, rfl, s22, hd22, el, by omega, N22, hA22, av22⟩ (fun i2 σ H' hi2 hP => ?_) (fun σ H' hP => ?_)
      · obtain ⟨y8, y9, xs, rfl, p1, p2, p3, p4, p5, p6, p7⟩ := hP
        refine ⟨.ref p, rfl, .ref gp, rfl, p, .ref gp, 1000 * j + 550 + 30 * i2, 1000, _, rfl, p2, by omega, p7, by omega, pk, by decide, fun H7 b1 d1 sb7 hd7 av7 dp7 ok7 => ?_⟩
        have e7 := sb7 l _ nlp p3
        refine ⟨.ref l, rfl, .inl ⟨rfl, _, SqL.of e7⟩, _, rfl, .ref p, rfl, b1, rfl, p, b1, _, 5000, d1, rfl, hd7, by omega, av7, by omega, ok7, by decide, fun H8 b2 d2 sb8 hd8 av8 dp8 ok8 => ?_⟩
        refine ⟨(by show 2 ≤ sizeLine; decide), fun m hm => ?_⟩
        have e8 := sb8 l _ nlp e7
        have sm := same_new hm (o := .lst [b1, b2])
        refine ⟨l, m, xs, [b1, b2], rfl, rfl, sm _ _ e8, upd_same, szM (by show xs.length + 2 ≤ _; omega), ?_⟩
        have b13 := (sb7.trans sb8)
        refine ⟨_, _, xs ++ [b1, b2], rfl, ?_, ?_, upd_same, ?_, ?_, ?_, ?_⟩
        · exact same_own ((but_same (but_same p1 npH sb7) npH sb8).trans sm) nlH
        · exact ((same_hd sm hd8).oth nlp).up (by omega)
        · rw [List.length_append]
          show xs.length + 2 ≤ _
          omega
        · refine GoodL.updL (sm _ _ e8) (GoodL.append ((p5.but b13 p2 hd8).same sm) ?_)
          exact .cons ((av7.but sb8 hd7 hd8).same sm) (by omega) (ok7.up (by decide)) (.cons (av8.same sm) (by omega) (ok8.up (by decide)) .nil)
        · exact ((p6.but b13 p2).same sm).keep fun _ _ => upd_t (sm _ _ e8)
        · exact ((p7.but b13 p2 hd8).same sm).updL (sm _ _ e8)
      · obtain ⟨y8, y9, xs, rfl, p1, p2, p3, p4, p5, p6, p7⟩ := hP
        have lenH : ∀ H2, Same H' H2 → LenV K (.ref h) H2 hs.length := fun H2 s => (p6.same s).length
        have good := plan_sched (L := hs.length) hpl srt
        refine ⟨.ref h, rfl, .ref gp, rfl, h, hs.length, .ref gp, _, rfl, lenH, p7, pk.up (by decide), fun H9 s9 => ?_⟩
        rw [good]
        refine ⟨true, true, rfl, rfl, _, rfl, iteF ?_⟩
        refine ⟨.ref l, rfl, l, rfl, ⟨_, SqL.of (s9 _ _ p3)⟩, fun D hD => lc_list (xs := xs) (fun i H2 => Same H9 H2 ∧ H2 D = some (.lst ((List.replicate i true).map V.bl))) ⟨same_new hD, upd_same⟩ (fun i H2 _ hP => SqL.of (hP.1 _ _ (s9 _ _ p3))) (fun i x H2 hx hP => ?_) (fun H2 hP => ?_)⟩
        · obtain ⟨q1, q2⟩ := hP
          have hi3 : i < xs.length := (List.getElem?_eq_some_iff.mp hx).1
          obtain ⟨d, a1, a2, a3⟩ := (p5.same (s9.trans q1)) x (List.mem_of_getElem? hx)
          refine ⟨rfl, lc_yes ?_⟩
          refine ⟨.ref h, rfl, x, rfl, h, hs.length, x, d, rfl, fun H3 s3 => lenH H3 ((s9.trans q1).trans s3), a1, a3.up (by decide), fun H3 s3 => ?_⟩
          refine ⟨_, rfl, .ref h, rfl, x, rfl, h, hs.length, x, d, rfl, lenH H3 ((s9.trans q1).trans s3), a1.same s3, _, rfl, rfl, _, s3 _ _ q2, ?_, same_own (q1.trans s3) hD, ?_⟩
          · rw [List.length_map, List.length_replicate]
            exact small1000 (by omega)
          · rw [upd_same, List.replicate_succ', List.map_append, decide_eq_true rfl]
            rfl
        · obtain ⟨q1, q2⟩ := hP
          refine ⟨D, _, rfl, SqL.of q2, _, rfl, ?_⟩
          have e : (List.replicate xs.length true).all id = true := by
            rw [List.all_eq_true]
            intro b hb
            rw [(List.mem_replicate.mp hb).2]
            rfl
          rw [e]
          refine iteF ?_
          exact ⟨_, _, _, _, _, _, _, _, rfl, p1.trans (s9.trans q1), (same_hd (s9.trans q1) p2).up (by omega)⟩
    · obtain ⟨y3, y4, y5, y6, y7, y8, y9, y10, rfl, s3, _⟩ := hP
      exact ⟨_, _, _, _, _, _, _, _, _, _, rfl, s3⟩
end
end M
namespace M
open PySem PySem.Spec PyProof.Rows L2 Gd
theorem all_mk {l : PySem.W.OpenLaw} {w : World} {K : PySem.W.Frag} {h : Heap} {mg : Str → Option Value} {fa f1 f2 f3 f4 f5 f6 f7 f8 f9 f10 f11 f12 f13 f14 f15 : Addr} (X : K.In h) (G : h.Ns mainGlobals mg) (hfa : mg "law" = some (.ref fa))
    {od1 an1 od2 an2 od3 an3 od4 an4 od5 an5 od6 an6 od7 an7 od8 an8 od9 an9 od10 an10 od11 an11 od12 an12 od13 an13 od14 an14 od15 an15 : Option Addr} {sl1 sl2 sl3 sl4 sl5 sl6 sl7 sl8 sl9 sl10 sl11 sl12 sl13 sl14 sl15 : Array (Option Value)} {oc1 kV1 dc1 pm1 cd1 ct1 oc2 kV2 dc2 pm2 cd2 ct2 oc3 kV3 dc3 pm3 cd3 ct3 oc4 kV4 dc4 pm4 cd4 ct4 oc5 kV5 dc5 pm5 cd5 ct5 oc6 kV6 dc6 pm6 cd6 ct6 oc7 kV7 dc7 pm7 cd7 ct7 oc8 kV8 dc8 pm8 cd8 ct8 oc9 kV9 dc9 pm9 cd9 ct9 oc10 kV10 dc10 pm10 cd10 ct10 oc11 kV11 dc11 pm11 cd11 ct11 oc12 kV12 dc12 pm12 cd12 ct12 oc13 kV13 dc13 pm13 cd13 ct13 oc14 kV14 dc14 pm14 cd14 ct14 oc15 kV15 dc15 pm15 cd15 ct15 : Value}
    (a1 : PySem.W.nsIn K mainGlobals "_law_hand" = some (some (.ref f1))) (l1 : K.lookup f1 = some ⟨oc1, od1, .func (PySem.W.fnOf "_law_hand" "_law_hand" (defArgs sHand) (defBody sHand) (defScope sHand) .none kV1 dc1 pm1 an1 cd1 ct1), sl1⟩) (c1 : PySem.W.codeIn K cd1 "_law_hand" = true) (k1 : PySem.W.keepIn K (.ref f1) = true)
    (a2 : PySem.W.nsIn K mainGlobals "_law_take" = some (some (.ref f2))) (l2 : K.lookup f2 = some ⟨oc2, od2, .func (PySem.W.fnOf "_law_take" "_law_take" (defArgs sTake) (defBody sTake) (defScope sTake) .none kV2 dc2 pm2 an2 cd2 ct2), sl2⟩) (c2 : PySem.W.codeIn K cd2 "_law_take" = true) (k2 : PySem.W.keepIn K (.ref f2) = true)
    (a3 : PySem.W.nsIn K mainGlobals "_law_pick" = some (some (.ref f3))) (l3 : K.lookup f3 = some ⟨oc3, od3, .func (PySem.W.fnOf "_law_pick" "_law_pick" (defArgs sPick) (defBody sPick) (defScope sPick) .none kV3 dc3 pm3 an3 cd3 ct3), sl3⟩) (c3 : PySem.W.codeIn K cd3 "_law_pick" = true) (k3 : PySem.W.keepIn K (.ref f3) = true)
    (a4 : PySem.W.nsIn K mainGlobals "_law_names" = some (some (.ref f4))) (l4 : K.lookup f4 = some ⟨oc4, od4, .func (PySem.W.fnOf "_law_names" "_law_names" (defArgs sNames) (defBody sNames) (defScope sNames) .none kV4 dc4 pm4 an4 cd4 ct4), sl4⟩) (c4 : PySem.W.codeIn K cd4 "_law_names" = true) (k4 : PySem.W.keepIn K (.ref f4) = true)
    (a5 : PySem.W.nsIn K mainGlobals "_law_shuffled" = some (some (.ref f5))) (l5 : K.lookup f5 = some ⟨oc5, od5, .func (PySem.W.fnOf "_law_shuffled" "_law_shuffled" (defArgs sShuf) (defBody sShuf) (defScope sShuf) .none kV5 dc5 pm5 an5 cd5 ct5), sl5⟩) (c5 : PySem.W.codeIn K cd5 "_law_shuffled" = true) (k5 : PySem.W.keepIn K (.ref f5) = true)
    (a6 : PySem.W.nsIn K mainGlobals "_law_changed" = some (some (.ref f6))) (l6 : K.lookup f6 = some ⟨oc6, od6, .func (PySem.W.fnOf "_law_changed" "_law_changed" (defArgs sChg) (defBody sChg) (defScope sChg) .none kV6 dc6 pm6 an6 cd6 ct6), sl6⟩) (c6 : PySem.W.codeIn K cd6 "_law_changed" = true) (k6 : PySem.W.keepIn K (.ref f6) = true)
    (a7 : PySem.W.nsIn K mainGlobals "_law_history" = some (some (.ref f7))) (l7 : K.lookup f7 = some ⟨oc7, od7, .func (PySem.W.fnOf "_law_history" "_law_history" (defArgs sHist) (defBody sHist) (defScope sHist) .none kV7 dc7 pm7 an7 cd7 ct7), sl7⟩) (c7 : PySem.W.codeIn K cd7 "_law_history" = true) (k7 : PySem.W.keepIn K (.ref f7) = true)
    (a8 : PySem.W.nsIn K mainGlobals "_law_bent" = some (some (.ref f8))) (l8 : K.lookup f8 = some ⟨oc8, od8, .func (PySem.W.fnOf "_law_bent" "_law_bent" (defArgs sBent) (defBody sBent) (defScope sBent) .none kV8 dc8 pm8 an8 cd8 ct8), sl8⟩) (c8 : PySem.W.codeIn K cd8 "_law_bent" = true) (k8 : PySem.W.keepIn K (.ref f8) = true)
    (a9 : PySem.W.nsIn K mainGlobals "_law_is_whole" = some (some (.ref f9))) (l9 : K.lookup f9 = some ⟨oc9, od9, .func (PySem.W.fnOf "_law_is_whole" "_law_is_whole" (defArgs sWhole) (defBody sWhole) (defScope sWhole) .none kV9 dc9 pm9 an9 cd9 ct9), sl9⟩) (c9 : PySem.W.codeIn K cd9 "_law_is_whole" = true) (k9 : PySem.W.keepIn K (.ref f9) = true)
    (a10 : PySem.W.nsIn K mainGlobals "_law_due" = some (some (.ref f10))) (l10 : K.lookup f10 = some ⟨oc10, od10, .func (PySem.W.fnOf "_law_due" "_law_due" (defArgs sDue) (defBody sDue) (defScope sDue) .none kV10 dc10 pm10 an10 cd10 ct10), sl10⟩) (c10 : PySem.W.codeIn K cd10 "_law_due" = true) (k10 : PySem.W.keepIn K (.ref f10) = true)
    (a11 : PySem.W.nsIn K mainGlobals "_law_schedule" = some (some (.ref f11))) (l11 : K.lookup f11 = some ⟨oc11, od11, .func (PySem.W.fnOf "_law_schedule" "_law_schedule" (defArgs sSched) (defBody sSched) (defScope sSched) .none kV11 dc11 pm11 an11 cd11 ct11), sl11⟩) (c11 : PySem.W.codeIn K cd11 "_law_schedule" = true) (k11 : PySem.W.keepIn K (.ref f11) = true)
    (a12 : PySem.W.nsIn K mainGlobals "is_integer_within" = some (some (.ref f12))) (l12 : K.lookup f12 = some ⟨oc12, od12, .func (PySem.W.fnOf "is_integer_within" "is_integer_within" (defArgs sWithin) (defBody sWithin) (defScope sWithin) .none kV12 dc12 pm12 an12 cd12 ct12), sl12⟩) (c12 : PySem.W.codeIn K cd12 "is_integer_within" = true) (k12 : PySem.W.keepIn K (.ref f12) = true)
    (a13 : PySem.W.nsIn K mainGlobals "is_request" = some (some (.ref f13))) (l13 : K.lookup f13 = some ⟨oc13, od13, .func (PySem.W.fnOf "is_request" "is_request" (defArgs sReq) (defBody sReq) (defScope sReq) .none kV13 dc13 pm13 an13 cd13 ct13), sl13⟩) (c13 : PySem.W.codeIn K cd13 "is_request" = true) (k13 : PySem.W.keepIn K (.ref f13) = true)
    (a14 : PySem.W.nsIn K mainGlobals "is_schedule" = some (some (.ref f14))) (l14 : K.lookup f14 = some ⟨oc14, od14, .func (PySem.W.fnOf "is_schedule" "is_schedule" (defArgs sSch) (defBody sSch) (defScope sSch) .none kV14 dc14 pm14 an14 cd14 ct14), sl14⟩) (c14 : PySem.W.codeIn K cd14 "is_schedule" = true) (k14 : PySem.W.keepIn K (.ref f14) = true)
    (a15 : PySem.W.nsIn K mainGlobals "law" = some (some (.ref f15))) (l15 : K.lookup f15 = some ⟨oc15, od15, .func (PySem.W.fnOf "law" "law" (defArgs sLaw) (defBody sLaw) (defScope sLaw) .none kV15 dc15 pm15 an15 cd15 ct15), sl15⟩) (c15 : PySem.W.codeIn K cd15 "law" = true) (k15 : PySem.W.keepIn K (.ref f15) = true)
    {tk1 : Tok} (u1 : PySem.W.nsIn K mainGlobals "MOST_COUNT" = some (some (.int 1000 tk1)))
    (z1 : PySem.W.nsIn K mainGlobals "len" = some none) (z2 : PySem.W.nsIn K mainGlobals "abs" = some none) (z3 : PySem.W.nsIn K mainGlobals "int" = some none) (z4 : PySem.W.nsIn K mainGlobals "range" = some none) (z5 : PySem.W.nsIn K mainGlobals "list" = some none) (z6 : PySem.W.nsIn K mainGlobals "tuple" = some none) (z7 : PySem.W.nsIn K mainGlobals "repr" = some none) (z8 : PySem.W.nsIn K mainGlobals "max" = some none) (z9 : PySem.W.nsIn K mainGlobals "min" = some none) (z10 : PySem.W.nsIn K mainGlobals "sorted" = some none) (z11 : PySem.W.nsIn K mainGlobals "isinstance" = some none) (z12 : PySem.W.nsIn K mainGlobals "str" = some none) (z13 : PySem.W.nsIn K mainGlobals "bool" = some none) (z14 : PySem.W.nsIn K mainGlobals "all" = some none) (z15 : PySem.W.nsIn K mainGlobals "zip" = some none) :
    ∃ fd : FuncData, (∀ (s : Shared) (v : Value), BindsTo s fd ⟨[v], []⟩ [("_law_script", v)]) ∧ ∀ base : Heap, K.In base → base.Ns mainGlobals mg → FnG l.prog w K mg base 9 fa fd ["_law_script"] (spLaw K) := by
  have e := hfa.symm.trans (PySem.W.mg_of X G a15)
  cases e
  have F1 := fun_mk (st := sHand) l1 c1 k1
  have b1 := F1.binds (ps := ["_law_script", "_law_k"]) fun _ _ _ _ _ _ us hl => match us, hl with | [_, _], _ => rfl
  have F2 := fun_mk (st := sTake) l2 c2 k2
  have b2 := F2.binds (ps := ["_law_hand_here", "_law_many"]) fun _ _ _ _ _ _ us hl => match us, hl with | [_, _], _ => rfl
  have F3 := fun_mk (st := sPick) l3 c3 k3
  have b3 := F3.binds (ps := ["_law_hand_here", "_law_items"]) fun _ _ _ _ _ _ us hl => match us, hl with | [_, _], _ => rfl
  have F4 := fun_mk (st := sNames) l4 c4 k4
  have b4 := F4.binds (ps := ["_law_hand_here", "_law_count"]) fun _ _ _ _ _ _ us hl => match us, hl with | [_, _], _ => rfl
  have F5 := fun_mk (st := sShuf) l5 c5 k5
  have b5 := F5.binds (ps := ["_law_hand_here", "_law_items"]) fun _ _ _ _ _ _ us hl => match us, hl with | [_, _], _ => rfl
  have F6 := fun_mk (st := sChg) l6 c6 k6
  have b6 := F6.binds (ps := ["_law_hand_here", "_law_version", "_law_fresh"]) fun _ _ _ _ _ _ us hl => match us, hl with | [_, _, _], _ => rfl
  have F7 := fun_mk (st := sHist) l7 c7 k7
  have b7 := F7.binds (ps := ["_law_hand_here", "_law_most_rows", "_law_most_versions"]) fun _ _ _ _ _ _ us hl => match us, hl with | [_, _, _], _ => rfl
  have F8 := fun_mk (st := sBent) l8 c8 k8
  have b8 := F8.binds (ps := ["_law_hand_here", "_law_item"]) fun _ _ _ _ _ _ us hl => match us, hl with | [_, _], _ => rfl
  have F9 := fun_mk (st := sWhole) l9 c9 k9
  have b9 := F9.binds (ps := ["_law_item", "_law_low", "_law_high"]) fun _ _ _ _ _ _ us hl => match us, hl with | [_, _, _], _ => rfl
  have F10 := fun_mk (st := sDue) l10 c10 k10
  have b10 := F10.binds (ps := ["_law_history_here", "_law_item"]) fun _ _ _ _ _ _ us hl => match us, hl with | [_, _], _ => rfl
  have F11 := fun_mk (st := sSched) l11 c11 k11
  have b11 := F11.binds (ps := ["_law_hand_here", "_law_history_here"]) fun _ _ _ _ _ _ us hl => match us, hl with | [_, _], _ => rfl
  have F12 := fun_mk (st := sWithin) l12 c12 k12
  have b12 := F12.binds (ps := ["value", "low", "high"]) fun _ _ _ _ _ _ us hl => match us, hl with | [_, _, _], _ => rfl
  have F13 := fun_mk (st := sReq) l13 c13 k13
  have b13 := F13.binds (ps := ["history", "value"]) fun _ _ _ _ _ _ us hl => match us, hl with | [_, _], _ => rfl
  have F14 := fun_mk (st := sSch) l14 c14 k14
  have b14 := F14.binds (ps := ["history", "value"]) fun _ _ _ _ _ _ us hl => match us, hl with | [_, _], _ => rfl
  have F15 := fun_mk (st := sLaw) l15 c15 k15
  exact ⟨PySem.W.fnOf "law" "law" (defArgs sLaw) (defBody sLaw) (defScope sLaw) .none kV15 dc15 pm15 an15 cd15 ct15, fun s v => .of_eq rfl, fun base _ _ => ok_law F15 ⟨F1, b1, PySem.W.mg_of X G a1, F2, b2, PySem.W.mg_of X G a2, F3, b3, PySem.W.mg_of X G a3, F4, b4, PySem.W.mg_of X G a4, F5, b5, PySem.W.mg_of X G a5, F6, b6, PySem.W.mg_of X G a6, F7, b7, PySem.W.mg_of X G a7, F8, b8, PySem.W.mg_of X G a8, F9, b9, PySem.W.mg_of X G a9, F10, b10, PySem.W.mg_of X G a10, F11, b11, PySem.W.mg_of X G a11, F12, b12, PySem.W.mg_of X G a12, F13, b13, PySem.W.mg_of X G a13, F14, b14, PySem.W.mg_of X G a14, PySem.W.mg_none_of X G z1, PySem.W.mg_none_of X G z2, PySem.W.mg_none_of X G z3, PySem.W.mg_none_of X G z4, PySem.W.mg_none_of X G z5, PySem.W.mg_none_of X G z6, PySem.W.mg_none_of X G z7, PySem.W.mg_none_of X G z8, PySem.W.mg_none_of X G z9, PySem.W.mg_none_of X G z10, PySem.W.mg_none_of X G z11, PySem.W.mg_none_of X G z12, PySem.W.mg_none_of X G z13, PySem.W.mg_none_of X G z14, PySem.W.mg_none_of X G z15, ⟨_, PySem.W.mg_of X G u1⟩⟩⟩
end M
open PySem PySem.W PyProof.Rows
set_option maxHeartbeats 0 in
theorem PySem.Challenge.cw_movingpages_k07_schedules_of_any_value_holds : PySem.Challenge.rw_movingpages_k07_schedules_of_any_value.Holds := by
  w_on; o_law; k_head; (case hw => w_witness2)
  k_fill
  refine Gd.walkG (l := PySem.Challenge.rw_movingpages_k07_schedules_of_any_value) (n := 63) (k := 9) (x := "_law_script") (sp := M.spLaw) rfl (by decide) rfl ⟨rfl, by decide, by decide⟩ (fun w h Y => PySem.W.kIn_of Y) ?F (fun _ _ a ns hl _ hS => ⟨a, ns, rfl, hS, hl, fun _ => rfl⟩)
  case F =>
    intro w mg fa h KX G hmg
    refine' M.all_mk KX G hmg ?a1 ?l1 ?c1 ?k1 ?a2 ?l2 ?c2 ?k2 ?a3 ?l3 ?c3 ?k3 ?a4 ?l4 ?c4 ?k4 ?a5 ?l5 ?c5 ?k5 ?a6 ?l6 ?c6 ?k6 ?a7 ?l7 ?c7 ?k7 ?a8 ?l8 ?c8 ?k8 ?a9 ?l9 ?c9 ?k9 ?a10 ?l10 ?c10 ?k10 ?a11 ?l11 ?c11 ?k11 ?a12 ?l12 ?c12 ?k12 ?a13 ?l13 ?c13 ?k13 ?a14 ?l14 ?c14 ?k14 ?a15 ?l15 ?c15 ?k15 ?u1 ?z1 ?z2 ?z3 ?z4 ?z5 ?z6 ?z7 ?z8 ?z9 ?z10 ?z11 ?z12 ?z13 ?z14 ?z15
    (case a1 => k_is)
    (case l1 => k_is)
    (case c1 => k_is)
    (case k1 => k_is)
    (case a2 => k_is)
    (case l2 => k_is)
    (case c2 => k_is)
    (case k2 => k_is)
    (case a3 => k_is)
    (case l3 => k_is)
    (case c3 => k_is)
    (case k3 => k_is)
    (case a4 => k_is)
    (case l4 => k_is)
    (case c4 => k_is)
    (case k4 => k_is)
    (case a5 => k_is)
    (case l5 => k_is)
    (case c5 => k_is)
    (case k5 => k_is)
    (case a6 => k_is)
    (case l6 => k_is)
    (case c6 => k_is)
    (case k6 => k_is)
    (case a7 => k_is)
    (case l7 => k_is)
    (case c7 => k_is)
    (case k7 => k_is)
    (case a8 => k_is)
    (case l8 => k_is)
    (case c8 => k_is)
    (case k8 => k_is)
    (case a9 => k_is)
    (case l9 => k_is)
    (case c9 => k_is)
    (case k9 => k_is)
    (case a10 => k_is)
    (case l10 => k_is)
    (case c10 => k_is)
    (case k10 => k_is)
    (case a11 => k_is)
    (case l11 => k_is)
    (case c11 => k_is)
    (case k11 => k_is)
    (case a12 => k_is)
    (case l12 => k_is)
    (case c12 => k_is)
    (case k12 => k_is)
    (case a13 => k_is)
    (case l13 => k_is)
    (case c13 => k_is)
    (case k13 => k_is)
    (case a14 => k_is)
    (case l14 => k_is)
    (case c14 => k_is)
    (case k14 => k_is)
    (case a15 => k_is)
    (case l15 => k_is)
    (case c15 => k_is)
    (case k15 => k_is)
    (case u1 => k_is)
    (case z1 => k_is)
    (case z2 => k_is)
    (case z3 => k_is)
    (case z4 => k_is)
    (case z5 => k_is)
    (case z6 => k_is)
    (case z7 => k_is)
    (case z8 => k_is)
    (case z9 => k_is)
    (case z10 => k_is)
    (case z11 => k_is)
    (case z12 => k_is)
    (case z13 => k_is)
    (case z14 => k_is)
    (case z15 => k_is)
