import PyProof.Rows.All
import Wide.All
import OpenK.AllK
import Wide.FinOn
import HandS.Base
import HandS.Call
import HandS.List
import HandS.Comp
import HandS.Ends
import HandS.Words
import PyProof.ReprRoads
import PyProof.ReprReads
import HandS.Wide
import HandS.Text
import HandS.Iter
import PyProof.StrBlock2
import KE.KxText
import HandS.TupAny
import PyProof.ReprLen
import HandS.IsInst
import PyProof.Rows.StrMeet
import KE.GoesMore
import KE.GoesEnum
import PyProof.Draws
import PyProof.EnumMake
import HandS.More
import PySem.Challenge.RW_movingpages_k03_edits_of_a_version
set_option Elab.async false
set_option linter.all false
set_option maxRecDepth 100000
set_option maxHeartbeats 4000000
/-! Promises of defs that are called while no repr is under way: then repr of data is its text. -/
namespace Gd
open PySem PySem.Spec PyProof.Rows L2
structure FnG (P : Program) (w : World) (K : PySem.W.Frag) (mg : Str → Option Value) (base : Heap) (k : Nat) (f : Addr) (fd : FuncData) (ps : List Str) (sp : Sp) : Prop where
  len : ∀ vs H Q E, sp vs H Q E → vs.length = ps.length
  go : ∀ {A : Around} {outer : List Env} {s : Shared} {H : Hp} {args : Args} {us : List Value} {vs : List V} {Q : VK} {E : XK}, A.guards = some [] → Room k A →
    Env0 P w K mg base A outer s H → BindsTo s fd args (ps.zip us) → Vals vs us → sp vs H Q E → codeAny (model P w) A (.call (.ref f) args) (CR CX0 outer P w H s Q E) s
section
variable {P : Program} {w : World} {K : PySem.W.Frag} {mg : Str → Option Value} {base : Heap} {k : Nat} {f : Addr} {fd : FuncData} {ps : List Str} {sp : Sp}
theorem FnG.up {j : Nat} (G : FnG P w K mg base j f fd ps sp) (h : j ≤ k) : FnG P w K mg base k f fd ps sp :=
  ⟨G.len, fun g r e b v q => G.go g (r.mono h) e b v q⟩
/-- a def's body, walked while no repr is under way -/
theorem okG {x qual : Str} {st : Stmt} {N : List Str} (F : Fun K x qual st f fd) (S : FnScope N ps (defScope st)) (len : ∀ vs H Q E, sp vs H Q E → vs.length = ps.length)
    (B : ∀ (cdv : Value) (A : Around) (outer : List Env) (s : Shared) (H : Hp) (vs : List V) (Q : VK) (E : XK), A.guards = some [] → Room k (A.deeper (envOfC qual (defScope st) s.heap.objs.size f cdv)) → sp vs H Q E →
      ∃ t, PSs (cxOf CX0 P w K mg base N qual (defScope st) f cdv A outer s H E).nox (defBody st) t ∧ t { nx := fun _ H' => Q .non H', rt := Q } (start N vs) H) : FnG P w K mg base (k + 1) f fd ps sp := by
  obtain ⟨oc, od, kV, doc, pm, an, cdv, ct, osl, rfl, lk, hcd⟩ := F.ex
  refine ⟨len, fun {A outer s H args us vs Q E} g room env0 bt rel want => ?_⟩
  have kin : K.In s.heap := env0.mod.kin.keeps fun b o q => (env0.bs b o q).1
  have nol : s.heap.NoLimit := env0.mod.nolimit.keeps fun b o q => (env0.bs b o q).1
  refine codeAny_call_function room.depth (kin _ _ lk) rfl S.co S.gen rfl (PySem.W.codeRec_of kin hcd) (bt _ _ _ _ ?_)
  refine wpAny_newFunctionEnv_cells S.kind ?_ fun env ee s1 inn => ?_
  · rintro ⟨n, v⟩ hy
    refine (S.par n (List.of_mem_zip hy).1).elim Or.inl fun q => Or.inr ⟨q, ?_⟩
    exact PySem.W.cellsFrom_some _ _ _ (Or.inl q)
  subst ee
  refine ⟨nol.keeps inn.toInCall.keep, codeAny_func ?_⟩
  obtain ⟨t, ht, hq⟩ := B cdv A outer s H vs Q E g (room.deeper _) want
  have I0 := inv_start (CX := CX0) (E := E) S room.hd env0 (len _ _ _ _ want) rel inn
  refine wpAny_mono (ht.nox.run [] s1 (start N vs) H _ I0 hq) (fun fl s' z => ?_) fun _ _ z => z
  cases fl with
  | ret u =>
    obtain ⟨v, σ', H', J, rv, q⟩ := z
    exact ⟨v, H', J.os, J.bare, J.base, J.hok, rv, q⟩
  | next =>
    obtain ⟨σ', H', J, q⟩ := z
    exact ⟨V.non, H', J.os, J.bare, J.base, J.hok, rfl, q⟩
  | brk => exact z.elim fun _ z => z.elim fun _ z => z.2.elim
  | cont => exact z.elim fun _ z => z.elim fun _ z => z.2.elim
end
section
variable {X : Cx} {k : Nat} {f : Addr} {fd : FuncData} {ps : List Str} {sp : Sp} {x : Str} {p pos : Pos} {e : Expr} {es : List Expr} {t : TA}
/-- f(e, ..) of such a def -/
theorem pe_callG (F : FnG X.prog X.w X.K X.mg X.base k f fd ps sp) (g : X.A.guards = some []) (room : Room k X.A) (hg : Gl X x) (hm : X.mg x = some (.ref f)) (hk : PySem.W.keepIn X.K (.ref f) = true) (hb : Binds X.K fd ps [])
    (ha : PA X (e :: es) t) (hdb : (x == ("__debug__" : Str)) = false := by decide) (he : starEach (e :: es) X.env = (false, eval e X.env) :: starEach es X.env := by rfl) (hpl : (backTo pos (starEach es X.env)).any (·.1) = false := by rfl) :
    PE X (.Call (.Name x p) (e :: es) [] pos) (tCall sp [] E0 t) := ⟨fun pins s σ H Q I h => by
  refine wpAny_Call_Name_kw (ld_glob I hg hm ?_ hdb)
  refine PySem.W.callWith_K (h₀ := X.base) I.ok.mod.kin hk (thn (ha.run pos pins s σ H _ I h) ?_) he hpl
  rintro us s1 ⟨vs, H1, I1, r, q⟩
  refine ⟨I1.kIn, ?_⟩
  have r0 : Vals (vs ++ []) (us ++ []) := r.append .nil
  have z := F.len _ _ _ _ q
  rw [r0.length] at z
  refine wpAny_call (codeAny_mono (F.go g room I1.env0 (hb s1 us I1.kIn z) r0 q) fun res s' hq => ?_)
  cases res with
  | error _ => exact False.elim hq
  | ok fl =>
    cases fl with
    | ret u => exact I1.after hq
    | next => exact False.elim hq
    | brk => exact False.elim hq
    | cont => exact False.elim hq⟩
end
/-- repr(x) of data without dicts -/
def rShow (K : PySem.W.Frag) : List V → Hp → VK → Prop := fun xs H Q => ∃ x d, xs = [x] ∧ Dp K H x d ∧ d.showable = true ∧ d.hasDict = false ∧ d.depth ≤ 60 ∧ d.shown.length ≤ sizeLine ∧ Q (.str d.shown) H
theorem call_show {X : Cx} (g : X.A.guards = some []) (hu : X.A.units + 64 < cLine) : CallR X (.builtin "repr") (rShow X.K) := by
  rintro pins s σ H xs us Q I r ⟨x, d, rfl, hd, hs, hn, hz, hl, q⟩
  obtain ⟨u, rfl, rx⟩ := vals1 r
  obtain ⟨as, rd⟩ := Dp.reads I d x u hd rx
  have keep : ∀ (h' : Heap) (tk : Nat), (∀ b o, s.heap.get? b = some o → h'.get? b = some o) → Inv X pins σ H { s with heap := h', toks := tk } := fun h' tk hk => I.un (Un.kept hk) (I.hok.kept hk)
  cases rd with
  | none => exact PySem.P.repr_of_none ⟨.str _, H, I.tok _, ⟨_, rfl⟩, q⟩
  | bool b => exact PySem.P.repr_of_bool ⟨.str _, H, I.tok _, ⟨_, rfl⟩, q⟩
  | int i t => exact PySem.P.repr_of_int (of_decide_eq_true hs) ⟨.str _, H, I.tok _, ⟨_, rfl⟩, q⟩
  | str x t => exact PySem.P.repr_of_str ⟨.str _, H, I.tok _, ⟨_, rfl⟩, q⟩ hl
  | list h1 h2 h3 h4 => exact repr_of_reads' (.list h1 h2 h3 h4) hs (PyData.noDict_hsm hn) g (by omega) (fun _ _ z => z) (fun h' v tk hk => ⟨.str _, H, keep h' tk hk, ⟨v, rfl⟩, q⟩) hl
  | tuple h1 h2 h3 h4 => exact repr_of_reads' (.tuple h1 h2 h3 h4) hs (PyData.noDict_hsm hn) g (by omega) (fun _ _ z => z) (fun h' v tk hk => ⟨.str _, H, keep h' tk hk, ⟨v, rfl⟩, q⟩) hl
  | dict h1 h2 h3 h4 h5 => cases hn
/-- the goal that k_head leaves, by such a promise of the law -/
theorem law_callG {P : Program} {w : World} {K : PySem.W.Frag} {mg mb : Str → Option Value} {k : Nat} {fa a : Addr} {fd : FuncData} {x : Str} {sp : Sp} {s₁ : Shared} {vs : List Value} {ns : List Int}
    (kin : K.In s₁.heap) (hns : s₁.heap.Ns mainGlobals mg) (hb : s₁.heap.Ns builtinsNs mb) (hbb : ∀ x : Str, x ≠ "__name__" → mb x = bootBuiltins x) (hlim : s₁.heap.NoLimit) (hg : s₁.gens = #[])
    (ha : s₁.heap.get? a = some { cls := .type "list", data := .seq vs.toArray }) (hi : IntsAre vs ns) (hl : ns.length ≤ sizeLine) (room : Room k callerA)
    (F : ∀ base : Heap, K.In base → base.Ns mainGlobals mg → FnG P w K mg base k fa fd [x] sp) (bind : ∀ (s : Shared) (u : Value), BindsTo s fd ⟨[u], []⟩ [(x, u)])
    (want : ∀ H : Hp, Only H → SqL K H a (ns.map V.int) → sp [.ref a] H (fun v _ => v = .bl true) fun _ _ _ => False) :
    codeAny (model P w) callerA (.call (.ref fa) ⟨[.ref a], []⟩) (fun r s' => r = .ok (.ret (.bool true)) ∧ OldK s₁.heap s'.heap ∧ s'.os = s₁.os ∧ AllBare s'.gens) s₁ := by
  have main : ∀ H : Hp, Only H → SqL K H a (ns.map V.int) → HOk P w H s₁.heap → (∀ b u, H b = some u → b = a ∧ K.lookup a = none) →
      codeAny (model P w) callerA (.call (.ref fa) ⟨[.ref a], []⟩) (fun r s' => r = .ok (.ret (.bool true)) ∧ OldK s₁.heap s'.heap ∧ s'.os = s₁.os ∧ AllBare s'.gens) s₁ := by
    intro H hO hS hok hA
    have off : ∀ {b : Addr} {o : Obj} {es : Array DictEntry} {ep : Nat}, s₁.heap.get? b = some o → o.data = .dict es ep → H b = none := by
      intro b o es ep e d
      cases q : H b with
      | none => rfl
      | some u =>
        obtain ⟨rfl, _⟩ := hA b u q
        rw [ha] at e
        cases e
        exact Data.noConfusion d
    have names : ∀ {b : Addr} {m : Str → Option Value}, s₁.heap.Ns b m → (hidT s₁.heap H).Ns b m := by
      rintro b m ⟨o, es, ep, e, d, r⟩
      exact ⟨o, es, ep, hidT_get e (off e d), d, r⟩
    have kin' : K.In (hidT s₁.heap H) := by
      intro b o e
      refine hidT_get (kin b o e) ?_
      cases q : H b with
      | none => rfl
      | some u =>
        obtain ⟨rfl, z⟩ := hA b u q
        rw [z] at e
        cases e
    obtain ⟨mc, l1, l2⟩ := hlim
    have hM : Mod K mg (hidT s₁.heap H) := ⟨kin', names hns, ⟨mb, names hb, hbb⟩, ⟨mc, names l1, l2⟩⟩
    have env0 : Env0 P w K mg (hidT s₁.heap H) callerA [] s₁ H :=
      ⟨rfl, hM, fun b o e => of_hidT e, Nat.le_of_eq (hidT_size _ _), trivial, fun b hb => (nomatch hb), hok, .of_eq hg⟩
    refine codeAny_mono ((F _ kin' (names hns)).go (us := [.ref a]) (vs := [.ref a]) rfl room env0 (bind s₁ (.ref a)) (.cons rfl .nil) (want H hO hS)) fun r s' h => ?_
    cases r with
    | error e => exact h.elim
    | ok fl =>
      cases fl with
      | next => exact False.elim h
      | brk => exact False.elim h
      | cont => exact False.elim h
      | ret u =>
        obtain ⟨v, H', os, bare, un, hok', r', q⟩ := h
        have q' : v = .bl true := q
        subst q'
        obtain rfl : u = Value.bool true := r'
        refine ⟨rfl, OldK.of_keep fun b o e => ?_, os, bare⟩
        rcases hO b with z | ⟨ob, xs, z⟩
        · exact un.keep b o e z (fun y => (nomatch y)) (fun y => (nomatch y))
        · obtain ⟨e1, _⟩ := hok b _ z
          obtain ⟨e2, _⟩ := hok' b _ (un.frzs b ob _ z)
          rw [e] at e1
          cases e1
          exact e2
  have lenV := hi.length
  have rv := vals_ints hi
  cases hk : K.lookup a with
  | some o =>
    have e := kin a o hk
    rw [ha] at e
    cases e
    refine main (fun _ => none) (fun _ => .inl rfl) (.inr ⟨_, vs.toArray, _, hk, rfl, rfl, rfl, ?_, ?_⟩) (fun b u z => (nomatch z)) (fun b u z => (nomatch z))
    · rw [List.size_toArray, lenV]
      exact hl
    · simpa using rv
  | none =>
    have at_a : ∀ (b : Addr) (u : HO), (if b = a then some (HO.frz { cls := .type "list", data := .seq vs.toArray } (.lst (ns.map V.int))) else none) = some u → b = a ∧ u = HO.frz { cls := .type "list", data := .seq vs.toArray } (.lst (ns.map V.int)) := by
      intro b u z
      split at z
      · next e => exact ⟨e, (Option.some.inj z).symm⟩
      · cases z
    refine main (fun b => if b = a then some (.frz { cls := .type "list", data := .seq vs.toArray } (.lst (ns.map V.int))) else none) (fun b => ?_) (.inl (.inr ⟨_, if_pos rfl⟩)) (fun b u z => ?_) (fun b u z => ⟨(at_a b u z).1, hk⟩)
    · by_cases hb : b = a
      · exact .inr ⟨_, _, if_pos hb⟩
      · exact .inl (if_neg hb)
    · obtain ⟨rfl, rfl⟩ := at_a b u z
      exact ⟨ha, by rw [List.length_map]; exact hl, vs, _, rv, ha⟩
theorem walkG {l : PySem.W.OpenLaw} {n k : Nat} {q : Program} {loose : List Str} {XP : (Str → Option Value) → Heap → Prop} {YP : World → Heap → Prop} {d : DefRec} {K : Params → PySem.W.Frag} {sp : PySem.W.Frag → Sp} {x : Str}
    (hn : l.most = some n) (hn2 : n ≤ sizeLine) (hdf : d.params.defaults = []) (room : Room k callerA) (hY : ∀ (w : World) (h : Heap), YP w h → (K w.params).In h)
    (F : ∀ (w : World) (mg : Str → Option Value) (fa : Addr) (h : Heap), (K w.params).In h → h.Ns mainGlobals mg → mg d.name = some (.ref fa) → ∃ fd : FuncData, (∀ (s : Shared) (u : Value), BindsTo s fd ⟨[u], []⟩ [(x, u)]) ∧
        ∀ base : Heap, (K w.params).In base → base.Ns mainGlobals mg → FnG l.prog w (K w.params) mg base k fa fd [x] (sp (K w.params)))
    (want : ∀ (K : PySem.W.Frag) (H : Hp) (a : Addr) (ns : List Int), ns.length ≤ n → Only H → SqL K H a (ns.map V.int) → sp K [.ref a] H (fun v _ => v = .bl true) fun _ _ _ => False) :
    PySem.W.WalkO q loose XP YP l.row.toRowW d [] (fun f vs => PySem.call f vs) :=
  Att.attach_call hn hdf fun w s₀ s₁ mg mb fa o pm cd doc a vs ns G Y ho hd hcd hmg hobj hints hlen hg => by
    obtain ⟨fd, hb, hF⟩ := F w mg fa _ (hY w _ Y) G.T.g hmg
    exact law_callG (hY w _ Y) G.T.g G.T.b G.T.builtins G.T.nolimit hg hobj hints (Nat.le_trans hlen hn2) room hF hb fun H hO hS => want _ H a ns hlen hO hS
end Gd
namespace M
open PySem PySem.Spec PyProof.Rows L2 Gd
def topS (i : Nat) : Stmt := PySem.Challenge.pw_movingpages_k03_edits_of_a_version.main.body.getD i (.Pass ⟨0, 0, 0, 0⟩)
/-- the hand at a: its three ints, at most n draws old -/
def Hd (H : Hp) (a : Addr) (n : Nat) : Prop := ∃ g s t : Int, H a = some (.lst [.int g, .int s, .int t]) ∧ 0 ≤ g ∧ 0 ≤ s ∧ s < 2305843009213693952 ∧ 0 ≤ t ∧ t ≤ n
/-- all but what stands at a is as it was -/
def But (a : Addr) (H H' : Hp) : Prop := ∀ b o, b ≠ a → H b = some o → H' b = some o
theorem But.refl (a : Addr) (H : Hp) : But a H H := fun _ _ _ h => h
theorem But.trans {a : Addr} {H H1 H2 : Hp} (x : But a H H1) (y : But a H1 H2) : But a H H2 := fun b o n h => y b o n (x b o n h)
theorem But.new {a p : Addr} {H H1 : Hp} {o : HO} (x : But a H H1) (h : H1 p = none) : But a H (upd H1 p o) := fun b u n e => by
  have e1 := x b u n e
  rw [upd_ne (ne_of_none e1 h)]
  exact e1
theorem But.put {a : Addr} {H H1 : Hp} {o : HO} (x : But a H H1) : But a H (upd H1 a o) := fun b u n e => by
  rw [upd_ne n]
  exact x b u n e
/-- an object that was new ahead of all may change -/
theorem But.own {a p : Addr} {H H1 : Hp} {o : HO} (x : But a H H1) (h : H p = none) : But a H (upd H1 p o) := fun b u n e => by
  rw [upd_ne (ne_of_none e h)]
  exact x b u n e
theorem Hd.up {H : Hp} {a : Addr} {n m : Nat} (h : Hd H a n) (l : n ≤ m) : Hd H a m := by
  obtain ⟨g, s, t, e, h1, h2, h3, h4, h5⟩ := h
  exact ⟨g, s, t, e, h1, h2, h3, h4, by omega⟩
theorem Hd.some {H : Hp} {a : Addr} {n : Nat} (h : Hd H a n) : ∃ xs, H a = some (.lst xs) := by
  obtain ⟨g, s, t, e, _⟩ := h
  exact ⟨_, e⟩
theorem Hd.new {H : Hp} {a p : Addr} {n : Nat} {o : HO} (h : Hd H a n) (hp : H p = none) : Hd (upd H p o) a n := by
  obtain ⟨g, s, t, e, r⟩ := h
  exact ⟨g, s, t, by rw [upd_ne (ne_of_none e hp)]; exact e, r⟩
theorem Hd.ne {H : Hp} {a p : Addr} {n : Nat} (h : Hd H a n) (hp : H p = none) : p ≠ a := fun z => by
  obtain ⟨g, s, t, e, r⟩ := h
  rw [z, e] at hp
  cases hp
theorem Hd.oth {H : Hp} {a p : Addr} {n : Nat} {o : HO} (h : Hd H a n) (hp : p ≠ a) : Hd (upd H p o) a n := by
  obtain ⟨g, s, t, e, r⟩ := h
  exact ⟨g, s, t, by rw [upd_ne (Ne.symm hp)]; exact e, r⟩
/-! ### take -/
abbrev sTake : Stmt := topS 19
theorem scTake : FnScope ["_law_hand_here", "_law_many", "_law_digit", "_law_prime", "_law_turn", "_law_mixed"] ["_law_hand_here", "_law_many"] (defScope sTake) := ⟨rfl, rfl, rfl, by decide +kernel, rfl, by decide +kernel, by decide +kernel⟩
def spTake : Sp := fun vs H Q _ => ∃ (a : Addr) (n : Nat) (m : Int), vs = [.ref a, .int m] ∧ Hd H a n ∧ n < 1000000 ∧ 0 < m ∧ m < 1073741824 ∧
  ∀ H' (v : Int), But a H H' → Hd H' a (n + 1) → 0 ≤ v → v < m → Q (.int v) H'
section
variable {P : Program} {w : World} {K : PySem.W.Frag} {mg : Str → Option Value} {base : Heap}
theorem prime_at {i : Int} (h0 : 0 ≤ i) (h1 : i < 6) : ∃ p : Int, atI [V.int 2147483647, V.int 2147483629, V.int 2147483587, V.int 2147483579, V.int 2147483563, V.int 2147483549] i = some (V.int p) ∧ 0 < p ∧ p < 2147483648 := by
  obtain ⟨j, rfl⟩ := Int.eq_ofNat_of_zero_le h0
  have hj : j < 6 := by omega
  match j, hj with
  | 0, _ => exact ⟨_, atI_nat (j := 0) rfl, by decide, by decide⟩
  | 1, _ => exact ⟨_, atI_nat (j := 1) rfl, by decide, by decide⟩
  | 2, _ => exact ⟨_, atI_nat (j := 2) rfl, by decide, by decide⟩
  | 3, _ => exact ⟨_, atI_nat (j := 3) rfl, by decide, by decide⟩
  | 4, _ => exact ⟨_, atI_nat (j := 4) rfl, by decide, by decide⟩
  | 5, _ => exact ⟨_, atI_nat (j := 5) rfl, by decide, by decide⟩
theorem sq_bound {t : Int} (h0 : 0 ≤ t) (h1 : t ≤ 1000000) : 0 ≤ 65537 * t * t ∧ 65537 * t * t ≤ 65537000000000000 := by
  have a1 : 0 ≤ 65537 * t := by omega
  have a2 : 65537 * t ≤ 65537000000 := by omega
  have b1 : 0 ≤ 65537 * t * t := Int.mul_nonneg a1 h0
  have b2 : 65537 * t * t ≤ 65537000000 * 1000000 := Int.mul_le_mul a2 h1 h0 (by decide)
  exact ⟨b1, by omega⟩
theorem ok_take {f : Addr} {fd : FuncData} {k : Nat} (F : Fun K "_law_take" "_law_take" sTake f fd) : FnOk P w K mg base CX0 (k + 1) f fd ["_law_hand_here", "_law_many"] spTake := by
  refine F.ok scTake (fun vs H Q E h => ?_) (fun cdv A outer s H vs Q E hr h => ?_)
  · obtain ⟨a, n, m, rfl, _⟩ := h
    rfl
  · obtain ⟨a, n, m, rfl, ⟨g, sd, t, ha, g0, s0, s1, t0, t1⟩, hn, m0, m1, q⟩ := h
    refine ⟨_, pss_cons (ps_if (pt_cmpR op_gt (pe_ix ix_list (pv 0) pe_int (fun _ _ => rfl)) pe_int (nomark _))
        (pss_cons (ps_set (i := 2) scTake.nd rfl (.inl rfl) (pe_op op_mod (pe_ix ix_list (pv 0) pe_int (fun _ _ => rfl)) (pv 1)))
        (pss_cons (ps_asg (pe_op op_fdivN (pe_ix ix_list (pv 0) pe_int (fun _ _ => rfl)) (pv 1)) (pg_sub (pv 0) pe_int set_list))
        (pss_one (ps_ret (pv 2))))) pss_nil)
      (pss_cons (ps_asg (pe_op op_add (pe_ix ix_list (pv 0) pe_int (fun _ _ => rfl)) pe_int) (pg_sub (pv 0) pe_int set_list))
      (pss_cons (ps_set (i := 3) scTake.nd rfl (.inl rfl) (pe_ix ix_list (pe_lst (pa_cons pe_int (pa_cons pe_int (pa_cons pe_int (pa_cons pe_int (pa_cons pe_int (pa_cons pe_int pa_nil)))))))
          (pe_op op_mod (pe_ix ix_list (pv 0) pe_int (fun _ _ => rfl)) pe_int) (fun _ _ => rfl)))
      (pss_cons (ps_set (i := 4) scTake.nd rfl (.inl rfl) (pe_ix ix_list (pv 0) pe_int (fun _ _ => rfl)))
      (pss_cons (ps_set (i := 5) scTake.nd rfl (.inl rfl) (pe_op op_mod (pe_op op_pow (pe_op op_add (pe_op op_add (pe_ix ix_list (pv 0) pe_int (fun _ _ => rfl)) (pe_op op_mul (pe_op op_mul pe_int (pv 4)) (pv 4))) (pe_op op_mul pe_int (pv 4))) pe_int) (pv 3)))
      (pss_one (ps_ret (pe_op op_mod (pe_op op_fdivN (pe_op op_mod (pe_op op_mul (pv 5) (pe_op op_add (pe_op op_mod (pv 5) pe_int) (pe_op op_mul pe_int (pv 4)))) pe_int) pe_int) (pv 1)))))))), ?_⟩
    have hA : SqL K H a [.int g, .int sd, .int t] := .inl (.inl ha)
    -- if hand[0] > 0
    refine ⟨.ref a, rfl, a, _, 0, .int g, rfl, rfl, hA, atI_nat (j := 0) rfl, g, 0, rfl, rfl, _, rfl, ite2 (fun e => ?_) (fun e => ?_)⟩
    · -- digit = hand[0] % many
      refine ⟨.ref a, rfl, a, _, 0, .int g, rfl, rfl, hA, atI_nat (j := 0) rfl, .int m, rfl, g, m, rfl, rfl, m0, ?_⟩
      -- hand[0] = hand[0] // many
      refine ⟨.ref a, rfl, a, _, 0, .int g, rfl, rfl, hA, atI_nat (j := 0) rfl, .int m, rfl, g, m, rfl, rfl, ⟨by omega, by omega⟩, ?_⟩
      refine ⟨.ref a, rfl, a, _, 0, 0, rfl, rfl, ha, rfl, ?_⟩
      refine ⟨.int (g % m), rfl, ?_⟩
      refine q _ _ (But.refl a H).put ⟨g.fdiv m, sd, t, upd_same, ?_, s0, s1, t0, by omega⟩ (Int.emod_nonneg _ (by omega)) (Int.emod_lt_of_pos _ m0)
      rw [Int.fdiv_eq_ediv_of_nonneg g (by omega)]
      exact Int.ediv_nonneg g0 (by omega)
    · -- hand[2] = hand[2] + 1
      refine ⟨.ref a, rfl, a, _, 2, .int t, rfl, rfl, hA, atI_nat (j := 2) rfl, t, 1, rfl, rfl, ?_⟩
      refine ⟨.ref a, rfl, a, _, 2, 2, rfl, rfl, ha, rfl, ?_⟩
      have hB : (upd H a (.lst [.int g, .int sd, .int (t + 1)])) a = some (.lst [.int g, .int sd, .int (t + 1)]) := upd_same
      -- prime
      refine ⟨(by show 6 ≤ sizeLine; decide), fun l hl => ?_⟩
      have nal : a ≠ l := ne_of_none hB hl
      have hC : (upd (upd H a (.lst [.int g, .int sd, .int (t + 1)])) l (.lst [.int 2147483647, .int 2147483629, .int 2147483587, .int 2147483579, .int 2147483563, .int 2147483549])) a = some (.lst [.int g, .int sd, .int (t + 1)]) := by
        rw [upd_ne nal]
        exact hB
      obtain ⟨p, hp, p0, p1⟩ := prime_at (i := (t + 1) % 6) (Int.emod_nonneg _ (by decide)) (Int.emod_lt_of_pos _ (by decide))
      refine ⟨.ref a, rfl, a, _, 2, .int (t + 1), rfl, rfl, .inl (.inl hC), atI_nat (j := 2) rfl, t + 1, 6, rfl, rfl, (by show (0 : Int) < 6; decide), ?_⟩
      refine ⟨l, _, (t + 1) % 6, .int p, rfl, rfl, .inl (.inl upd_same), hp, ?_⟩
      -- turn
      refine ⟨.ref a, rfl, a, _, 2, .int (t + 1), rfl, rfl, .inl (.inl hC), atI_nat (j := 2) rfl, ?_⟩
      -- mixed
      have B := sq_bound (t := t + 1) (by omega) (by omega)
      have hb : (sd + 65537 * (t + 1) * (t + 1) + 31 * (t + 1)).natAbs < 2 ^ 64 := by omega
      refine ⟨.ref a, rfl, a, _, 1, .int sd, rfl, rfl, .inl (.inl hC), atI_nat (j := 1) rfl, .int (t + 1), rfl, 65537, t + 1, rfl, rfl, .inl ⟨by decide, by decide⟩, .int (t + 1), rfl, _, t + 1, rfl, rfl, .inr ⟨by omega, by omega⟩,
        _, _, rfl, rfl, .int (t + 1), rfl, 31, t + 1, rfl, rfl, .inl ⟨by decide, by decide⟩, _, _, rfl, rfl, _, 3, rfl, rfl, ⟨by decide, by decide, hb⟩, .int p, rfl, _, p, rfl, rfl, p0, ?_⟩
      -- the end
      have x0 : 0 ≤ (sd + 65537 * (t + 1) * (t + 1) + 31 * (t + 1)) ^ (3 : Int).toNat % p := Int.emod_nonneg _ (by omega)
      have x1 : (sd + 65537 * (t + 1) * (t + 1) + 31 * (t + 1)) ^ (3 : Int).toNat % p < p := Int.emod_lt_of_pos _ p0
      refine ⟨_, rfl, _, rfl, _, 10007, rfl, rfl, (by show (0 : Int) < 10007; decide), .int (t + 1), rfl, 13, t + 1, rfl, rfl, .inl ⟨by decide, by decide⟩, _, _, rfl, rfl, _, _, rfl, rfl, .inl ⟨by omega, by omega⟩,
        _, 2305843009213693907, rfl, rfl, (by show (0 : Int) < 2305843009213693907; decide), _, 97, rfl, rfl, ⟨by decide, by decide⟩, .int m, rfl, _, m, rfl, rfl, m0, ?_⟩
      refine q _ _ ((But.refl a H).put.new hl) ⟨g, sd, t + 1, hC, g0, s0, s1, by omega, by omega⟩ (Int.emod_nonneg _ (by omega)) (Int.emod_lt_of_pos _ m0)
end
end M
namespace M
open PySem PySem.Spec PyProof.Rows L2 Gd
/-! ### pick -/
abbrev sPick : Stmt := topS 20
theorem scPick : FnScope ["_law_hand_here", "_law_items"] ["_law_hand_here", "_law_items"] (defScope sPick) := ⟨rfl, rfl, rfl, by decide +kernel, rfl, by decide +kernel, by decide +kernel⟩
def spPick : Sp := fun vs H Q _ => ∃ (a : Addr) (n : Nat) (x : V), vs = [.ref a, x] ∧ Hd H a n ∧ n < 1000000 ∧
  ((∃ b xs, x = .ref b ∧ b ≠ a ∧ (H b = some (.lst xs) ∨ H b = some (.tup xs)) ∧ 0 < xs.length ∧ xs.length ≤ 1000 ∧ ∀ H' v, But a H H' → Hd H' a (n + 1) → v ∈ xs → Q v H') ∨
   (∃ z : Str, x = .str z ∧ 0 < z.length ∧ z.length ≤ 1000 ∧ ∀ H' c, But a H H' → Hd H' a (n + 1) → c ∈ z.cps.toList → Q (.str ⟨#[c]⟩) H'))
theorem at_in {α : Type} {xs : List α} {i : Int} (h0 : 0 ≤ i) (h1 : i < (xs.length : Int)) : ∃ v, v ∈ xs ∧ atI xs i = some v := by
  obtain ⟨j, rfl⟩ := Int.eq_ofNat_of_zero_le h0
  have hj : j < xs.length := by omega
  exact ⟨xs[j], List.getElem_mem hj, atI_nat (List.getElem?_eq_getElem hj)⟩
theorem sz1000 {n : Nat} (h : n ≤ 1000) : n ≤ sizeLine := Nat.le_trans h (by decide)
section
variable {P : Program} {w : World} {K : PySem.W.Frag} {mg : Str → Option Value} {base : Heap}
theorem ok_pick {f fT : Addr} {fd fdT : FuncData} {k : Nat} (F : Fun K "_law_pick" "_law_pick" sPick f fd) (FT : Fun K "_law_take" "_law_take" sTake fT fdT) (bT : Binds K fdT ["_law_hand_here", "_law_many"] []) (gT : mg "_law_take" = some (.ref fT)) (ml : mg "len" = none) :
    FnOk P w K mg base CX0 (k + 2) f fd ["_law_hand_here", "_law_items"] spPick := by
  have GT : FnOk P w K mg base CX0 (k + 1) fT fdT ["_law_hand_here", "_law_many"] spTake := ok_take FT
  refine F.ok scPick (fun vs H Q E h => ?_) (fun cdv A outer s H vs Q E hr h => ?_)
  · obtain ⟨a, n, x, rfl, _⟩ := h
    rfl
  · obtain ⟨a, n, x, rfl, hh, hn, h⟩ := h
    refine ⟨_, pss_one (ps_ret (pe_ix ix_seq (pv 1) (pe_call GT hr (by rfl) gT FT.kp bT .nil pass0 (pa_cons (pv 0) (pa_cons (pe_callB call_len (by rfl) ml PySem.boot_len (pa_cons (pv 1) pa_nil)) pa_nil))) (fun _ _ => rfl))), ?_⟩
    rcases h with ⟨b, xs, rfl, nb, hb, l0, l1, q⟩ | ⟨z, rfl, l0, l1, q⟩
    · have hl : LenV K (.ref b) H xs.length := by
        rcases hb with hb | hb
        · exact .inl ⟨xs, SqL.of hb, rfl⟩
        · exact .inr ⟨xs, SqT.of hb, rfl⟩
      refine ⟨.ref b, rfl, .ref a, rfl, .ref b, rfl, _, xs.length, rfl, hl, a, n, xs.length, rfl, hh, hn, by omega, by omega, fun H' v sb hd v0 v1 => ?_⟩
      obtain ⟨y, hy, ey⟩ := at_in (xs := xs) v0 v1
      rcases hb with hb | hb
      · exact .inl ⟨b, xs, v, y, rfl, rfl, SqL.of (sb b _ nb hb), ey, q H' y sb hd hy⟩
      · exact .inr (.inl ⟨b, xs, v, y, rfl, rfl, SqT.of (sb b _ nb hb), ey, q H' y sb hd hy⟩)
    · refine ⟨.str z, rfl, .ref a, rfl, .str z, rfl, _, z.length, rfl, ⟨sz1000 l1, rfl⟩, a, n, z.length, rfl, hh, hn, by omega, by omega, fun H' v sb hd v0 v1 => ?_⟩
      obtain ⟨y, hy, ey⟩ := at_in (xs := z.cps.toList) v0 (by rw [show z.cps.toList.length = z.length from Array.length_toList]; exact v1)
      exact .inr (.inr ⟨z, v, y, rfl, rfl, sz1000 l1, ey, q H' y sb hd hy⟩)
end
/-! ### names -/
theorem op_rep_str {X : Cx} : OpR X (binaryOp .Mult) (fun x y H Q => ∃ z n, x = .str z ∧ y = .int n ∧ MulOk z n ∧ Q (.str (Txt.mul z n)) H) := by
  rintro pins s σ H x y v u Q I rx ry ⟨z, n, rfl, rfl, ok, q⟩
  obtain ⟨t, rfl⟩ := rx
  obtain ⟨t', rfl⟩ := ry
  exact SB.mul ok fun _ k => ⟨.str _, H, I.tok _, ⟨_, rfl⟩, q⟩
/-- a row -/
def RowS (z : Str) : Prop := 1 ≤ z.length ∧ z.length ≤ 8 ∧ ∀ c ∈ z.cps.toList, 97 ≤ c ∧ c ≤ 122
abbrev abc : Str := "abcdefghijklmnopqrstuvwxyz"
theorem abc_len : abc.length = 26 := by decide +kernel
theorem abc_at : ∀ j : Nat, j < 26 → abc.cps.toList[j]? = some (97 + j) := by decide +kernel
theorem abc_mem : ∀ c ∈ abc.cps.toList, 97 ≤ c ∧ c ≤ 122 := by decide +kernel
def nmS (z : Str) (k : Nat) (c : Nat) : Str := cutS z none (some (k : Int)) ++ ⟨#[c]⟩ ++ cutS z (some (k : Int)) none
theorem len_cps (z : Str) : z.cps.toList.length = z.length := Array.length_toList
theorem nmS_list {z : Str} {k c : Nat} (hk : k ≤ z.length) : (nmS z k c).cps.toList = z.cps.toList.take k ++ c :: z.cps.toList.drop k := by
  unfold nmS cutS
  rw [PySem.W.KT.app_list, PySem.W.KT.app_list, HT.sIx_none, HT.sIx_none, HT.sIx_nat, HT.sIx_nat, Nat.min_eq_left hk]
  show (List.take (k - 0) (List.drop 0 z.cps.toList)) ++ [c] ++ List.take (z.length - k) (List.drop k z.cps.toList) = _
  rw [List.drop_zero, Nat.sub_zero, List.append_assoc]
  have e : List.take (z.length - k) (List.drop k z.cps.toList) = List.drop k z.cps.toList := List.take_of_length_le (by rw [List.length_drop, len_cps]; omega)
  rw [e]
  rfl
theorem nmS_len {z : Str} {k c : Nat} (hk : k ≤ z.length) : (nmS z k c).length = z.length + 1 := by
  rw [← len_cps, nmS_list hk, List.length_append, List.length_cons, List.length_take, List.length_drop, len_cps]
  omega
theorem nmS_inj {z : Str} {k c d : Nat} (hk : k ≤ z.length) (h : nmS z k c = nmS z k d) : c = d := by
  have e := congrArg (fun s : Str => s.cps.toList) h
  simp only [nmS_list hk] at e
  have e2 := List.append_cancel_left e
  exact (List.cons.inj e2).1
theorem nmS_row {z : Str} {k c : Nat} (hk : k ≤ z.length) (hz : z.length ≤ 7) (ha : ∀ x ∈ z.cps.toList, 97 ≤ x ∧ x ≤ 122) (hc : 97 ≤ c ∧ c ≤ 122) : RowS (nmS z k c) := by
  refine ⟨by rw [nmS_len hk]; omega, by rw [nmS_len hk]; omega, fun x hx => ?_⟩
  rw [nmS_list hk] at hx
  rcases List.mem_append.mp hx with hx | hx
  · exact ha x (List.mem_of_mem_take hx)
  · rcases List.mem_cons.mp hx with hx | hx
    · rw [hx]; exact hc
    · exact ha x (List.mem_of_mem_drop hx)
/-- the j-th letter's place -/
def plc (first leap : Int) (j : Nat) : Nat := ((first + leap * (j : Int)) % 26).toNat
theorem plc_lt (first leap : Int) (j : Nat) : plc first leap j < 26 := by
  unfold plc
  have := Int.emod_nonneg (first + leap * (j : Int)) (show (26 : Int) ≠ 0 by decide)
  have := Int.emod_lt_of_pos (first + leap * (j : Int)) (show (0 : Int) < 26 by decide)
  omega
theorem plc_inj {first leap : Int} (hl : leap ∈ [(1 : Int), 3, 5, 7, 9, 11, 25]) {i j : Nat} (hi : i < 26) (hj : j < 26) (h : plc first leap i = plc first leap j) : i = j := by
  unfold plc at h
  simp only [List.mem_cons, List.not_mem_nil, or_false] at hl
  rcases hl with rfl | rfl | rfl | rfl | rfl | rfl | rfl <;> omega
def nmL (z : Str) (k : Nat) (first leap : Int) (n : Nat) : List Str := (List.range n).map fun j => nmS z k (97 + plc first leap j)
theorem nmL_nodup {z : Str} {k n : Nat} {first leap : Int} (hk : k ≤ z.length) (hl : leap ∈ [(1 : Int), 3, 5, 7, 9, 11, 25]) (hn : n ≤ 26) : (nmL z k first leap n).Nodup := by
  unfold nmL
  rw [List.nodup_iff_pairwise_ne, List.pairwise_map]
  refine List.Pairwise.imp_of_mem ?_ (List.nodup_iff_pairwise_ne.mp List.nodup_range)
  intro i j hi hj ne e
  have hi := List.mem_range.mp hi
  have hj := List.mem_range.mp hj
  have e2 := nmS_inj hk e
  exact ne (plc_inj (first := first) hl (by omega) (by omega) (by omega))
theorem nmL_len {z : Str} {k n : Nat} {first leap : Int} : (nmL z k first leap n).length = n := by
  unfold nmL
  rw [List.length_map, List.length_range]
theorem nmL_row {z : Str} {k n : Nat} {first leap : Int} (hk : k ≤ z.length) (hz : z.length ≤ 7) (ha : ∀ x ∈ z.cps.toList, 97 ≤ x ∧ x ≤ 122) : ∀ y ∈ nmL z k first leap n, RowS y := by
  intro y hy
  unfold nmL at hy
  obtain ⟨j, _, rfl⟩ := List.mem_map.mp hy
  have := plc_lt first leap j
  exact nmS_row hk hz ha (by omega)
/-- a stem -/
theorem stem_ok {c : Nat} (hc : 97 ≤ c ∧ c ≤ 122) {n : Int} (hn : V.int n ∈ [V.int 0, V.int 0, V.int 1, V.int 3, V.int 7]) : MulOk ⟨#[c]⟩ n ∧ (Txt.mul ⟨#[c]⟩ n).length ≤ 7 ∧ ∀ x ∈ (Txt.mul ⟨#[c]⟩ n).cps.toList, 97 ≤ x ∧ x ≤ 122 := by
  have hn2 : n = 0 ∨ n = 1 ∨ n = 3 ∨ n = 7 := by
    simp only [List.mem_cons, List.not_mem_nil, or_false, V.int.injEq] at hn
    omega
  have one : ∀ l : List Nat, (∀ x ∈ l, x = c) → ∀ x ∈ l, 97 ≤ x ∧ x ≤ 122 := fun l h x hx => by rw [h x hx]; exact hc
  rcases hn2 with rfl | rfl | rfl | rfl
  · exact ⟨⟨by decide, fun h => absurd (by decide) h, fun h => absurd (by decide) h⟩, by show 0 ≤ 7; decide, one _ (fun x hx => by cases hx)⟩
  · exact ⟨⟨by decide, fun (_ : ¬ (1 : Int) < 1) h => Bool.noConfusion h, fun _ h => Bool.noConfusion h⟩, by show 1 ≤ 7; decide, one _ (fun x hx => by
      have hx : x ∈ [c] := hx
      simpa using hx)⟩
  · exact ⟨⟨by decide, fun _ _ => by show ¬ ((1 : Nat) : Int) > _; decide, fun _ _ => by show Builtin.Str.tooLong 3 = false; decide⟩, by show 3 ≤ 7; decide, one _ (fun x hx => by
      have hx : x ∈ [c, c, c] := hx
      simpa using hx)⟩
  · exact ⟨⟨by decide, fun _ _ => by show ¬ ((1 : Nat) : Int) > _; decide, fun _ _ => by show Builtin.Str.tooLong 7 = false; decide⟩, by show 7 ≤ 7; decide, one _ (fun x hx => by
      have hx : x ∈ [c, c, c, c, c, c, c] := hx
      simpa using hx)⟩
end M
namespace M
open PySem PySem.Spec PyProof.Rows L2 Gd
/-- what is new behind was new ahead -/
theorem fr {a p : Addr} {H H' : Hp} {n m : Nat} (b : But a H H') (h : Hd H a n) (h' : Hd H' a m) (hp : H' p = none) : H p = none := by
  cases e : H p with
  | none => rfl
  | some o =>
    rw [b p o (h'.ne hp) e] at hp
    cases hp
theorem lc_yes {σ : L2.St} {H : Hp} {A B : Hp → Prop} (h : A H) : tYes σ H (fun b H3 => if b = true then A H3 else B H3) := by
  show (if true = true then A H else B H)
  rw [if_pos rfl]
  exact h
abbrev sNames : Stmt := topS 21
abbrev nNames : List Str := ["_law_hand_here", "_law_count", "_law_letters", "_law_first", "_law_leap", "_law_stem", "_law_cut", "_law_nth"]
theorem scNames : FnScope nNames ["_law_hand_here", "_law_count"] (defScope sNames) := ⟨rfl, rfl, rfl, by decide +kernel, rfl, by decide +kernel, by decide +kernel⟩
def spNames : Sp := fun vs H Q _ => ∃ (a : Addr) (n : Nat) (c : Nat), vs = [.ref a, .int c] ∧ Hd H a n ∧ n < 900000 ∧ c ≤ 26 ∧
  ∀ H' p (ns : List Str), But a H H' → Hd H' a (n + 5) → H p = none → H' p = some (.lst (ns.map V.str)) → ns.length = c → ns.Nodup → (∀ z ∈ ns, RowS z) → Q (.ref p) H'
section
variable {P : Program} {w : World} {K : PySem.W.Frag} {mg : Str → Option Value} {base : Heap}
theorem ok_names {f fT fP : Addr} {fd fdT fdP : FuncData} {k : Nat} (F : Fun K "_law_names" "_law_names" sNames f fd) (FT : Fun K "_law_take" "_law_take" sTake fT fdT) (bT : Binds K fdT ["_law_hand_here", "_law_many"] []) (gT : mg "_law_take" = some (.ref fT))
    (FP : Fun K "_law_pick" "_law_pick" sPick fP fdP) (bP : Binds K fdP ["_law_hand_here", "_law_items"] []) (gP : mg "_law_pick" = some (.ref fP)) (ml : mg "len" = none) (mr : mg "range" = none) :
    FnOk P w K mg base CX0 (k + 3) f fd ["_law_hand_here", "_law_count"] spNames := by
  have GT : FnOk P w K mg base CX0 (k + 1) fT fdT ["_law_hand_here", "_law_many"] spTake := ok_take FT
  have GP : FnOk P w K mg base CX0 (k + 2) fP fdP ["_law_hand_here", "_law_items"] spPick := ok_pick FP FT bT gT ml
  refine F.ok scNames (fun vs H Q E h => ?_) (fun cdv A outer s H vs Q E hr h => ?_)
  · obtain ⟨a, n, c, rfl, _⟩ := h
    rfl
  · obtain ⟨a, n, c, rfl, hh, hn, hc, q⟩ := h
    have hr1 := hr.mono (show k + 1 ≤ k + 2 by omega)
    refine ⟨_, pss_cons (ps_set (i := 2) scNames.nd rfl (.inr rfl) pe_str)
      (pss_cons (ps_asg (pe_tup (pa_cons (pe_call GT hr1 (by rfl) gT FT.kp bT .nil pass0 (pa_cons (pv 0) (pa_cons pe_int pa_nil)))
          (pa_cons (pe_call GP hr (by rfl) gP FP.kp bP .nil pass0 (pa_cons (pv 0) (pa_cons (pe_lst (pa_cons pe_int (pa_cons pe_int (pa_cons pe_int (pa_cons pe_int (pa_cons pe_int (pa_cons pe_int (pa_cons pe_int pa_nil)))))))) pa_nil))) pa_nil)))
        (pg_tup rfl (pgs_cons (pg_name (i := 3) scNames.nd rfl (.inr rfl)) (pgs_cons (pg_name (i := 4) scNames.nd rfl (.inr rfl)) pgs_nil))))
      (pss_cons (ps_set (i := 5) scNames.nd rfl (.inr rfl) (pe_op op_rep_str (pe_call GP hr (by rfl) gP FP.kp bP .nil pass0 (pa_cons (pv 0) (pa_cons (pv 2) pa_nil)))
          (pe_call GP hr (by rfl) gP FP.kp bP .nil pass0 (pa_cons (pv 0) (pa_cons (pe_lst (pa_cons pe_int (pa_cons pe_int (pa_cons pe_int (pa_cons pe_int (pa_cons pe_int pa_nil)))))) pa_nil)))))
      (pss_cons (ps_set (i := 6) scNames.nd rfl (.inr rfl) (pe_call GT hr1 (by rfl) gT FT.kp bT .nil pass0 (pa_cons (pv 0) (pa_cons (pe_op op_add (pe_callB call_len (by rfl) ml PySem.boot_len (pa_cons (pv 5) pa_nil)) pe_int) pa_nil))))
      (pss_one (ps_ret (pe_lc (own := [("_law_nth", 7)]) (g := gName 7) (tt := tYes) rfl scNames.nd (pi_range1 rfl mr (pa_cons (pv 1) pa_nil)) (blkOk_by (own := [("_law_nth", 7)]) (N := nNames) (sc := defScope sNames) (by decide +kernel))
        (fun _ _ _ _ _ => pg_name (i := 7) scNames.nd rfl (.inl rfl)) (fun _ _ _ _ _ => pts_nil)
        (fun _ _ _ _ _ => pe_op op_add_str (pe_op op_add_str (pe_slice sl_str (pv 5) po_none (po_some (pv 6))) (pe_ix ix_str (pv 2) (pe_op op_mod (pe_op op_add (pv 3) (pe_op op_mul (pv 4) (pv 7))) pe_int) (fun _ _ => rfl))) (pe_slice sl_str (pv 5) (po_some (pv 6)) po_none)))))))), ?_⟩
    -- first, leap
    refine ⟨.ref a, rfl, a, n, 26, rfl, hh, by omega, by decide, by decide, fun H1 first sb1 hd1 f0 f1 => ?_⟩
    refine ⟨.ref a, rfl, (by show 7 ≤ sizeLine; decide), fun l hl => ?_⟩
    refine ⟨a, n + 1, .ref l, rfl, hd1.new hl, by omega, .inl ⟨l, _, rfl, hd1.ne hl, .inl upd_same, by decide, by decide, fun H2 v sb2 hd2 hv => ?_⟩⟩
    obtain ⟨leap, rfl, hleap⟩ : ∃ leap : Int, v = .int leap ∧ leap ∈ [(1 : Int), 3, 5, 7, 9, 11, 25] := by
      have hv : v ∈ [(1 : Int), 3, 5, 7, 9, 11, 25].map V.int := hv
      obtain ⟨x, hx, rfl⟩ := List.mem_map.mp hv
      exact ⟨x, rfl, hx⟩
    refine ⟨(by show 2 ≤ sizeLine; decide), fun t ht => ?_⟩
    refine ⟨t, _, rfl, SqT.of upd_same, rfl, _, _, rfl, _, _, rfl, rfl, ?_⟩
    have b3 : But a H (upd H2 t (.tup [.int first, .int leap])) := ((sb1.new hl).trans sb2).new ht
    have hd3 : Hd (upd H2 t (.tup [.int first, .int leap])) a (n + 2) := hd2.new ht
    generalize upd H2 t (.tup [.int first, .int leap]) = H3 at b3 hd3 ⊢
    -- stem
    refine ⟨.ref a, rfl, .str abc, rfl, a, n + 2, .str abc, rfl, hd3, by omega, .inr ⟨abc, rfl, by rw [abc_len]; decide, by rw [abc_len]; decide, fun H4 ch sb4 hd4 hch => ?_⟩⟩
    refine ⟨.ref a, rfl, (by show 5 ≤ sizeLine; decide), fun l5 hl5 => ?_⟩
    refine ⟨a, n + 3, .ref l5, rfl, hd4.new hl5, by omega, .inl ⟨l5, _, rfl, hd4.ne hl5, .inl upd_same, by decide, by decide, fun H5 v5 sb5 hd5 hv5 => ?_⟩⟩
    obtain ⟨r, rfl⟩ : ∃ r : Int, v5 = .int r := by
      have hv5 : v5 ∈ [(0 : Int), 0, 1, 3, 7].map V.int := hv5
      obtain ⟨x, hx, rfl⟩ := List.mem_map.mp hv5
      exact ⟨x, rfl⟩
    obtain ⟨ok, sl, sa⟩ := stem_ok (abc_mem ch hch) hv5
    refine ⟨_, r, rfl, rfl, ok, ?_⟩
    have b5 : But a H H5 := (b3.trans sb4).trans (((But.refl a H4).new hl5).trans sb5)
    generalize Txt.mul ⟨#[ch]⟩ r = stem at sl sa ⊢
    -- cut
    refine ⟨.ref a, rfl, .str stem, rfl, _, stem.length, rfl, ⟨sz1000 (by omega), rfl⟩, _, 1, rfl, rfl, a, n + 4, _, rfl, hd5, by omega, by omega, by omega, fun H6 cut sb6 hd6 c0 c1 => ?_⟩
    obtain ⟨ct, rfl⟩ := Int.eq_ofNat_of_zero_le c0
    have hct : ct ≤ stem.length := by omega
    have b6 : But a H H6 := b5.trans sb6
    have leapB : 1 ≤ leap ∧ leap ≤ 25 := by
      simp only [List.mem_cons, List.not_mem_nil, or_false] at hleap
      omega
    -- the list
    refine ⟨.int c, rfl, c, rfl, by omega, by omega, fun D hD => lc_range (lo := 0) (n := c) (fun i H' => But a H H' ∧ Hd H' a (n + 5) ∧ H' D = some (.lst ((nmL stem ct first leap i).map V.str))) ⟨b6.new hD, hd6.new hD, by rw [upd_same]; rfl⟩ (fun i H' hi hP => ?_) (fun H' hP => ?_)⟩
    · have hDH : H D = none := fr b6 hh hd6 hD
      obtain ⟨p1, p2, p3⟩ := hP
      refine ⟨rfl, lc_yes ?_⟩
      have hx : atI abc.cps.toList ((first + leap * (0 + (i : Int))) % 26) = some (97 + plc first leap i) := by
        have e : (first + leap * (0 + (i : Int))) % 26 = ((plc first leap i : Nat) : Int) := by
          unfold plc
          rw [Int.zero_add, Int.toNat_of_nonneg (Int.emod_nonneg _ (by decide))]
        rw [e]
        exact atI_nat (abc_at _ (plc_lt _ _ _))
      have le : (nmS stem ct (97 + plc first leap i)).length = stem.length + 1 := nmS_len hct
      refine ⟨_, rfl, _, rfl, _, rfl, stem, rfl, sz1000 (by omega), ?_⟩
      refine ⟨.str abc, rfl, .int first, rfl, .int leap, rfl, _, rfl, leap, _, rfl, rfl, ?_, first, _, rfl, rfl, _, 26, rfl, rfl, (by show (0 : Int) < 26; decide), abc, _, _, rfl, rfl, sz1000 (by rw [abc_len]; decide), hx, ?_⟩
      · refine .inl ⟨?_, ?_⟩ <;> omega
      have l1 : (cutS stem none (some (ct : Int))).length + (⟨#[97 + plc first leap i]⟩ : Str).length ≤ sizeLine := sz1000 (Nat.le_trans (Nat.add_le_add_right (cutS_length stem none (some (ct : Int))) _) (by show stem.length + 1 ≤ 1000; omega))
      refine ⟨_, _, rfl, rfl, l1, ?_⟩
      refine ⟨_, rfl, _, rfl, _, rfl, stem, rfl, sz1000 (by omega), _, _, rfl, rfl, ?_, ?_⟩
      · have e : (cutS stem none (some (ct : Int)) ++ ⟨#[97 + plc first leap i]⟩ ++ cutS stem (some (ct : Int)) none).length = (cutS stem none (some (ct : Int)) ++ ⟨#[97 + plc first leap i]⟩).length + (cutS stem (some (ct : Int)) none).length := by
          rw [← len_cps, PySem.W.KT.app_list, List.length_append, len_cps, len_cps]
        rw [← e]
        exact sz1000 (Nat.le_trans (Nat.le_of_eq le) (by omega))
      · refine ⟨_, p3, ?_, p1.own hDH, p2.oth (hd6.ne hD), ?_⟩
        · rw [List.length_map, nmL_len]
          exact small1000 (by omega)
        · rw [upd_same]
          unfold nmL
          rw [List.range_succ, List.map_append, List.map_append]
          rfl
    · have hDH : H D = none := fr b6 hh hd6 hD
      obtain ⟨p1, p2, p3⟩ := hP
      exact q H' D _ p1 p2 hDH p3 nmL_len (nmL_nodup hct hleap hc) (nmL_row hct sl sa)
end
end M
namespace M
open PySem PySem.Spec PyProof.Rows L2 Gd
/-! ### data of texts -/
theorem dp_strs {K : PySem.W.Frag} {H : Hp} : ∀ ns : List Str, DpAll K H (ns.map V.str) (ns.map PyData.str)
  | [] => .nil
  | x :: ns => .cons (.str x) (dp_strs ns)
theorem lay_strs : ∀ ns : List Str, (∀ z ∈ ns, PyData.strOk z = true) → PyData.canLayAll0 (ns.map PyData.str) = true
  | [], _ => rfl
  | x :: ns, h => by
    show (PyData.strOk x && PyData.canLayAll0 (ns.map PyData.str)) = true
    rw [lay_strs ns fun z hz => h z (List.mem_cons_of_mem _ hz), h x List.mem_cons_self]
    rfl
theorem deep_strs : ∀ ns : List Str, PyData.depthAll (ns.map PyData.str) = 0
  | [] => rfl
  | x :: ns => by
    show max 0 (PyData.depthAll (ns.map PyData.str)) = 0
    rw [deep_strs ns]
    rfl
theorem shaped_lst {ns : List Str} (h : ∀ z ∈ ns, PyData.strOk z = true) : SeqAt.shaped (.list (ns.map PyData.str)) = true := by
  unfold SeqAt.shaped
  rw [show PyData.canLay0 (.list (ns.map PyData.str)) = true from lay_strs ns h]
  refine decide_eq_true ?_
  show PyData.depthAll (ns.map PyData.str) + 1 ≤ 64
  rw [deep_strs]
  decide
theorem shaped_tup {ns : List Str} (h : ∀ z ∈ ns, PyData.strOk z = true) : SeqAt.shaped (.tuple (ns.map PyData.str)) = true := by
  unfold SeqAt.shaped
  rw [show PyData.canLay0 (.tuple (ns.map PyData.str)) = true from lay_strs ns h]
  refine decide_eq_true ?_
  show PyData.depthAll (ns.map PyData.str) + 1 ≤ 64
  rw [deep_strs]
  decide
theorem RowS.ok {z : Str} (h : RowS z) : PyData.strOk z = true := by
  unfold PyData.strOk
  rw [Array.all_eq_true_iff_forall_mem]
  intro c hc
  have := h.2.2 c (Array.mem_toList_iff.mpr hc)
  exact decide_eq_true (by omega)
/-! ### shuffled -/
abbrev sShuf : Stmt := topS 22
theorem scShuf : FnScope ["_law_hand_here", "_law_items", "_law_rest", "_law_found"] ["_law_hand_here", "_law_items"] (defScope sShuf) := ⟨rfl, rfl, rfl, by decide +kernel, rfl, by decide +kernel, by decide +kernel⟩
def spShuf : Sp := fun vs H Q _ => ∃ (a b : Addr) (n : Nat) (ns : List Str), vs = [.ref a, .ref b] ∧ Hd H a n ∧ b ≠ a ∧ (H b = some (.lst (ns.map V.str)) ∨ H b = some (.tup (ns.map V.str))) ∧ ns.length ≤ 1000 ∧ n + ns.length < 900000 ∧ (∀ z ∈ ns, RowS z) ∧
  ∀ H' p (ns' : List Str), But a H H' → Hd H' a (n + ns.length) → H p = none → H' p = some (.lst (ns'.map V.str)) → ns'.Perm ns → Q (.ref p) H'
def lenAt (H : Hp) (p : Addr) : Nat := match H p with
  | some (.lst xs) => xs.length
  | _ => 0
theorem er_map {α β : Type} (f : α → β) : ∀ (l : List α) (i : Nat), (l.map f).eraseIdx i = (l.eraseIdx i).map f
  | [], _ => rfl
  | x :: l, 0 => rfl
  | x :: l, i + 1 => by
    show f x :: (l.map f).eraseIdx i = f x :: (l.eraseIdx i).map f
    rw [er_map f l i]
theorem er_perm {α : Type} : ∀ {l : List α} {i : Nat} (h : i < l.length), (l[i] :: l.eraseIdx i).Perm l
  | x :: l, 0, _ => .refl _
  | x :: l, i + 1, h => by
    have h2 : i < l.length := Nat.lt_of_succ_lt_succ h
    exact (List.Perm.swap x l[i] (l.eraseIdx i)).trans ((er_perm h2).cons x)
theorem lenAt_eq {H : Hp} {p : Addr} {ns : List Str} (h : H p = some (.lst (ns.map V.str))) : lenAt H p = ns.length := by
  unfold lenAt
  rw [h]
  exact List.length_map ..
theorem seq_at {n : Nat} {v : Int} (h0 : 0 ≤ v) (h1 : v < (n : Int)) : seqIndex? v n = some v.toNat := by
  refine (ixN_seq ?_).1
  unfold ixN
  rw [if_pos h0, if_pos h1]
section
variable {P : Program} {w : World} {K : PySem.W.Frag} {mg : Str → Option Value} {base : Heap}
theorem ok_shuf {f fT : Addr} {fd fdT : FuncData} {k : Nat} (F : Fun K "_law_shuffled" "_law_shuffled" sShuf f fd) (FT : Fun K "_law_take" "_law_take" sTake fT fdT) (bT : Binds K fdT ["_law_hand_here", "_law_many"] []) (gT : mg "_law_take" = some (.ref fT)) (ml : mg "len" = none) (mli : mg "list" = none) :
    FnOk P w K mg base CX0 (k + 2) f fd ["_law_hand_here", "_law_items"] spShuf := by
  have GT : FnOk P w K mg base CX0 (k + 1) fT fdT ["_law_hand_here", "_law_many"] spTake := ok_take FT
  refine F.ok scShuf (fun vs H Q E h => ?_) (fun cdv A outer s H vs Q E hr h => ?_)
  · obtain ⟨a, b, n, ns, rfl, _⟩ := h
    rfl
  · obtain ⟨a, b, n, ns, rfl, hh, nb, hb, l1, hn, rw, q⟩ := h
    refine ⟨_, pss_cons (ps_par (i := 2) (j := 3) (by rfl) scShuf.nd rfl rfl (by decide) rfl rfl (pa_cons (pe_callTy call_list_of (by rfl) mli (by decide +kernel) (pa_cons (pv 1) pa_nil)) (pa_cons (pe_lst pa_nil) pa_nil)) (by rfl))
      (pss_cons (ps_while PassesOwn.never (pt_cmpR (op_neD hr.units) (pv 2) (pe_lst pa_nil) (nomark _))
        (pss_one (ps_expr (pe_bm PySem.F.plainAttrs_list PySem.F.slot_list_append PySem.F.type_list_append mt_append (pv 3) (pa_cons
          (pe_bm PySem.F.plainAttrs_list PySem.F.slot_list_pop PySem.F.type_list_pop mt_popAt (pv 2) (pa_cons (pe_call GT hr (by rfl) gT FT.kp bT .nil pass0 (pa_cons (pv 0) (pa_cons (pe_callB call_len (by rfl) ml PySem.boot_len (pa_cons (pv 2) pa_nil)) pa_nil))) pa_nil)) pa_nil)))))
      (pss_one (ps_ret (pv 3)))), ?_⟩
    have hB : SqL K H b (ns.map V.str) ∨ SqT K H b (ns.map V.str) := by
      rcases hb with hb | hb
      · exact .inl (SqL.of hb)
      · exact .inr (SqT.of hb)
    refine ⟨.ref b, rfl, b, _, rfl, hB, fun r hrr => ?_⟩
    refine ⟨Nat.zero_le _, fun o ho => ?_⟩
    refine ⟨.ref r, .ref o, rfl, ?_⟩
    have nra : r ≠ a := hh.ne hrr
    have hd1 : Hd (upd H r (.lst (ns.map V.str))) a n := hh.new hrr
    have noa : o ≠ a := hd1.ne ho
    have nro : r ≠ o := ne_of_none upd_same ho
    have hoH : H o = none := by
      rw [upd_ne nro.symm] at ho
      exact ho
    refine while_by (fun σ H' => ∃ rs fs : List Str, σ = [some (.ref a), some (.ref b), some (.ref r), some (.ref o)] ∧ But a H H' ∧ Hd H' a (n + fs.length) ∧ H' r = some (.lst (rs.map V.str)) ∧ H' o = some (.lst (fs.map V.str)) ∧ (rs ++ fs).Perm ns)
      (fun _ H' => lenAt H' r) ⟨ns, [], rfl, ((But.refl a H).new hrr).new ho, hd1.new ho, ?_, upd_same, ?_⟩ (fun σ H1 hP => ?_) (fun σ H1 Q1 Q2 hq h => ?_)
    · rw [upd_ne nro]
      exact upd_same
    · rw [List.append_nil]
    · obtain ⟨rs, fs, rfl, b1, h1, e1, e2, pm⟩ := hP
      have lens : rs.length + fs.length = ns.length := by
        rw [← pm.length_eq, List.length_append]
      refine ⟨.ref r, rfl, Nat.zero_le _, fun p hp => ?_⟩
      have npr : r ≠ p := ne_of_none e1 hp
      have npo : o ≠ p := ne_of_none e2 hp
      have e1' : (upd H1 p (.lst [])) r = some (.lst (rs.map V.str)) := by rw [upd_ne npr]; exact e1
      have e2' : (upd H1 p (.lst [])) o = some (.lst (fs.map V.str)) := by rw [upd_ne npo]; exact e2
      have b2 : But a H (upd H1 p (.lst [])) := b1.new hp
      have h2 : Hd (upd H1 p (.lst [])) a (n + fs.length) := h1.new hp
      have hμ : lenAt H1 r = rs.length := lenAt_eq e1
      refine ⟨.list (rs.map PyData.str), .list [], .lst (SqL.of e1') (dp_strs rs), .lst (SqL.of upd_same) .nil, shaped_lst (fun z hz => (rw z (pm.subset (List.mem_append_left _ hz))).ok), rfl, _, rfl, ?_⟩
      generalize upd H1 p (.lst []) = H2 at e1' e2' b2 h2 ⊢
      cases rs with
      | nil =>
        refine iteF ?_
        have e : fs.length = ns.length := by
          have := lens
          rw [List.length_nil] at this
          omega
        rw [e] at h2
        exact ⟨.ref o, rfl, q H2 o fs b2 h2 hoH e2' pm⟩
      | cons x rs =>
        refine iteT ?_
        have hlen : ((x :: rs).map V.str).length = rs.length + 1 := by
          rw [List.length_map, List.length_cons]
        have hl2 : rs.length + 1 + fs.length = ns.length := by
          rw [List.length_cons] at lens
          exact lens
        refine ⟨.ref o, rfl, .inl ⟨rfl, _, SqL.of e2'⟩, .ref r, rfl, .inl ⟨rfl, _, SqL.of e1'⟩, .ref a, rfl, .ref r, rfl, _, rs.length + 1, rfl, .inl ⟨_, SqL.of e1', hlen.symm⟩, a, n + fs.length, _, rfl, h2, by omega, by omega, by omega, fun H3 v sb3 h3 v0 v1 => ?_⟩
        have e1'' := sb3 r _ nra e1'
        have e2'' := sb3 o _ noa e2'
        have hk : v.toNat < (x :: rs).length := by
          rw [List.length_cons]
          omega
        have g : ((x :: rs).map V.str)[v.toNat]? = some (.str (x :: rs)[v.toNat]) := by
          rw [List.getElem?_map, List.getElem?_eq_getElem hk]
          rfl
        refine ⟨r, _, v, v.toNat, _, rfl, rfl, e1'', by omega, by omega, seq_at v0 (by rw [hlen]; omega), g, ?_⟩
        have e2u : (upd H3 r (.lst (((x :: rs).map V.str).eraseIdx v.toNat))) o = some (.lst (fs.map V.str)) := by
          rw [upd_ne nro.symm]
          exact e2''
        have pe : (((x :: rs).map V.str).eraseIdx v.toNat) = ((x :: rs).eraseIdx v.toNat).map V.str := by
          exact er_map V.str _ _
        have pm2 : ((x :: rs).eraseIdx v.toNat ++ (fs ++ [(x :: rs)[v.toNat]])).Perm ns := by
          refine List.Perm.trans ?_ pm
          refine List.Perm.trans ?_ (List.Perm.append_right fs (er_perm hk))
          rw [← List.append_assoc]
          exact List.perm_append_comm
        refine ⟨o, _, _, rfl, rfl, e2u, ?_, ⟨(x :: rs).eraseIdx v.toNat, fs ++ [(x :: rs)[v.toNat]], rfl, ?_, ?_, ?_, ?_, pm2⟩, ?_⟩
        · rw [List.length_map]
          exact small1000 (by omega)
        · exact ((b2.trans sb3).own hrr).own hoH
        · have h4 : Hd H3 a (n + (fs ++ [(x :: rs)[v.toNat]]).length) := by
            rw [List.length_append]
            exact h3
          exact (h4.oth nra).oth noa
        · rw [upd_ne nro, upd_same, pe]
        · rw [upd_same, List.map_append]
          rfl
        · rw [hμ, lenAt_eq (ns := (x :: rs).eraseIdx v.toNat) (by rw [upd_ne nro, upd_same, pe]), List.length_eraseIdx, if_pos hk, List.length_cons]
          omega
    · obtain ⟨v, hv, hz, h⟩ := h
      refine ⟨v, hv, hz, fun p hp => ?_⟩
      obtain ⟨d, e, h1, h2, h3, h4, k, hk, hq'⟩ := h p hp
      exact ⟨d, e, h1, h2, h3, h4, k, hk, hq _ _ hq'⟩
end
end M
namespace M
open PySem PySem.Spec PyProof.Rows L2 Gd
/-! ### hand -/
abbrev sHand : Stmt := topS 18
theorem scHand : FnScope ["_law_script", "_law_k", "_law_cell", "_law_great"] ["_law_script", "_law_k"] (defScope sHand) := ⟨rfl, rfl, rfl, by decide +kernel, rfl, by decide +kernel, by decide +kernel⟩
def spHand (K : PySem.W.Frag) : Sp := fun vs H Q _ => ∃ (a : Addr) (k : Nat) (ns : List Int), vs = [.ref a, .int k] ∧ SqL K H a (ns.map V.int) ∧ k ≤ 1000 ∧ ∀ H' p, Same H H' → H p = none → Hd H' p 0 → Q (.ref p) H'
theorem same_new {H : Hp} {p : Addr} {o : HO} (h : H p = none) : Same H (upd H p o) := fun b x e => by
  rw [upd_ne (ne_of_none e h)]
  exact e
theorem tens : ((10 : Int) ^ (60 : Int).toNat).natAbs < 2 ^ 200 := by decide +kernel
theorem wide3 {i j : Int} {a b c : Nat} (ha : i.natAbs < 2 ^ a) (hb : j.natAbs < 2 ^ b) (hc : c = a + b) : (i * j).natAbs < 2 ^ c := by
  rw [hc]
  exact wide_lt ha hb
theorem tens_pos : (0 : Int) < 10 ^ (60 : Int).toNat * 10 ^ (60 : Int).toNat * 10 ^ (60 : Int).toNat * 10 ^ (60 : Int).toNat := by decide +kernel
theorem bit_ok (b : Bool) : -(2 ^ 64) < (if b = true then (1 : Int) else 0) ∧ (if b = true then (1 : Int) else 0) < 2 ^ 64 := by
  cases b <;> decide
theorem bit_ge (b : Bool) : 0 ≤ (if b = true then (1 : Int) else 0) := by
  cases b <;> decide
theorem w1 : CMulW ((10 : Int) ^ (60 : Int).toNat) ((10 : Int) ^ (60 : Int).toNat) := wide_mul tens tens (by decide) (by decide) (by decide)
theorem w2 : CMulW ((10 : Int) ^ (60 : Int).toNat * (10 : Int) ^ (60 : Int).toNat) ((10 : Int) ^ (60 : Int).toNat) := wide_mul (wide_lt tens tens) tens (by decide) (by decide) (by decide)
theorem w3 : CMulW ((10 : Int) ^ (60 : Int).toNat * (10 : Int) ^ (60 : Int).toNat * (10 : Int) ^ (60 : Int).toNat) ((10 : Int) ^ (60 : Int).toNat) := wide_mul (wide_lt (wide_lt tens tens) tens) tens (by decide) (by decide) (by decide)
section
variable {P : Program} {w : World} {K : PySem.W.Frag} {mg : Str → Option Value} {base : Heap}
theorem ok_hand {f : Addr} {fd : FuncData} {k : Nat} (F : Fun K "_law_hand" "_law_hand" sHand f fd) (ml : mg "len" = none) (ma : mg "abs" = none) (mi : mg "int" = none) :
    FnOk P w K mg base CX0 (k + 1) f fd ["_law_script", "_law_k"] (spHand K) := by
  refine F.ok scHand (fun vs H Q E h => ?_) (fun cdv A outer s H vs Q E hr h => ?_)
  · obtain ⟨a, k, ns, rfl, _⟩ := h
    rfl
  · obtain ⟨a, k, ns, rfl, hS, hk, q⟩ := h
    refine ⟨_, pss_cons (ps_set (i := 2) scHand.nd rfl (.inl rfl) (pe_ifExp (pt_cmpR op_lt (pv 1) (pe_callB call_len (by rfl) ml PySem.boot_len (pa_cons (pv 0) pa_nil)) (nomark _)) (pe_ix ix_list (pv 0) (pv 1) (fun _ _ => rfl)) (pe_op op_add (pe_op op_mul pe_int (pv 1)) pe_int)))
      (pss_cons (ps_set (i := 3) scHand.nd rfl (.inl rfl) (pe_op op_mul (pe_op op_mod (pe_callB call_abs (by rfl) ma (by decide +kernel) (pa_cons (pv 2) pa_nil)) (pe_op op_mulW (pe_op op_mulW (pe_op op_mulW (pe_op op_pow pe_int pe_int) (pe_op op_pow pe_int pe_int)) (pe_op op_pow pe_int pe_int)) (pe_op op_pow pe_int pe_int)))
          (pe_callTy call_int1 (by rfl) mi (by decide +kernel) (pa_cons (pe_cmpR op_ge (pe_callB call_abs (by rfl) ma (by decide +kernel) (pa_cons (pv 2) pa_nil)) (pe_op op_pow pe_int pe_int) (nomark _)) pa_nil))))
      (pss_one (ps_ret (pe_lst (pa_cons (pv 3) (pa_cons (pe_op op_mod (pe_op op_mul (pe_op op_add (pe_op op_add (pe_op op_mod (pv 2) pe_int) (pe_op op_mul (pe_op op_mul pe_int (pv 1)) (pv 1))) pe_int) pe_int) pe_int) (pa_cons pe_int pa_nil))))))), ?_⟩
    refine ⟨_, rfl, .ref a, rfl, _, ns.length, rfl, .inl ⟨_, hS, (List.length_map ..).symm⟩, _, _, rfl, rfl, _, rfl, ite2 (fun e => ?_) (fun e => ?_)⟩
    · have e : (k : Int) < (ns.length : Int) := of_decide_eq_true e
      have hk2 : k < ns.length := by omega
      refine ⟨.ref a, rfl, _, rfl, a, _, k, .int ns[k], rfl, rfl, hS, atI_nat (by rw [List.getElem?_map, List.getElem?_eq_getElem hk2]; rfl), ?_⟩
      generalize ns[k] = cell
      refine ⟨_, rfl, cell, rfl, 10, 60, rfl, rfl, ⟨by decide, by decide, by decide⟩, 10, 60, rfl, rfl, ⟨by decide, by decide, by decide⟩, _, _, rfl, rfl, w1, 10, 60, rfl, rfl, ⟨by decide, by decide, by decide⟩, _, _, rfl, rfl, w2,
        10, 60, rfl, rfl, ⟨by decide, by decide, by decide⟩, _, _, rfl, rfl, w3, _, _, rfl, rfl, tens_pos, _, rfl, cell, rfl, 10, 18, rfl, rfl, ⟨by decide, by decide, by decide⟩, _, _, rfl, rfl, .inr ⟨_, rfl, _, _, rfl, rfl, .inr (bit_ok _), ?_⟩⟩
      refine ⟨_, rfl, _, rfl, cell, 2305843009213693951, rfl, rfl, (by show (0 : Int) < 2305843009213693951; decide), _, rfl, 104729, k, rfl, rfl, .inl ⟨by decide, by decide⟩, _, rfl, _, k, rfl, rfl, .inr ⟨by omega, by omega⟩, _, _, rfl, rfl, _, 29, rfl, rfl, _, 48271, rfl, rfl, .inr ⟨by decide, by decide⟩,
        _, 2305843009213693921, rfl, rfl, (by show (0 : Int) < 2305843009213693921; decide), (by show 3 ≤ sizeLine; decide), fun p hp => ?_⟩
      refine q _ p (same_new hp) hp ⟨_, _, _, upd_same, ?_, Int.emod_nonneg _ (by decide), Int.lt_of_lt_of_le (Int.emod_lt_of_pos _ (by decide)) (by decide), by decide, by decide⟩
      exact Int.mul_nonneg (Int.emod_nonneg _ (Int.ne_of_gt tens_pos)) (bit_ge _)
    · refine ⟨_, rfl, 7, k, rfl, rfl, .inl ⟨by decide, by decide⟩, _, 3, rfl, rfl, ?_⟩
      refine ⟨_, rfl, 7 * (k : Int) + 3, rfl, 10, 60, rfl, rfl, ⟨by decide, by decide, by decide⟩, 10, 60, rfl, rfl, ⟨by decide, by decide, by decide⟩, _, _, rfl, rfl, w1, 10, 60, rfl, rfl, ⟨by decide, by decide, by decide⟩, _, _, rfl, rfl, w2,
        10, 60, rfl, rfl, ⟨by decide, by decide, by decide⟩, _, _, rfl, rfl, w3, _, _, rfl, rfl, tens_pos, _, rfl, 7 * (k : Int) + 3, rfl, 10, 18, rfl, rfl, ⟨by decide, by decide, by decide⟩, _, _, rfl, rfl, .inr ⟨_, rfl, _, _, rfl, rfl, .inr (bit_ok _), ?_⟩⟩
      refine ⟨_, rfl, _, rfl, 7 * (k : Int) + 3, 2305843009213693951, rfl, rfl, (by show (0 : Int) < 2305843009213693951; decide), _, rfl, 104729, k, rfl, rfl, .inl ⟨by decide, by decide⟩, _, rfl, _, k, rfl, rfl, .inr ⟨by omega, by omega⟩, _, _, rfl, rfl, _, 29, rfl, rfl, _, 48271, rfl, rfl, .inr ⟨by decide, by decide⟩,
        _, 2305843009213693921, rfl, rfl, (by show (0 : Int) < 2305843009213693921; decide), (by show 3 ≤ sizeLine; decide), fun p hp => ?_⟩
      refine q _ p (same_new hp) hp ⟨_, _, _, upd_same, ?_, Int.emod_nonneg _ (by decide), Int.lt_of_lt_of_le (Int.emod_lt_of_pos _ (by decide)) (by decide), by decide, by decide⟩
      exact Int.mul_nonneg (Int.emod_nonneg _ (Int.ne_of_gt tens_pos)) (bit_ge _)
end
end M
namespace M
open PySem PySem.Spec PyProof.Rows L2 Gd
theorem inV_strs (x : Str) : ∀ ns : List Str, inV (.str x) (ns.map V.str) = ns.contains x
  | [] => rfl
  | y :: ns => by
    have h := inV_strs x ns
    unfold inV at h ⊢
    rw [List.map_cons, List.any_cons, h, List.contains_cons]
    show ((y == x) || ns.contains x) = _
    rw [show (y == x) = (x == y) from Bool.eq_iff_iff.mpr (by rw [beq_iff_eq, beq_iff_eq]; exact eq_comm)]
theorem flat_strs : ∀ ns : List Str, (ns.map V.str).all flatV = true
  | [] => rfl
  | y :: ns => by
    rw [List.map_cons, List.all_cons, flat_strs ns]
    rfl
theorem cut_to (xs : List V) (c : Nat) : cutV xs none (some (c : Int)) = xs.take c := by
  unfold cutV
  rw [HT.sIx_none, HT.sIx_nat, List.drop_zero, Nat.sub_zero]
  by_cases h : c ≤ xs.length
  · rw [Nat.min_eq_left h]
  · rw [Nat.min_eq_right (by omega), List.take_length, List.take_of_length_le (by omega)]
theorem cut_from (xs : List V) (c : Nat) : cutV xs (some (c : Int)) none = xs.drop c := by
  unfold cutV
  rw [HT.sIx_none, HT.sIx_nat]
  by_cases h : c ≤ xs.length
  · rw [Nat.min_eq_left h, List.take_of_length_le (by rw [List.length_drop]; omega)]
  · rw [Nat.min_eq_right (by omega), List.drop_of_length_le (l := xs) (by omega), List.drop_of_length_le (l := xs) (by omega), List.take_nil]
theorem same_t {K : PySem.W.Frag} {H H' : Hp} {a : Addr} {xs : List V} (e : Same H H') (h : SqT K H a xs) : SqT K H' a xs := by
  rcases h with (h | ⟨o, h⟩) | h
  · exact .inl (.inl (e _ _ h))
  · exact .inl (.inr ⟨o, e _ _ h⟩)
  · exact .inr h
theorem same_own {H H' : Hp} {p : Addr} {o : HO} (e : Same H H') (h : H p = none) : Same H (upd H' p o) := fun b x q => by
  rw [upd_ne (ne_of_none q h)]
  exact e b x q
/-! ### what texts show -/
theorem shown_strs : ∀ ns : List Str, PyData.shownAll (ns.map PyData.str) = ns.map reprText
  | [] => rfl
  | x :: ns => by
    show reprText x :: PyData.shownAll (ns.map PyData.str) = _
    rw [shown_strs ns]
    rfl
theorem showable_strs : ∀ ns : List Str, PyData.showableAll (ns.map PyData.str) = true
  | [] => rfl
  | x :: ns => by
    show (true && PyData.showableAll (ns.map PyData.str)) = true
    rw [showable_strs ns]
    rfl
theorem noDict_strs : ∀ ns : List Str, PyData.hasDictAll (ns.map PyData.str) = false
  | [] => rfl
  | x :: ns => by
    show (false || PyData.hasDictAll (ns.map PyData.str)) = false
    rw [noDict_strs ns]
    rfl
theorem sum_row : ∀ ns : List Str, (∀ z ∈ ns, RowS z) → ((ns.map reprText).map (·.length)).sum ≤ 82 * ns.length
  | [], _ => Nat.le_refl _
  | x :: ns, h => by
    have h1 := sum_row ns fun z hz => h z (List.mem_cons_of_mem _ hz)
    have h2 := StrLaws.reprText_len x (fun c hc => by
      have := (h x List.mem_cons_self).2.2 c hc
      omega)
    have h3 := (h x List.mem_cons_self).2.1
    simp only [List.map_cons, List.sum_cons, List.length_cons] at h1 ⊢
    omega
theorem shown_tup {ns : List Str} (h : ∀ z ∈ ns, RowS z) : (PyData.shown (.tuple (ns.map PyData.str))).length ≤ 84 * ns.length + 3 := by
  show (tupleText (PyData.shownAll (ns.map PyData.str))).length ≤ _
  rw [shown_strs]
  have h1 := tupleText_len_le (ns.map reprText)
  have h2 := sum_row ns h
  rw [List.length_map] at h1
  omega
theorem show_tup {K : PySem.W.Frag} {H : Hp} {p : Addr} {ns : List Str} {Q : VK} (hp : SqT K H p (ns.map V.str)) (h : ∀ z ∈ ns, RowS z) (hl : ns.length ≤ 1000) (q : Q (.str (PyData.shown (.tuple (ns.map PyData.str)))) H) : rShow K [.ref p] H Q := by
  refine ⟨.ref p, .tuple (ns.map PyData.str), rfl, .tup hp (dp_strs ns), showable_strs ns, noDict_strs ns, ?_, ?_, q⟩
  · show PyData.depthAll (ns.map PyData.str) + 1 ≤ 60
    rw [deep_strs]
    decide
  · have := shown_tup h
    have e : sizeLine = 16777216 := by decide
    omega
def two (xs ys : List Str) : PyData := .tuple [.tuple (xs.map PyData.str), .tuple (ys.map PyData.str)]
theorem show_two {K : PySem.W.Frag} {H : Hp} {p a b : Addr} {xs ys : List Str} {Q : VK} (hp : SqT K H p [.ref a, .ref b]) (ha : SqT K H a (xs.map V.str)) (hb : SqT K H b (ys.map V.str)) (h : ∀ z ∈ xs, RowS z) (h' : ∀ z ∈ ys, RowS z) (hl : xs.length ≤ 1000) (hl' : ys.length ≤ 1000)
    (q : Q (.str (two xs ys).shown) H) : rShow K [.ref p] H Q := by
  refine ⟨.ref p, two xs ys, rfl, .tup hp (.cons (.tup ha (dp_strs xs)) (.cons (.tup hb (dp_strs ys)) .nil)), ?_, ?_, ?_, ?_, q⟩
  · show (PyData.showableAll (xs.map PyData.str) && (PyData.showableAll (ys.map PyData.str) && true)) = true
    rw [showable_strs, showable_strs]
    rfl
  · show (PyData.hasDictAll (xs.map PyData.str) || (PyData.hasDictAll (ys.map PyData.str) || false)) = false
    rw [noDict_strs, noDict_strs]
    rfl
  · show max (PyData.depthAll (xs.map PyData.str) + 1) (max (PyData.depthAll (ys.map PyData.str) + 1) 0) + 1 ≤ 60
    rw [deep_strs, deep_strs]
    decide
  · have h1 := shown_tup h
    have h2 := shown_tup h'
    have h3 := tupleText_len_le [PyData.shown (.tuple (xs.map PyData.str)), PyData.shown (.tuple (ys.map PyData.str))]
    have e : sizeLine = 16777216 := by decide
    show (tupleText [PyData.shown (.tuple (xs.map PyData.str)), PyData.shown (.tuple (ys.map PyData.str))]).length ≤ _
    simp only [List.map_cons, List.map_nil, List.sum_cons, List.sum_nil, List.length_cons, List.length_nil] at h3
    omega
theorem catA_of {K : PySem.W.Frag} {H : Hp} {Q : VK} {a b : Addr} {xs ys : List Str} (ha : SqT K H a (xs.map V.str)) (hb : SqT K H b (ys.map V.str)) (hz : xs.length + ys.length ≤ 1000) (q : ∀ H' p, Same H H' → SqT K H' p ((xs ++ ys).map V.str) → Q (.ref p) H') : rCatA K (.ref a) (.ref b) H Q := by
  refine ⟨a, b, _, _, rfl, rfl, ha, hb, by rw [List.length_map, List.length_map]; exact sz1000 hz, fun e => ?_, fun _ e => ?_, fun _ _ p hp => ?_⟩
  · refine q H b (Same.refl H) ?_
    rw [List.map_append, e, List.nil_append]
    exact hb
  · refine q H a (Same.refl H) ?_
    rw [List.map_append, e, List.append_nil]
    exact ha
  · refine q _ p (same_new hp) ?_
    rw [List.map_append]
    exact SqT.of upd_same
theorem but_t {K : PySem.W.Frag} {H H' : Hp} {a v : Addr} {n : Nat} {xs : List V} (b : But a H H') (h : Hd H a n) (hv : SqT K H v xs) : SqT K H' v xs := by
  obtain ⟨ys, e⟩ := h.some
  rcases hv with (hv | ⟨o, hv⟩) | hv
  · exact .inl (.inl (b v _ (fun z => by rw [z, e] at hv; cases hv) hv))
  · exact .inl (.inr ⟨o, b v _ (fun z => by rw [z, e] at hv; cases hv) hv⟩)
  · exact .inr hv
theorem same_but {H H' : Hp} {a : Addr} (h : Same H H') : But a H H' := fun b o _ e => h b o e
theorem same_hd {H H' : Hp} {a : Addr} {n : Nat} (h : Same H H') (hd : Hd H a n) : Hd H' a n := by
  obtain ⟨g, s, t, e, r⟩ := hd
  exact ⟨g, s, t, h _ _ e, r⟩
theorem eqv_strs {ns : List Str} (h : ∀ z ∈ ns, RowS z) : PyData.eqv (.tuple (ns.map PyData.str)) (.tuple (ns.map PyData.str)) = true := SeqAt.eqv_refl _ (lay_strs ns fun z hz => (h z hz).ok)
theorem ins_map0 (xs : List Str) (i : Nat) (x : Str) : (xs.map V.str).take i ++ [V.str x] ++ (xs.map V.str).drop i = (xs.take i ++ [x] ++ xs.drop i).map V.str := by
  rw [List.map_append, List.map_append, List.map_take, List.map_drop]
  rfl
theorem ins_perm0 (xs : List Str) (i : Nat) (x : Str) : (xs.take i ++ [x] ++ xs.drop i).Perm (x :: xs) := by
  have h : (xs.take i ++ x :: xs.drop i).Perm (x :: (xs.take i ++ xs.drop i)) := List.perm_middle
  rw [List.take_append_drop] at h
  rw [List.append_assoc]
  exact h
end M
namespace M
open PySem PySem.Spec PyProof.Rows L2 Gd
/-! ### values of any kind -/
inductive Kd (K : PySem.W.Frag) (H : Hp) : V → String → Prop
  | non : Kd K H .non "NoneType"
  | bl (b : Bool) : Kd K H (.bl b) "bool"
  | int (i : Int) : Kd K H (.int i) "int"
  | str (z : Str) : Kd K H (.str z) "str"
  | lst {a : Addr} {xs : List V} : SqL K H a xs → Kd K H (.ref a) "list"
  | tup {a : Addr} {xs : List V} : SqT K H a xs → Kd K H (.ref a) "tuple"
  | dct {a : Addr} {kvs : List (Key × V)} : H a = some (.dK kvs) → Kd K H (.ref a) "dict"
theorem Kd.ty {K : PySem.W.Frag} {H : Hp} {x : V} {T : String} (k : Kd K H x T) : TyX K H x (.type T) := by
  cases k with
  | non => exact .base .non
  | bl b => exact .base (.bl b)
  | int i => exact .base (.int i)
  | str z => exact .base (.str z)
  | lst h =>
    rcases h with (h | ⟨o, h⟩) | ⟨o, its, n, h, c, _⟩
    · exact .base (.lst h)
    · exact .base (.frz h)
    · exact .kList h c
  | tup h =>
    rcases h with (h | ⟨o, h⟩) | ⟨o, its, n, h, c, _⟩
    · exact .base (.tup h)
    · exact .fTuple h
    · exact .kTuple h c
  | dct h => exact .base (.dK h)
theorem Kd.kbool {K : PySem.W.Frag} {H : Hp} {x : V} {T : String} (k : Kd K H x T) : kitB T "bool" = some (T == "bool") := by
  cases k <;> decide +kernel
theorem Kd.kint {K : PySem.W.Frag} {H : Hp} {x : V} {T : String} (k : Kd K H x T) : kitB T "int" = some (T == "int" || T == "bool") := by
  cases k <;> decide +kernel
theorem Kd.kstr {K : PySem.W.Frag} {H : Hp} {x : V} {T : String} (k : Kd K H x T) : kitB T "str" = some (T == "str") := by
  cases k <;> decide +kernel
theorem Kd.ktup {K : PySem.W.Frag} {H : Hp} {x : V} {T : String} (k : Kd K H x T) : kitB T "tuple" = some (T == "tuple") := by
  cases k <;> decide +kernel
theorem Kd.same {K : PySem.W.Frag} {H H' : Hp} {x : V} {T : String} (s : Same H H') (k : Kd K H x T) : Kd K H' x T := by
  cases k with
  | non => exact .non
  | bl b => exact .bl b
  | int i => exact .int i
  | str z => exact .str z
  | lst h => exact .lst (s.seq h)
  | tup h => exact .tup (same_t s h)
  | dct h => exact .dct (s _ _ h)
end M
namespace M
open PySem PySem.Spec PyProof.Rows L2 Gd
/-! ### is_integer_within -/
def within (x : V) (lo hi : Int) : Bool := match x with
  | .int i => decide (lo ≤ i) && decide (i ≤ hi)
  | _ => false
abbrev sWithin : Stmt := topS 8
theorem scWithin : FnScope ["value", "low", "high"] ["value", "low", "high"] (defScope sWithin) := ⟨rfl, rfl, rfl, by decide +kernel, rfl, by decide +kernel, by decide +kernel⟩
def spWithin (K : PySem.W.Frag) : Sp := fun vs H Q _ => ∃ (x : V) (T : String) (lo hi : Int), vs = [x, .int lo, .int hi] ∧ Kd K H x T ∧ Q (.bl (within x lo hi)) H
section
variable {P : Program} {w : World} {K : PySem.W.Frag} {mg : Str → Option Value} {base : Heap}
theorem ok_within {f : Addr} {fd : FuncData} {k : Nat} (F : Fun K "is_integer_within" "is_integer_within" sWithin f fd) (mi : mg "isinstance" = none) (mb : mg "bool" = none) (mint : mg "int" = none) : FnOk P w K mg base CX0 (k + 1) f fd ["value", "low", "high"] (spWithin K) := by
  refine F.ok scWithin (fun vs H Q E h => ?_) (fun cdv A outer s H vs Q E hr h => ?_)
  · obtain ⟨x, T, lo, hi, rfl, _⟩ := h
    rfl
  · obtain ⟨x, T, lo, hi, rfl, kd, q⟩ := h
    refine ⟨_, pss_cons (ps_if (PW.pt (pw_or (pt_val (pe_callB call_isi (by rfl) mi (by decide +kernel) (pa_cons (pv 0) (pa_cons (pe_bltn (v := .ty "bool") (by rfl) mb (by decide +kernel) rfl) pa_nil))))
        (pw_or1 (pt_not (pt_val (pe_callB call_isi (by rfl) mi (by decide +kernel) (pa_cons (pv 0) (pa_cons (pe_bltn (v := .ty "int") (by rfl) mint (by decide +kernel) rfl) pa_nil))))))))
        (pss_one (ps_ret pe_bl)) pss_nil)
      (pss_one (ps_ret (pe_chain op_le op_le (pv 1) (pv 0) (pv 2)))), ?_⟩
    refine ⟨_, rfl, x, _, _, _, _, rfl, .ty "bool", kd.ty, kit_ty kd.kbool, _, rfl, ?_⟩
    cases kd with
    | bl b => exact iteT (iteT q)
    | int i =>
      refine iteF ⟨_, rfl, _, _, _, _, _, rfl, .ty "int", (Kd.int (K := K) (H := H) i).ty, kit_ty (Kd.int (K := K) (H := H) i).kint, _, rfl, iteF ?_⟩
      refine ⟨_, rfl, _, rfl, _, _, rfl, rfl, _, rfl, ite2 (fun h1 => ?_) (fun h1 => ?_)⟩
      · refine ⟨_, rfl, _, _, rfl, rfl, ?_⟩
        have e : within (.int i) lo hi = decide (i ≤ hi) := by
          show (decide (lo ≤ i) && decide (i ≤ hi)) = _
          rw [h1, Bool.true_and]
        rw [e] at q
        exact q
      · have e : within (.int i) lo hi = false := by
          show (decide (lo ≤ i) && decide (i ≤ hi)) = _
          rw [Bool.eq_false_iff.mpr h1, Bool.false_and]
        rw [e] at q
        exact q
    | non => exact iteF ⟨_, rfl, _, _, _, _, _, rfl, .ty "int", (Kd.non (K := K) (H := H)).ty, kit_ty (Kd.non (K := K) (H := H)).kint, _, rfl, iteT q⟩
    | str z => exact iteF ⟨_, rfl, _, _, _, _, _, rfl, .ty "int", (Kd.str (K := K) (H := H) z).ty, kit_ty (Kd.str (K := K) (H := H) z).kint, _, rfl, iteT q⟩
    | lst h => exact iteF ⟨_, rfl, _, _, _, _, _, rfl, .ty "int", (Kd.lst h).ty, kit_ty (Kd.lst h).kint, _, rfl, iteT q⟩
    | tup h => exact iteF ⟨_, rfl, _, _, _, _, _, rfl, .ty "int", (Kd.tup h).ty, kit_ty (Kd.tup h).kint, _, rfl, iteT q⟩
    | dct h => exact iteF ⟨_, rfl, _, _, _, _, _, rfl, .ty "int", (Kd.dct (K := K) h).ty, kit_ty (Kd.dct (K := K) h).kint, _, rfl, iteT q⟩
end
end M
namespace M
open PySem PySem.Spec PyProof.Rows L2 Gd
/-! ### is_row -/
def rowB (x : V) : Bool := match x with
  | .str z => decide (1 ≤ z.length) && decide (z.length ≤ 8) && z.cps.toList.all fun c => decide (97 ≤ c) && decide (c ≤ 122)
  | _ => false
theorem rowB_iff (z : Str) : rowB (.str z) = true ↔ RowS z := by
  unfold rowB RowS
  simp only [Bool.and_eq_true, decide_eq_true_eq, List.all_eq_true]
  exact and_assoc
/-- a walk over a text, whatever a turn asks -/
theorem walk_str {z : Str} {Qd : Hp → Prop} {Step : V → Hp → (Hp → Prop) → Prop} {H0 : Hp} (Pv : Nat → Hp → Prop) (h0 : Pv 0 H0) (hs : ∀ i c H, z.cps.toList[i]? = some c → Pv i H → Step (.str ⟨#[c]⟩) H (Pv (i + 1))) (hd : ∀ H, Pv z.length H → Qd H) :
    ∃ W : Nat → Nat → Hp → Prop, (∃ m, W 0 m H0) ∧ ∀ i m H, W i m H → ((Its z).stop i H ∧ Qd H) ∨ ((Its z).go i H ∧ ∃ Nx : Hp → Prop, (∀ H', Nx H' → ∃ m', m' < m ∧ W (i + 1) m' H') ∧ ∀ x H', (Its z).yld i H x H' → Step x H' Nx) := by
  refine ⟨fun i m H => (m + i = z.length) ∧ Pv i H, ⟨z.length, rfl, h0⟩, fun i m H h => ?_⟩
  obtain ⟨em, p⟩ := h
  rcases Nat.lt_or_ge i z.length with lt | ge
  · refine Or.inr ⟨lt, Pv (i + 1), fun H' p' => ⟨m - 1, by omega, by omega, p'⟩, ?_⟩
    rintro x H' ⟨rfl, c, hc, rfl⟩
    exact hs i c H' (by rw [Array.getElem?_toList]; exact hc) p
  · have ei : i = z.length := by omega
    rw [ei] at p
    exact Or.inl ⟨by show z.length ≤ i; omega, hd H p⟩
abbrev sIsRow : Stmt := topS 12
abbrev nIsRow : List Str := ["value", "letter"]
theorem scIsRow : FnScope nIsRow ["value"] (defScope sIsRow) := ⟨rfl, rfl, rfl, by decide +kernel, rfl, by decide +kernel, by decide +kernel⟩
def spIsRow (K : PySem.W.Frag) : Sp := fun vs H Q _ => ∃ (x : V) (T : String), vs = [x] ∧ Kd K H x T ∧ (∀ z, x = .str z → z.length ≤ 1000) ∧ ∀ H', Same H H' → Q (.bl (rowB x)) H'
theorem one_lt (c d : Nat) : decide ([c] < [d]) = decide (c < d) := by
  rw [← ltCps_eq]
  show (decide (c < d) || (c == d && false)) = decide (c < d)
  rw [Bool.and_false, Bool.or_false]
theorem lt_a (c : Nat) : (!decide ((⟨#[c]⟩ : Str).cps.toList < ("a" : Str).cps.toList)) = decide (97 ≤ c) := by
  show (!decide ([c] < [97])) = decide (97 ≤ c)
  rw [one_lt]
  by_cases h : 97 ≤ c
  · rw [decide_eq_true h, decide_eq_false (by omega)]
    rfl
  · rw [decide_eq_false h, decide_eq_true (by omega)]
    rfl
theorem gt_z (c : Nat) : (!decide (("z" : Str).cps.toList < (⟨#[c]⟩ : Str).cps.toList)) = decide (c ≤ 122) := by
  show (!decide ([122] < [c])) = decide (c ≤ 122)
  rw [one_lt]
  by_cases h : c ≤ 122
  · rw [decide_eq_true h, decide_eq_false (by omega)]
    rfl
  · rw [decide_eq_false h, decide_eq_true (by omega)]
    rfl
theorem rowB_str (z : Str) : rowB (.str z) = (decide (1 ≤ z.length) && decide (z.length ≤ 8) && z.cps.toList.all fun c => decide (97 ≤ c) && decide (c ≤ 122)) := rfl
section
variable {P : Program} {w : World} {K : PySem.W.Frag} {mg : Str → Option Value} {base : Heap}
theorem ok_isrow {f : Addr} {fd : FuncData} {k : Nat} {tk : Tok} (F : Fun K "is_row" "is_row" sIsRow f fd) (mi : mg "isinstance" = none) (ms : mg "str" = none) (ml : mg "len" = none) (ma : mg "all" = none) (mL : mg "MOST_LETTERS" = some (.int 8 tk)) : FnOk P w K mg base CX0 (k + 1) f fd ["value"] (spIsRow K) := by
  refine F.ok scIsRow (fun vs H Q E h => ?_) (fun cdv A outer s H vs Q E hr h => ?_)
  · obtain ⟨x, T, rfl, _⟩ := h
    rfl
  · obtain ⟨x, T, rfl, kd, hz, q⟩ := h
    refine ⟨_, pss_cons (ps_if (PW.pt (pw_or (pt_not (pt_val (pe_callB call_isi (by rfl) mi (by decide +kernel) (pa_cons (pv 0) (pa_cons (pe_bltn (v := .ty "str") (by rfl) ms (by decide +kernel) rfl) pa_nil)))))
        (pw_or1 (pt_not (pt_chain op_le op_le pe_int (pe_callB call_len (by rfl) ml PySem.boot_len (pa_cons (pv 0) pa_nil)) (pe_glob (v := .int 8) (by rfl) mL ⟨_, rfl⟩))))))
        (pss_one (ps_ret pe_bl)) pss_nil)
      (pss_one (ps_ret (pe_callB (cr_all rfl) (by rfl) ma (by decide +kernel) (pa_cons (pe_lc (own := [("letter", 1)]) (g := gName 1) (tt := tYes) (te := tChain (fun x y H Q => ∃ i j, x = .str i ∧ y = .str j ∧ Q (.bl (!decide (j.cps.toList < i.cps.toList))) H) (fun x y H Q => ∃ i j, x = .str i ∧ y = .str j ∧ Q (.bl (!decide (j.cps.toList < i.cps.toList))) H) (tC (.str "a")) (tVar 1) (tC (.str "z"))) rfl scIsRow.nd (pi_str (pv 0))
        (blkOk_by (own := [("letter", 1)]) (N := nIsRow) (sc := defScope sIsRow) (by decide +kernel)) (fun _ _ _ _ _ => pg_name (i := 1) scIsRow.nd rfl (.inl rfl)) (fun _ _ _ _ _ => pts_nil) (fun _ _ _ _ _ => pe_chain op_le_str op_le_str pe_str (pv 1) pe_str)) pa_nil)))), ?_⟩
    have qH := q H (Same.refl H)
    refine ⟨_, rfl, x, _, _, _, _, rfl, .ty "str", kd.ty, kit_ty kd.kstr, _, rfl, ?_⟩
    cases kd with
    | bl b => exact iteT (iteT qH)
    | int i => exact iteT (iteT qH)
    | non => exact iteT (iteT qH)
    | lst h => exact iteT (iteT qH)
    | tup h => exact iteT (iteT qH)
    | dct h => exact iteT (iteT qH)
    | str z =>
      have lz := hz z rfl
      refine iteF ?_
      refine ⟨_, rfl, _, z.length, rfl, ⟨sz1000 lz, rfl⟩, _, _, rfl, rfl, _, rfl, ite2 (fun h1 => ?_) (fun h1 => ?_)⟩
      · refine ⟨_, _, rfl, rfl, _, rfl, ?_⟩
        by_cases h2 : (z.length : Int) ≤ 8
        · have h1 : (1 : Int) ≤ z.length := of_decide_eq_true h1
          rw [decide_eq_true h2]
          refine iteF ?_
          refine ⟨_, rfl, z, rfl, fun D hD => walk_str (z := z) (fun i H' => Same H H' ∧ H' D = some (.lst (((z.cps.toList.take i).map fun c => decide (97 ≤ c) && decide (c ≤ 122)).map V.bl))) ⟨same_new hD, upd_same⟩ (fun i c H' hc hP => ?_) (fun H' hP => ?_)⟩
          · obtain ⟨p1, p2⟩ := hP
            have hi : i < z.length := by
              have := (List.getElem?_eq_some_iff.mp hc).1
              rw [len_cps] at this
              exact this
            refine ⟨rfl, lc_yes ?_⟩
            have fin : ∀ b : Bool, b = (decide (97 ≤ c) && decide (c ≤ 122)) → ∃ acc, H' D = some (.lst acc) ∧ acc.length < sizeLine ∧ Same H (upd H' D (.lst (acc ++ [V.bl b]))) ∧ (upd H' D (.lst (acc ++ [V.bl b]))) D = some (.lst (((z.cps.toList.take (i + 1)).map fun c => decide (97 ≤ c) && decide (c ≤ 122)).map V.bl)) := by
              intro b hb
              refine ⟨_, p2, ?_, same_own p1 hD, ?_⟩
              · rw [List.length_map, List.length_map, List.length_take]
                exact small1000 (by omega)
              · rw [upd_same, List.take_add_one, hc, hb, List.map_append, List.map_append]
                rfl
            refine ⟨_, rfl, _, _, rfl, rfl, _, rfl, ?_⟩
            rw [lt_a]
            refine ite2 (fun h3 => ?_) (fun h3 => ?_)
            · refine ⟨_, _, rfl, rfl, ?_⟩
              rw [gt_z]
              exact fin _ (by rw [h3, Bool.true_and])
            · exact fin _ (by rw [Bool.eq_false_iff.mpr h3, Bool.false_and])
          · obtain ⟨p1, p2⟩ := hP
            rw [List.take_of_length_le (by rw [len_cps]; exact Nat.le_refl _)] at p2
            refine ⟨D, _, rfl, SqL.of p2, ?_⟩
            have e : rowB (.str z) = (z.cps.toList.map fun c => decide (97 ≤ c) && decide (c ≤ 122)).all id := by
              rw [rowB_str, decide_eq_true (show 1 ≤ z.length by omega), decide_eq_true (show z.length ≤ 8 by omega), List.all_map]
              rfl
            have z1 := q H' p1
            rw [e] at z1
            exact z1
        · rw [decide_eq_false h2]
          refine iteT ?_
          have e : rowB (.str z) = false := by
            rw [rowB_str, decide_eq_false (show ¬ z.length ≤ 8 by omega), Bool.and_false, Bool.false_and]
          rw [e] at qH
          exact qH
      · have h1 : ¬ (1 : Int) ≤ z.length := fun y => h1 (decide_eq_true y)
        refine ⟨_, rfl, iteT ?_⟩
        have e : rowB (.str z) = false := by
          rw [rowB_str, decide_eq_false (show ¬ 1 ≤ z.length by omega), Bool.false_and, Bool.false_and]
        rw [e] at qH
        exact qH
end
end M
namespace M
open PySem PySem.Spec PyProof.Rows L2 Gd
/-! ### for i, x in enumerate(t), t a tuple -/
set_option maxHeartbeats 2000000 in
theorem enum_new1 {v : Value} {o : Obj} {W : Heap → Prop} (B : Begins v o W) : Meets (Builtin.«enumerate.__new__» ⟨[.type "enumerate", v], []⟩) (fun _ R s => W s.heap ∧
    R (.ok (.ret (.ref (s.heap.push o).objs.size))) { s with heap := (s.heap.push o).push { cls := .type "enumerate", data := .fields #[.none, .bool false, .ref s.heap.objs.size, rawInt 0, .none, .none] } }) :=
  .of_wp fun prog w A R s hyp => by
    obtain ⟨hp, gn, dr, tk, os⟩ := s
    obtain ⟨h1, hyp⟩ := hyp
    have hsub := sub_enumerate
    have it : ∀ {A' : Around} {E : Value → Shared → Prop} {Q : Value → Shared → Prop}, Q (.ref hp.objs.size) ⟨hp.push o, gn, dr, tk, os⟩ → wpAny (model prog w) A' (pyIter v) Q E ⟨hp, gn, dr, tk, os⟩ := fun z => B.iter prog w _ _ ⟨hp, gn, dr, tk, os⟩ _ h1 z
    wp_walk using it
    refine wpAny_stack_any fun st => wpAny_pure ?_
    split
    · rename_i cc _ _ _ _ _
      cases (cc == Value.type "enumerate") <;> (wp_walk using it; exact ⟨_, rfl, hyp⟩)
    · wp_walk using it
      exact ⟨_, rfl, hyp⟩
theorem call_enum1 {prog : Program} {w : World} {A : Around} {E : Value → Shared → Prop} {s : Shared} {v : Value} {o : Obj} {W : Heap → Prop} {Q : Value → Shared → Prop} (B : Begins v o W) (h1 : W s.heap)
    (h : ∀ h', IsEnum h' (s.heap.objs.size + 1) s.heap.objs.size 0 .none → h'.get? s.heap.objs.size = some o → (∀ b u, s.heap.get? b = some u → h'.get? b = some u) → Q (.ref (s.heap.objs.size + 1)) { s with heap := h' }) :
    wpAny (model prog w) A (call (.type "enumerate") [v]) Q E s := by
  refine callType_new F.called_enumerate (by decide) (F.typeCall_enumerate_1 _) (F.newCall_enumerate_1 _) (fun obj => F.args_object_init_2 obj _) F.entry_enumerate_new (enum_new1 B) ⟨h1, ?_⟩
  have sz : (s.heap.push o).objs.size = s.heap.objs.size + 1 := Heap.size_push ..
  show _ ∧ _
  rw [sz]
  have en : IsEnum ((s.heap.push o).push { cls := .type "enumerate", data := .fields #[.none, .bool false, .ref s.heap.objs.size, rawInt 0, .none, .none] }) (s.heap.objs.size + 1) s.heap.objs.size 0 .none := by
    have z := Heap.get?_push_size (s.heap.push o) (o := { cls := .type "enumerate", data := .fields #[.none, .bool false, .ref s.heap.objs.size, rawInt 0, .none, .none] }) rfl
    rw [sz] at z
    exact z
  exact ⟨⟨_, en, rfl⟩, h _ en (Heap.get?_push_of_some _ (Heap.get?_push_size _ B.free)) fun b u x => Heap.get?_push_of_some _ (Heap.get?_push_of_some _ x)⟩
/-- the tuple at a, each item in a new pair with its place -/
def Ent (K : PySem.W.Frag) (a : Addr) : It :=
  ⟨fun i H => ∃ (xs : List V) (x : V), SqT K H a xs ∧ xs[i]? = some x, fun i H v H' => ∃ T x, v = .ref T ∧ H T = none ∧ H' = upd H T (.tup [.int (i : Nat), x]) ∧ ∀ xs, SqT K H a xs → xs[i]? = some x, fun i H => ∃ xs : List V, SqT K H a xs ∧ xs.length ≤ i⟩
theorem turn_ent {P : Program} {w : World} {K : PySem.W.Frag} {elts : List Expr} {kk : Nat} {tpos : Pos} (a e it : Addr) :
    Turn P w K (.Tuple elts kk tpos) (Ent K a) [e, it] e (fun i h => (∃ old, IsEnum h e it ((i : Nat) : Int) old) ∧ h.IsTupleIter it a i ∧ e ≠ it) where
  mem := by simp
  obj := fun i h st b hb => by
    obtain ⟨⟨old, he⟩, ⟨o, ho, hc, hd⟩, _⟩ := st
    rcases (by simpa using hb : b = e ∨ b = it) with z | z
    · subst z
      exact ⟨_, he, fun v q => nomatch q⟩
    · subst z
      exact ⟨o, ho, fun v q => by rw [hd] at q; cases q⟩
  keep := by
    rintro i h h' ⟨⟨old, he⟩, ⟨o, ho, r⟩, ne⟩ k
    exact ⟨⟨old, k e (by simp) _ he⟩, ⟨o, k it (by simp) _ ho, r⟩, ne⟩
  item := by
    intro X hP hw hK hc i pins s σ H E I hf st hg
    subst hP hw hK
    obtain ⟨⟨old, he⟩, hit, hne⟩ := st
    obtain ⟨xs, x, hq, hx⟩ := hg
    obtain ⟨its, rv, tp, hz⟩ := I.tuple hq
    obtain ⟨u, hu, ru⟩ := rv.get hx
    have hel : e < s.heap.objs.size := Heap.lt_size he
    have hil : it < s.heap.objs.size := by
      obtain ⟨_, z, _⟩ := hit
      exact Heap.lt_size z
    have nai : a ≠ it := fun z => by
      obtain ⟨o1, e1, c1, _⟩ := tp
      obtain ⟨o2, e2, c2, _⟩ := hit
      rw [z, e2] at e1
      cases e1
      rw [c2] at c1
      exact absurd (Value.type.inj c1) (by decide)
    have nae : e ≠ a := fun z => by
      obtain ⟨o1, e1, c1, _⟩ := tp
      rw [← z] at e1
      have e2 : s.heap.get? e = _ := he
      rw [e2] at e1
      cases e1
      exact absurd (Value.type.inj c1) (by decide)
    have hil2 : i < its.toArray.size := by
      rw [List.size_toArray]
      exact (List.getElem?_eq_some_iff.mp hu).1
    refine wpAny_pyNext_enum_itemD (Draws.tuple (A := X.A.in1) (I.ok.hd hc) it a nai its.toArray) he ⟨hit, tp⟩ hil2 hne (by simp [hne, nae]) fun y h' tk py eo st' hT sz hk => ?_
    have ey : y = u := by
      have z : its[i]? = some y := by simpa using py
      rw [hu] at z
      exact (Option.some.inj z).symm
    subst ey
    refine ⟨_, rfl, wpAny_letOwnedTupleGo_enum (s := { s with heap := h', toks := tk + 1 }) eo fun h2 he2 sb => ?_⟩
    have hT2 : h2.get? s.heap.objs.size = some { cls := .type "tuple", data := .seq #[.int i tk, y] } := (sb.2 _ (Nat.ne_of_gt hel)).trans hT
    have new : ObjOk X.prog X.w (upd H s.heap.objs.size (.tup [.int (i : Nat), x])) h2 s.heap.objs.size (.tup [.int (i : Nat), x]) :=
      ⟨(by show 2 ≤ sizeLine; decide), [.int i tk, y], .cons ⟨_, rfl⟩ (.cons ru .nil), ⟨_, hT2, rfl, _, rfl⟩⟩
    have J : Inv X pins σ (upd H s.heap.objs.size (.tup [.int (i : Nat), x])) { s with heap := h2, toks := tk + 1 } := by
      refine I.turnedNew (ch := [e, it]) (fun b ob hb q => ?_) hf (Nat.le_refl _) new
      have n1 : b ≠ e := fun z => hb (by simp [z])
      have n2 : b ≠ it := fun z => hb (by simp [z])
      exact (sb.2 b n1).trans (hk b ob n1 n2 q)
    refine ⟨.ref s.heap.objs.size, _, J, rfl, ⟨_, x, rfl, I.hok.fresh (Nat.le_refl _), rfl, fun ys hy => ?_⟩, ⟨⟨y, ?_⟩, ?_, hne⟩, fun b hb => ?_⟩
    · rw [I.tuple_inj hy hq]
      exact hx
    · have e1 : ((i + 1 : Nat) : Int) = (i : Int) + 1 := by omega
      rw [e1]
      exact he2
    · obtain ⟨o, ho, r⟩ := st'.1
      exact ⟨o, (sb.2 it hne.symm).trans ho, r⟩
    · have lt : b < s.heap.objs.size := by
        rcases (by simpa using hb : b = e ∨ b = it) with z | z
        · rw [z]
          exact hel
        · rw [z]
          exact hil
      rw [upd_ne (Nat.ne_of_lt lt)]
      exact (hf b hb).1
  done := by
    intro X hP hw hK hc i pins s σ H E I hf st hg
    subst hP hw hK
    obtain ⟨⟨old, he⟩, hit, hne⟩ := st
    obtain ⟨xs, hq, hx⟩ := hg
    obtain ⟨its, rv, tp, hz⟩ := I.tuple hq
    obtain ⟨f0, f1, f2, f3, f4, f5⟩ := hf it (by simp)
    have hT : s.TypeIs (.ref e) "enumerate" := ⟨_, he, rfl⟩
    have len := rv.length
    unfold pyNext
    refine wpAny_bind (wpAny_attempt (wpAny_callSpecial?_slot (name := Str.ofString "__next__") hT F.slot_enumerate_next (wpAny_call_entry F.slot_enumerate_next hT F.entry_enumerate_next ?_ (F.args_enumerate_next_1 _))))
    show wpAny _ _ (field (.ref e) 2 >>= _) _ _ _
    refine wpAny_bind (wpAny_field he rfl (x := .ref it) rfl ?_)
    refine wpAny_bind (wpAny_nextOf_tuple_end (I.ok.hd hc) hit tp (by simp; omega) fun h' x he' hx' => ?_)
    obtain ⟨o, ho, hcl⟩ := hx'
    refine wpAny_bind (wpAny_isInstance (T := "StopIteration") (b := true) ⟨o, ho, hcl⟩ isSubtype_stop ?_)
    exact wpAny_pure ⟨rfl, I.turned (t' := s.toks) (fun b o hb q => he' b o hb q) f0 f1 f3 f4 f5⟩
  self := fun A i s Q E st h => let ⟨⟨_, he⟩, _⟩ := st; wpAny_pyIter_enum he h
def iEnt (K : PySem.W.Frag) (ta : TA) : TI := fun σ H R => ta σ H fun vs H1 => ∃ a xs, vs = [.ref a] ∧ SqT K H1 a xs ∧ R (Ent K a) H1
theorem pi_ent {X : Cx} {e : Expr} {ta : TA} {p pos tpos : Pos} {elts : List Expr} {kk : Nat} (hg : Gl X "enumerate") (hm : X.mg "enumerate" = none) (ha : PA X [e] ta) (hs : starEach [e] X.env = [(false, eval e X.env)] := by rfl) :
    PI X (.Tuple elts kk tpos) (.Call (.Name "enumerate" p) [e] [] pos) (iEnt X.K ta) := by
  refine ⟨fun pins s σ H R I h => ?_⟩
  refine Call_ (ld_blt I hg hm boot_enumerate (PyProof.Rows.callWith_type1 (thn (ha.run pos pins s σ H _ I h) ?_) hs rfl))
  rintro us s1 ⟨vs, H1, I1, r1, a, xs, rfl, hq, q⟩
  obtain ⟨u, rfl, rx⟩ := vals1 r1
  cases rx
  obtain ⟨its, rv, tp, hz⟩ := I1.tuple hq
  refine call_enum1 (begins_tuple a its.toArray) tp fun h' en it hk => wpAny_pyIter_enum en ?_
  refine ⟨s1.heap.objs.size + 1, [s1.heap.objs.size + 1, s1.heap.objs.size], _, _, H1, rfl, I1.kept (t' := s1.toks) hk, turn_ent a (s1.heap.objs.size + 1) s1.heap.objs.size, ⟨⟨.none, en⟩, ⟨_, it, rfl, rfl⟩, Nat.succ_ne_self _⟩, fun b hb => ?_, q⟩
  have le : s1.heap.objs.size ≤ b := by
    rcases (by simpa using hb : b = s1.heap.objs.size + 1 ∨ b = s1.heap.objs.size) with z | z
    · rw [z]
      exact Nat.le_add_right _ _
    · rw [z]
      exact Nat.le_refl _
  exact I1.fpOk le (I1.hok.fresh le)
/-- the loop over it -/
theorem for_ent {K : PySem.W.Frag} {a : Addr} {xs : List V} {g : TG} {tb : TS} {D : Ends} {σ : L2.St} {H : Hp} (Pv : Nat → L2.St → Hp → Prop) (h0 : Pv 0 σ H) (hl : ∀ i σ H, i ≤ xs.length → Pv i σ H → SqT K H a xs)
    (hs : ∀ i x T σ H, xs[i]? = some x → Pv i σ H → H T = none → g (.ref T) σ (upd H T (.tup [.int (i : Nat), x])) fun σ2 H2 => tb { D with nx := Pv (i + 1), ct := Pv (i + 1), bk := D.nx } σ2 H2) (hd : ∀ σ H, Pv xs.length σ H → D.nx σ H) :
    ∃ W : Nat → Nat → L2.St → Hp → Prop, (∃ m, W 0 m σ H) ∧ ∀ i m σ H, W i m σ H →
      ((Ent K a).stop i H ∧ D.nx σ H) ∨ ((Ent K a).go i H ∧ ∃ N : L2.St → Hp → Prop, (∀ σ' H', N σ' H' → ∃ m', m' < m ∧ W (i + 1) m' σ' H') ∧ ∀ x H', (Ent K a).yld i H x H' → g x σ H' fun σ2 H2 => tb { D with nx := N, ct := N, bk := D.nx } σ2 H2) := by
  refine ⟨fun i m σ H => (m + i = xs.length) ∧ Pv i σ H, ⟨xs.length, rfl, h0⟩, fun i m σ H h => ?_⟩
  obtain ⟨em, p⟩ := h
  have sq := hl i σ H (by omega) p
  rcases Nat.lt_or_ge i xs.length with lt | ge
  · refine Or.inr ⟨⟨xs, xs[i], sq, List.getElem?_eq_getElem lt⟩, Pv (i + 1), fun σ' H' p' => ⟨m - 1, by omega, by omega, p'⟩, ?_⟩
    rintro v H' ⟨T, x, rfl, nT, rfl, y⟩
    exact hs i x T σ H (y xs sq) p nT
  · have ei : i = xs.length := by omega
    rw [ei] at p
    exact Or.inl ⟨⟨xs, sq, by omega⟩, hd σ H p⟩
end M
namespace M
open PySem PySem.Spec PyProof.Rows L2 Gd
/-! ### edits of lists -/
def insL (rows : List Str) (z : Str) (i : Nat) : List Str := rows.take i ++ [z] ++ rows.drop i
def rmL (rows : List Str) (z : Str) : List Str := rows.filter fun r => !decide (V.str r = V.str z)
theorem dec_str (r z : Str) : decide (V.str r = V.str z) = decide (r = z) := by
  by_cases h : r = z
  · rw [decide_eq_true h, decide_eq_true (by rw [h])]
  · rw [decide_eq_false h, decide_eq_false (fun e => h (V.str.inj e))]
theorem rm_off {rows : List Str} {z : Str} (h : z ∉ rows) : rmL rows z = rows := by
  unfold rmL
  rw [List.filter_eq_self]
  intro r hr
  rw [dec_str, decide_eq_false (fun e => h (by rw [← e]; exact hr))]
  rfl
theorem rm_app (a b : List Str) (z : Str) : rmL (a ++ b) z = rmL a z ++ rmL b z := List.filter_append ..
theorem rm_self (z : Str) : rmL [z] z = [] := by
  unfold rmL
  rw [List.filter_cons, decide_eq_true rfl]
  rfl
theorem rm_ins {rows : List Str} {z : Str} (h : z ∉ rows) (i : Nat) : rmL (insL rows z i) z = rows := by
  unfold insL
  rw [rm_app, rm_app, rm_self, List.append_nil, ← rm_app, List.take_append_drop, rm_off h]
theorem rm_no (rows : List Str) (z : Str) : z ∉ rmL rows z := fun h => by
  have := (List.mem_filter.mp h).2
  rw [decide_eq_true rfl] at this
  cases this
theorem rm_mem {rows : List Str} {z x : Str} (h : x ∈ rmL rows z) : x ∈ rows := (List.mem_filter.mp h).1
theorem at_split {rows : List Str} {z : Str} {n : Nat} (h : rows[n]? = some z) : rows = rows.take n ++ z :: rows.drop (n + 1) := by
  have hn := (List.getElem?_eq_some_iff.mp h).1
  have e := (List.getElem?_eq_some_iff.mp h).2
  rw [← e, ← List.drop_eq_getElem_cons hn, List.take_append_drop]
theorem rm_at {rows : List Str} {z : Str} {n : Nat} (nd : rows.Nodup) (h : rows[n]? = some z) : rmL rows z = rows.take n ++ rows.drop (n + 1) := by
  have e := at_split h
  have nd2 : (rows.take n ++ z :: rows.drop (n + 1)).Nodup := by
    rw [← e]
    exact nd
  have x := List.nodup_append.mp nd2
  have y := List.nodup_cons.mp x.2.1
  have h1 : z ∉ rows.take n := fun q => x.2.2 z q z List.mem_cons_self rfl
  have g : rmL (rows.take n ++ z :: rows.drop (n + 1)) z = rows.take n ++ rows.drop (n + 1) := by
    rw [rm_app, show z :: rows.drop (n + 1) = [z] ++ rows.drop (n + 1) from rfl, rm_app, rm_self, List.nil_append, rm_off h1, rm_off y.1]
  rw [← e] at g
  exact g
theorem back {rows : List Str} {z : Str} {n : Nat} (nd : rows.Nodup) (h : rows[n]? = some z) : insL (rmL rows z) z n = rows := by
  have hn := (List.getElem?_eq_some_iff.mp h).1
  have lt : (rows.take n).length = n := by
    rw [List.length_take]
    omega
  unfold insL
  rw [rm_at nd h, List.take_append_of_le_length (by omega), List.take_of_length_le (by omega), List.drop_append_of_le_length (by omega), List.drop_of_length_le (l := rows.take n) (by omega), List.nil_append, List.append_assoc]
  exact (at_split h).symm
theorem ins_len (rows : List Str) (z : Str) (i : Nat) : (insL rows z i).length = rows.length + 1 := by
  have := (ins_perm0 rows i z).length_eq
  exact this
theorem ins_row {rows : List Str} {z : Str} {i : Nat} (h : ∀ y ∈ rows, RowS y) (hz : RowS z) : ∀ y ∈ insL rows z i, RowS y := fun y hy => by
  rcases List.mem_cons.mp ((ins_perm0 rows i z).subset hy) with e | e
  · rw [e]
    exact hz
  · exact h y e
theorem rm_len (rows : List Str) (z : Str) : (rmL rows z).length ≤ rows.length := List.length_filter_le _ _
theorem rm_len1 {rows : List Str} {z : Str} (nd : rows.Nodup) (h : z ∈ rows) : (rmL rows z).length + 1 = rows.length := by
  obtain ⟨n, hn⟩ := List.getElem?_of_mem h
  have lt := (List.getElem?_eq_some_iff.mp hn).1
  rw [rm_at nd hn, List.length_append, List.length_take, List.length_drop]
  omega
/-! ### t[:c], t[c:] -/
theorem slA_to {K : PySem.W.Frag} {H : Hp} {Q : VK} {a : Addr} {rows : List Str} {c : Nat} (ha : SqT K H a (rows.map V.str)) (q : ∀ H' p, Same H H' → SqT K H' p ((rows.take c).map V.str) → Q (.ref p) H') : rSlA K (.ref a) none (some (c : Int)) H Q := by
  refine ⟨a, _, rfl, ha, fun e => ?_, fun _ p hp => ?_⟩
  · refine q H a (Same.refl H) ?_
    rw [HT.sIx_nat, List.length_map] at e
    rw [List.take_of_length_le (by omega)]
    exact ha
  · refine q _ p (same_new hp) (SqT.of ?_)
    rw [upd_same, cut_to, List.map_take]
theorem slA_from {K : PySem.W.Frag} {H : Hp} {Q : VK} {a : Addr} {rows : List Str} {c : Nat} (ha : SqT K H a (rows.map V.str)) (q : ∀ H' p, Same H H' → SqT K H' p ((rows.drop c).map V.str) → Q (.ref p) H') : rSlA K (.ref a) (some (c : Int)) none H Q := by
  refine ⟨a, _, rfl, ha, fun e => ?_, fun _ p hp => ?_⟩
  · refine q H a (Same.refl H) ?_
    rw [HT.sIx_nat, List.length_map] at e
    have z : rows.drop c = rows := by
      rcases Nat.lt_or_ge 0 c with h | h
      rotate_left
      · rw [Nat.le_zero.mp h, List.drop_zero]
      · have : rows.length = 0 := by omega
        rw [List.length_eq_zero_iff.mp this, List.drop_nil]
    rw [z]
    exact ha
  · refine q _ p (same_new hp) (SqT.of ?_)
    rw [upd_same, cut_from, List.map_drop]
theorem neD_tup {K : PySem.W.Frag} {H : Hp} {a b : Addr} {rows : List Str} {Q : VK} (ha : SqT K H a (rows.map V.str)) (hb : SqT K H b (rows.map V.str)) (h : ∀ z ∈ rows, RowS z) (q : Q (.bl false) H) : rNeD K (.ref a) (.ref b) H Q := by
  have ok := shaped_tup (ns := rows) fun z hz => (h z hz).ok
  refine ⟨_, _, .tup ha (dp_strs rows), .tup hb (dp_strs rows), ok, ok, ?_⟩
  rw [eqv_strs h]
  exact q
theorem within_ok {i lo hi : Int} (h1 : lo ≤ i) (h2 : i ≤ hi) : within (.int i) lo hi = true := by
  show (decide (lo ≤ i) && decide (i ≤ hi)) = true
  rw [decide_eq_true h1, decide_eq_true h2]
  rfl
/-! ### insert_row, where it raises nothing -/
abbrev sIns : Stmt := topS 14
theorem scIns : FnScope ["version", "row", "index"] ["version", "row", "index"] (defScope sIns) := ⟨rfl, rfl, rfl, by decide +kernel, rfl, by decide +kernel, by decide +kernel⟩
def spIns (K : PySem.W.Frag) : Sp := fun vs H Q _ => ∃ (a : Addr) (rows : List Str) (z : Str) (i : Nat), vs = [.ref a, .str z, .int i] ∧ SqT K H a (rows.map V.str) ∧ RowS z ∧ z ∉ rows ∧ rows.length < 24 ∧ i ≤ rows.length ∧
  ∀ H' p, Same H H' → SqT K H' p ((insL rows z i).map V.str) → Q (.ref p) H'
section
variable {P : Program} {w : World} {K : PySem.W.Frag} {mg : Str → Option Value} {base : Heap}
theorem ok_ins {f fR fW : Addr} {fd fdR fdW : FuncData} {k : Nat} {tk tk2 : Tok} (F : Fun K "insert_row" "insert_row" sIns f fd) (FR : Fun K "is_row" "is_row" sIsRow fR fdR) (bR : Binds K fdR ["value"] []) (gR : mg "is_row" = some (.ref fR))
    (FW : Fun K "is_integer_within" "is_integer_within" sWithin fW fdW) (bW : Binds K fdW ["value", "low", "high"] []) (gW : mg "is_integer_within" = some (.ref fW)) (mi : mg "isinstance" = none) (ms : mg "str" = none) (mb : mg "bool" = none) (mint : mg "int" = none) (ml : mg "len" = none) (ma : mg "all" = none) (mL : mg "MOST_LETTERS" = some (.int 8 tk)) (mR : mg "MOST_ROWS" = some (.int 24 tk2)) :
    FnOk P w K mg base CX0 (k + 2) f fd ["version", "row", "index"] (spIns K) := by
  have GR : FnOk P w K mg base CX0 (k + 1) fR fdR ["value"] (spIsRow K) := ok_isrow FR mi ms ml ma mL
  have GW : FnOk P w K mg base CX0 (k + 1) fW fdW ["value", "low", "high"] (spWithin K) := ok_within FW mi mb mint
  refine F.ok scIns (fun vs H Q E h => ?_) (fun cdv A outer s H vs Q E hr h => ?_)
  · obtain ⟨a, rows, z, i, rfl, _⟩ := h
    rfl
  · obtain ⟨a, rows, z, i, rfl, hA, hz, nz, l24, hi, q⟩ := h
    refine ⟨_, pss_cons (ps_if (pt_not (pt_val (pe_call GR hr (by rfl) gR FR.kp bR .nil pass0 (pa_cons (pv 1) pa_nil)))) (pss_one ps_never) pss_nil)
      (pss_cons (ps_if (pt_cmpR op_in_seq (pv 1) (pv 0) (by rfl)) (pss_one ps_never) pss_nil)
      (pss_cons (ps_if (pt_not (pt_val (pe_call GW hr (by rfl) gW FW.kp bW .nil pass0 (pa_cons (pv 2) (pa_cons pe_int (pa_cons (pe_callB call_len (by rfl) ml PySem.boot_len (pa_cons (pv 0) pa_nil)) pa_nil)))))) (pss_one ps_never) pss_nil)
      (pss_cons (ps_if (pt_cmpR op_ge (pe_callB call_len (by rfl) ml PySem.boot_len (pa_cons (pv 0) pa_nil)) (pe_glob (v := .int 24) (by rfl) mR ⟨_, rfl⟩) (nomark _)) (pss_one ps_never) pss_nil)
      (pss_one (ps_ret (pe_op op_catA (pe_op op_catA (pe_slice sl_tupA (pv 0) po_none (po_some (pv 2))) (pe_tup (pa_cons (pv 1) pa_nil))) (pe_slice sl_tupA (pv 0) (po_some (pv 2)) po_none))))))), ?_⟩
    refine ⟨_, rfl, _, _, rfl, .str z, fun y e => by cases e; have := hz.2.1; omega, fun H1 s1 => ⟨_, rfl, ?_⟩⟩
    rw [(rowB_iff z).mpr hz]
    refine iteF ?_
    refine ⟨_, rfl, .ref a, rfl, a, _, rfl, .inr (same_t s1 hA), rfl, flat_strs rows, _, rfl, ?_⟩
    show if (inV (.str z) (rows.map V.str)) = true then _ else _
    rw [inV_strs, show rows.contains z = false by rw [List.contains_eq_mem]; exact decide_eq_false nz]
    refine iteF ?_
    refine ⟨_, rfl, .ref a, rfl, _, rows.length, rfl, .inr ⟨_, same_t s1 hA, (List.length_map ..).symm⟩, _, _, _, _, rfl, .int i, _, rfl, ?_⟩
    rw [show within (.int i) 0 rows.length = true from within_ok (by omega) (by omega)]
    refine iteF ?_
    refine ⟨.ref a, rfl, _, rows.length, rfl, .inr ⟨_, same_t s1 hA, (List.length_map ..).symm⟩, _, _, rfl, rfl, _, rfl, ?_⟩
    rw [decide_eq_false (show ¬ (rows.length : Int) ≥ 24 by omega)]
    refine iteF ?_
    refine ⟨.ref a, rfl, _, rfl, i, rfl, ?_⟩
    dsimp only
    refine slA_to (same_t s1 hA) fun H2 p2 s2 e2 => ?_
    refine ⟨_, rfl, (by show 1 ≤ sizeLine; decide), fun t ht => ?_⟩
    have s3 : Same H1 (upd H2 t (.tup [.str z])) := s2.trans (same_new ht)
    dsimp only
    refine catA_of (same_t (same_new ht) e2) (ys := [z]) (SqT.of upd_same) (by rw [List.length_take]; show _ + 1 ≤ 1000; omega) fun H4 p4 s4 e4 => ?_
    refine ⟨.ref a, rfl, _, rfl, i, rfl, ?_⟩
    have s14 := s1.trans (s3.trans s4)
    dsimp only [tNoPart]
    refine slA_from (same_t s14 hA) fun H5 p5 s5 e5 => ?_
    refine catA_of (same_t s5 e4) e5 (by rw [List.length_append, List.length_take, List.length_drop]; show _ + 1 + _ ≤ 1000; omega) fun H6 p6 s6 e6 => ?_
    exact q H6 p6 (s14.trans (s5.trans s6)) e6
end
/-! ### remove_row, where it raises nothing -/
abbrev sRm : Stmt := topS 15
abbrev nRm : List Str := ["version", "row", "other"]
theorem scRm : FnScope nRm ["version", "row"] (defScope sRm) := ⟨rfl, rfl, rfl, by decide +kernel, rfl, by decide +kernel, by decide +kernel⟩
def spRm (K : PySem.W.Frag) : Sp := fun vs H Q _ => ∃ (a : Addr) (rows : List Str) (z : Str), vs = [.ref a, .str z] ∧ SqT K H a (rows.map V.str) ∧ z ∈ rows ∧ rows.length ≤ 30 ∧ ∀ H' p, Same H H' → SqT K H' p ((rmL rows z).map V.str) → Q (.ref p) H'
section
variable {P : Program} {w : World} {K : PySem.W.Frag} {mg : Str → Option Value} {base : Heap}
theorem ok_rm {f : Addr} {fd : FuncData} {k : Nat} (F : Fun K "remove_row" "remove_row" sRm f fd) (mt : mg "tuple" = none) : FnOk P w K mg base CX0 (k + 1) f fd ["version", "row"] (spRm K) := by
  refine F.ok scRm (fun vs H Q E h => ?_) (fun cdv A outer s H vs Q E hr h => ?_)
  · obtain ⟨a, rows, z, rfl, _⟩ := h
    rfl
  · obtain ⟨a, rows, z, rfl, hA, hz, l30, q⟩ := h
    refine ⟨_, pss_cons (ps_if (pt_cmpR op_notIn_seq (pv 1) (pv 0) (by rfl)) (pss_one ps_never) pss_nil)
      (pss_one (ps_ret (pe_callTy call_tuple_of (by rfl) mt (by decide +kernel) (pa_cons (pe_lc (own := [("other", 2)]) (g := gName 2) (tt := tTest (tOp rNe (tVar 2) (tVar 1))) (te := tVar 2) rfl scRm.nd (pi_tup (pv 0))
        (blkOk_by (own := [("other", 2)]) (N := nRm) (sc := defScope sRm) (by decide +kernel)) (fun _ _ _ _ _ => pg_name (i := 2) scRm.nd rfl (.inl rfl)) (fun _ _ _ _ _ => pts_one (pt_cmpR op_ne (pv 2) (pv 1) (nomark _))) (fun _ _ _ _ _ => pv 2)) pa_nil)))), ?_⟩
    refine ⟨_, rfl, .ref a, rfl, a, _, rfl, .inr hA, rfl, flat_strs rows, _, rfl, ?_⟩
    show if (!inV (.str z) (rows.map V.str)) = true then _ else _
    rw [inV_strs, show rows.contains z = true by rw [List.contains_eq_mem]; exact decide_eq_true hz]
    refine iteF ?_
    refine ⟨.ref a, rfl, a, rfl, ⟨_, hA⟩, fun D hD => lc_tup (xs := rows.map V.str) (fun i H' => Same H H' ∧ H' D = some (.lst ((rmL (rows.take i) z).map V.str))) ⟨same_new hD, by rw [upd_same]; rfl⟩ (fun i H' _ hP => same_t hP.1 hA) (fun i x H' hx hP => ?_) (fun H' hP => ?_)⟩
    · obtain ⟨p1, p2⟩ := hP
      rw [List.getElem?_map] at hx
      obtain ⟨y, hy, rfl⟩ := Option.map_eq_some_iff.mp hx
      have e : rmL (rows.take (i + 1)) z = rmL (rows.take i) z ++ (if (!decide (V.str y = V.str z)) = true then [y] else []) := by
        unfold rmL
        rw [List.take_add_one, hy, List.filter_append, Option.toList_some, List.filter_cons, List.filter_nil]
      refine ⟨rfl, _, rfl, _, rfl, rfl, _, rfl, ite2 (fun h => ?_) (fun h => ?_)⟩
      · refine ⟨_, rfl, _, p2, ?_, same_own p1 hD, ?_⟩
        · rw [List.length_map]
          exact small1000 (Nat.le_trans (rm_len _ _) (by rw [List.length_take]; omega))
        · rw [upd_same, e, if_pos h, List.map_append]
          rfl
      · refine ⟨p1, ?_⟩
        rw [e, if_neg h, List.append_nil]
        exact p2
    · obtain ⟨p1, p2⟩ := hP
      rw [List.length_map, List.take_length] at p2
      refine ⟨D, _, rfl, .inl ⟨SqL.of p2, fun t ht => ?_⟩⟩
      exact q _ t (p1.trans (same_new ht)) (SqT.of upd_same)
end
/-! ### move_row, where it raises nothing -/
abbrev sMv : Stmt := topS 16
theorem scMv : FnScope ["version", "row", "index", "others"] ["version", "row", "index"] (defScope sMv) := ⟨rfl, rfl, rfl, by decide +kernel, rfl, by decide +kernel, by decide +kernel⟩
def spMv (K : PySem.W.Frag) : Sp := fun vs H Q _ => ∃ (a : Addr) (rows : List Str) (z : Str) (i : Nat), vs = [.ref a, .str z, .int i] ∧ SqT K H a (rows.map V.str) ∧ z ∈ rows ∧ rows.length ≤ 30 ∧ i ≤ (rmL rows z).length ∧
  ∀ H' p, Same H H' → SqT K H' p ((insL (rmL rows z) z i).map V.str) → Q (.ref p) H'
section
variable {P : Program} {w : World} {K : PySem.W.Frag} {mg : Str → Option Value} {base : Heap}
theorem ok_mv {f fR fW : Addr} {fd fdR fdW : FuncData} {k : Nat} (F : Fun K "move_row" "move_row" sMv f fd) (FR : Fun K "remove_row" "remove_row" sRm fR fdR) (bR : Binds K fdR ["version", "row"] []) (gR : mg "remove_row" = some (.ref fR))
    (FW : Fun K "is_integer_within" "is_integer_within" sWithin fW fdW) (bW : Binds K fdW ["value", "low", "high"] []) (gW : mg "is_integer_within" = some (.ref fW)) (mi : mg "isinstance" = none) (mb : mg "bool" = none) (mint : mg "int" = none) (ml : mg "len" = none) (mt : mg "tuple" = none) :
    FnOk P w K mg base CX0 (k + 2) f fd ["version", "row", "index"] (spMv K) := by
  have GR : FnOk P w K mg base CX0 (k + 1) fR fdR ["version", "row"] (spRm K) := ok_rm FR mt
  have GW : FnOk P w K mg base CX0 (k + 1) fW fdW ["value", "low", "high"] (spWithin K) := ok_within FW mi mb mint
  refine F.ok scMv (fun vs H Q E h => ?_) (fun cdv A outer s H vs Q E hr h => ?_)
  · obtain ⟨a, rows, z, i, rfl, _⟩ := h
    rfl
  · obtain ⟨a, rows, z, i, rfl, hA, hz, l30, hi, q⟩ := h
    refine ⟨_, pss_cons (ps_set (i := 3) scMv.nd rfl (.inl rfl) (pe_call GR hr (by rfl) gR FR.kp bR .nil pass0 (pa_cons (pv 0) (pa_cons (pv 1) pa_nil))))
      (pss_cons (ps_if (pt_not (pt_val (pe_call GW hr (by rfl) gW FW.kp bW .nil pass0 (pa_cons (pv 2) (pa_cons pe_int (pa_cons (pe_callB call_len (by rfl) ml PySem.boot_len (pa_cons (pv 3) pa_nil)) pa_nil)))))) (pss_one ps_never) pss_nil)
      (pss_one (ps_ret (pe_op op_catA (pe_op op_catA (pe_slice sl_tupA (pv 3) po_none (po_some (pv 2))) (pe_tup (pa_cons (pv 1) pa_nil))) (pe_slice sl_tupA (pv 3) (po_some (pv 2)) po_none))))), ?_⟩
    have lr := rm_len rows z
    refine ⟨.ref a, rfl, _, rfl, a, rows, z, rfl, hA, hz, l30, fun H1 o s1 e1 => ?_⟩
    refine ⟨_, rfl, .ref o, rfl, _, (rmL rows z).length, rfl, .inr ⟨_, e1, (List.length_map ..).symm⟩, _, _, _, _, rfl, .int i, _, rfl, ?_⟩
    rw [show within (.int i) 0 (rmL rows z).length = true from within_ok (by omega) (by omega)]
    refine iteF ?_
    refine ⟨.ref o, rfl, _, rfl, i, rfl, ?_⟩
    dsimp only
    refine slA_to e1 fun H2 p2 s2 e2 => ?_
    refine ⟨_, rfl, (by show 1 ≤ sizeLine; decide), fun t ht => ?_⟩
    have s3 : Same H1 (upd H2 t (.tup [.str z])) := s2.trans (same_new ht)
    dsimp only
    refine catA_of (same_t (same_new ht) e2) (ys := [z]) (SqT.of upd_same) (by rw [List.length_take]; show _ + 1 ≤ 1000; omega) fun H4 p4 s4 e4 => ?_
    refine ⟨.ref o, rfl, _, rfl, i, rfl, ?_⟩
    dsimp only [tNoPart]
    refine slA_from (same_t (s3.trans s4) e1) fun H5 p5 s5 e5 => ?_
    refine catA_of (same_t s5 e4) e5 (by rw [List.length_append, List.length_take, List.length_drop]; show _ + 1 + _ ≤ 1000; omega) fun H6 p6 s6 e6 => ?_
    exact q H6 p6 (s1.trans (s3.trans (s4.trans (s5.trans s6)))) e6
end
/-! ### put -/
abbrev sPut : Stmt := topS 23
abbrev nPut : List Str := ["_law_version", "_law_name", "_law_at", "_law_some", "_law_one"]
theorem scPut : FnScope nPut ["_law_version", "_law_name", "_law_at"] (defScope sPut) := ⟨rfl, rfl, rfl, by decide +kernel, rfl, by decide +kernel, by decide +kernel⟩
def spPut (K : PySem.W.Frag) : Sp := fun vs H Q _ => ∃ (a : Addr) (rows : List Str) (z : Str) (i : Nat), vs = [.ref a, .str z, .int i] ∧ SqT K H a (rows.map V.str) ∧ rows.length ≤ 30 ∧ i ≤ 100 ∧ ∀ H' p, Same H H' → SqT K H' p ((insL (rmL rows z) z i).map V.str) → Q (.ref p) H'
section
variable {P : Program} {w : World} {K : PySem.W.Frag} {mg : Str → Option Value} {base : Heap}
theorem ok_put {f : Addr} {fd : FuncData} {k : Nat} (F : Fun K "_law_put" "_law_put" sPut f fd) (mt : mg "tuple" = none) : FnOk P w K mg base CX0 (k + 1) f fd ["_law_version", "_law_name", "_law_at"] (spPut K) := by
  refine F.ok scPut (fun vs H Q E h => ?_) (fun cdv A outer s H vs Q E hr h => ?_)
  · obtain ⟨a, rows, z, i, rfl, _⟩ := h
    rfl
  · obtain ⟨a, rows, z, at', rfl, hA, l30, l100, q⟩ := h
    refine ⟨_, pss_cons (ps_setLc (i := 3) (own := [("_law_one", 4)]) (g := gName 4) (tt := tTest (tOp rNe (tVar 4) (tVar 1))) (te := tVar 4) (by rfl) scPut.nd rfl rfl (sw_true rfl rfl rfl (by decide +kernel)) (pi_tup (pv 0))
        (blkOk_by (own := [("_law_one", 4)]) (N := nPut) (sc := defScope sPut) (by decide +kernel)) (fun _ _ _ _ _ => pg_name (i := 4) scPut.nd rfl (.inl rfl)) (fun _ _ _ _ _ => pts_one (pt_cmpR op_ne (pv 4) (pv 1) (nomark _))) (fun _ _ _ _ _ => pv 4))
      (pss_cons (ps_expr (pe_bm PySem.F.plainAttrs_list PySem.F.slot_list_insert PySem.F.type_list_insert mt_insert (pv 3) (pa_cons (pv 2) (pa_cons (pv 1) pa_nil))))
      (pss_one (ps_ret (pe_callTy call_tuple_of (by rfl) mt (by decide +kernel) (pa_cons (pv 3) pa_nil))))), ?_⟩
    refine ⟨.ref a, rfl, a, rfl, ⟨_, hA⟩, fun D hD => lc_tup (xs := rows.map V.str) (fun i H' => Same H H' ∧ H' D = some (.lst ((rmL (rows.take i) z).map V.str))) ⟨same_new hD, by rw [upd_same]; rfl⟩ (fun i H' _ hP => same_t hP.1 hA) (fun i x H' hx hP => ?_) (fun H' hP => ?_)⟩
    · obtain ⟨p1, p2⟩ := hP
      rw [List.getElem?_map] at hx
      obtain ⟨y, hy, rfl⟩ := Option.map_eq_some_iff.mp hx
      have e : rmL (rows.take (i + 1)) z = rmL (rows.take i) z ++ (if (!decide (V.str y = V.str z)) = true then [y] else []) := by
        unfold rmL
        rw [List.take_add_one, hy, List.filter_append, Option.toList_some, List.filter_cons, List.filter_nil]
      refine ⟨rfl, _, rfl, _, rfl, rfl, _, rfl, ite2 (fun h => ?_) (fun h => ?_)⟩
      · refine ⟨_, rfl, _, p2, ?_, same_own p1 hD, ?_⟩
        · rw [List.length_map]
          exact small1000 (Nat.le_trans (rm_len _ _) (by rw [List.length_take]; omega))
        · rw [upd_same, e, if_pos h, List.map_append]
          rfl
      · refine ⟨p1, ?_⟩
        rw [e, if_neg h, List.append_nil]
        exact p2
    · obtain ⟨p1, p2⟩ := hP
      rw [List.length_map, List.take_length] at p2
      have lr := rm_len rows z
      refine ⟨.ref D, rfl, .inl ⟨rfl, _, SqL.of p2⟩, _, rfl, _, rfl, D, _, _, _, rfl, rfl, p2, ?_, by omega, by omega, ?_⟩
      · rw [List.length_map]
        exact small1000 (by omega)
      · refine ⟨.ref D, rfl, D, _, rfl, .inl ⟨SqL.of upd_same, fun t ht => ?_⟩⟩
        refine q _ t ((same_own p1 hD).trans (same_new ht)) (SqT.of ?_)
        rw [upd_same, Int.toNat_natCast]
        exact congrArg (fun l => some (HO.tup l)) (ins_map0 (rmL rows z) at' z)
end
end M
namespace M
open PySem PySem.Spec PyProof.Rows L2 Gd
abbrev sRight : Stmt := topS 24
abbrev nRight : List Str := ["_law_hand_here", "_law_version", "_law_name", "_law_held", "_law_at", "_law_wider", "_law_nth", "_law_one", "_law_moved"]
theorem scRight : FnScope nRight ["_law_hand_here", "_law_version", "_law_name"] (defScope sRight) := ⟨rfl, rfl, rfl, by decide +kernel, rfl, by decide +kernel, by decide +kernel⟩
def spRight (K : PySem.W.Frag) : Sp := fun vs H Q _ => ∃ (a v : Addr) (n : Nat) (rows : List Str) (z : Str), vs = [.ref a, .ref v, .str z] ∧ Hd H a n ∧ n < 900000 ∧ SqT K H v (rows.map V.str) ∧ rows.length ≤ 23 ∧ (∀ y ∈ rows, RowS y) ∧ rows.Nodup ∧ RowS z ∧ z ∉ rows ∧
  ∀ H', But a H H' → Hd H' a (n + 46) → Q (.bl true) H'
section
variable {P : Program} {w : World} {K : PySem.W.Frag} {mg : Str → Option Value} {base : Heap}
theorem ok_right {f fT fP fI fR fM fU : Addr} {fd fdT fdP fdI fdR fdM fdU : FuncData} {k : Nat} (F : Fun K "_law_right" "_law_right" sRight f fd) (FT : Fun K "_law_take" "_law_take" sTake fT fdT) (bT : Binds K fdT ["_law_hand_here", "_law_many"] []) (gT : mg "_law_take" = some (.ref fT)) (GT : FnOk P w K mg base CX0 (k + 2) fT fdT ["_law_hand_here", "_law_many"] spTake)
    (FP : Fun K "_law_pick" "_law_pick" sPick fP fdP) (bP : Binds K fdP ["_law_hand_here", "_law_items"] []) (gP : mg "_law_pick" = some (.ref fP)) (GP : FnOk P w K mg base CX0 (k + 2) fP fdP ["_law_hand_here", "_law_items"] spPick)
    (FI : Fun K "insert_row" "insert_row" sIns fI fdI) (bI : Binds K fdI ["version", "row", "index"] []) (gI : mg "insert_row" = some (.ref fI)) (GI : FnOk P w K mg base CX0 (k + 2) fI fdI ["version", "row", "index"] (spIns K))
    (FR : Fun K "remove_row" "remove_row" sRm fR fdR) (bR : Binds K fdR ["version", "row"] []) (gR : mg "remove_row" = some (.ref fR)) (GR : FnOk P w K mg base CX0 (k + 2) fR fdR ["version", "row"] (spRm K))
    (FM : Fun K "move_row" "move_row" sMv fM fdM) (bM : Binds K fdM ["version", "row", "index"] []) (gM : mg "move_row" = some (.ref fM)) (GM : FnOk P w K mg base CX0 (k + 2) fM fdM ["version", "row", "index"] (spMv K))
    (FU : Fun K "_law_put" "_law_put" sPut fU fdU) (bU : Binds K fdU ["_law_version", "_law_name", "_law_at"] []) (gU : mg "_law_put" = some (.ref fU)) (GU : FnOk P w K mg base CX0 (k + 2) fU fdU ["_law_version", "_law_name", "_law_at"] (spPut K))
    (ml : mg "len" = none) (mr : mg "repr" = none) (mrg : mg "range" = none) (me : mg "enumerate" = none) : FnG P w K mg base (k + 3) f fd ["_law_hand_here", "_law_version", "_law_name"] (spRight K) := by
  refine okG F scRight (fun vs H Q E h => ?_) (fun cdv A outer s H vs Q E hg hr h => ?_)
  · obtain ⟨a, v, n, rows, z, rfl, _⟩ := h
    rfl
  · obtain ⟨a, v, n, rows, z, rfl, hh, hn, hV, l23, rw0, nd, hz, nz, q⟩ := h
    have hg2 : (A.deeper (envOfC "_law_right" (defScope sRight) s.heap.objs.size f cdv)).guards = some [] := hg
    refine ⟨_, pss_cons (ps_set (i := 3) scRight.nd rfl (.inl rfl) (pe_callB (call_show hg2 hr.units) (by rfl) mr (by decide +kernel) (pa_cons (pv 1) pa_nil)))
      (pss_cons (ps_for PassesOwn.never rfl (pi_range1 (by rfl) mrg (pa_cons (pe_op op_add (pe_callB call_len (by rfl) ml PySem.boot_len (pa_cons (pv 1) pa_nil)) pe_int) pa_nil)) (pg_name (i := 4) scRight.nd rfl (.inl rfl))
        (pss_cons (ps_set (i := 5) scRight.nd rfl (.inl rfl) (pe_call GI hr (by rfl) gI FI.kp bI .nil pass0 (pa_cons (pv 1) (pa_cons (pv 2) (pa_cons (pv 4) pa_nil)))))
        (pss_one (ps_if (PW.pt (pw_or (pt_cmpR (op_neD hr.units) (pv 5) (pe_call GU hr (by rfl) gU FU.kp bU .nil pass0 (pa_cons (pv 1) (pa_cons (pv 2) (pa_cons (pv 4) pa_nil)))) (nomark _)) (pw_or1 (pt_cmpR (op_neD hr.units) (pe_call GR hr (by rfl) gR FR.kp bR .nil pass0 (pa_cons (pv 5) (pa_cons (pv 2) pa_nil))) (pv 1) (nomark _))))) (pss_one (ps_ret pe_bl)) pss_nil))))
      (pss_cons (ps_for PassesOwn.never rfl (pi_ent (by rfl) me (pa_cons (pv 1) pa_nil)) (pg_tup (by rfl) (pgs_cons (pg_name (i := 6) scRight.nd rfl (.inl rfl)) (pgs_cons (pg_name (i := 7) scRight.nd rfl (.inl rfl)) pgs_nil)))
        (pss_cons (ps_set (i := 4) scRight.nd rfl (.inl rfl) (pe_call GP hr (by rfl) gP FP.kp bP .nil pass0 (pa_cons (pv 0) (pa_cons (pe_lst (pa_cons pe_int (pa_cons (pe_op op_sub (pe_callB call_len (by rfl) ml PySem.boot_len (pa_cons (pv 1) pa_nil)) pe_int) (pa_cons (pe_call GT hr (by rfl) gT FT.kp bT .nil pass0 (pa_cons (pv 0) (pa_cons (pe_callB call_len (by rfl) ml PySem.boot_len (pa_cons (pv 1) pa_nil)) pa_nil))) pa_nil)))) pa_nil))))
        (pss_cons (ps_set (i := 8) scRight.nd rfl (.inl rfl) (pe_call GM hr (by rfl) gM FM.kp bM .nil pass0 (pa_cons (pv 1) (pa_cons (pv 7) (pa_cons (pv 4) pa_nil)))))
        (pss_cons (ps_if (PW.pt (pw_or (pt_cmpR (op_neD hr.units) (pv 8) (pe_call GU hr (by rfl) gU FU.kp bU .nil pass0 (pa_cons (pv 1) (pa_cons (pv 7) (pa_cons (pv 4) pa_nil)))) (nomark _)) (pw_or1 (pt_cmpR (op_neD hr.units) (pe_call GM hr (by rfl) gM FM.kp bM .nil pass0 (pa_cons (pv 8) (pa_cons (pv 7) (pa_cons (pv 6) pa_nil)))) (pv 1) (nomark _))))) (pss_one (ps_ret pe_bl)) pss_nil)
        (pss_one (ps_if (PW.pt (pw_or (pt_cmpR (op_neD hr.units) (pe_call GM hr (by rfl) gM FM.kp bM .nil pass0 (pa_cons (pv 1) (pa_cons (pv 7) (pa_cons (pv 6) pa_nil)))) (pv 1) (nomark _)) (pw_or1 (pt_cmpR (op_neD hr.units) (pe_call GR hr (by rfl) gR FR.kp bR .nil pass0 (pa_cons (pv 1) (pa_cons (pv 7) pa_nil)))
            (pe_op op_catA (pe_slice sl_tupA (pv 1) po_none (po_some (pv 6))) (pe_slice sl_tupA (pv 1) (po_some (pe_op op_add (pv 6) pe_int)) po_none)) (nomark _))))) (pss_one (ps_ret pe_bl)) pss_nil))))))
      (pss_one (ps_ret (pe_cmpR op_eq (pe_callB (call_show hg2 hr.units) (by rfl) mr (by decide +kernel) (pa_cons (pv 1) pa_nil)) (pv 3) (nomark _)))))), ?_⟩
    -- held
    refine ⟨.ref v, rfl, ?_⟩
    dsimp only [tNil]
    refine show_tup hV rw0 (by omega) ?_
    -- the first loop
    refine ⟨.ref v, rfl, _, rows.length, rfl, .inr ⟨_, hV, (List.length_map ..).symm⟩, _, 1, rfl, rfl, ((rows.length + 1 : Nat) : Int), rfl, by omega, by omega, ?_⟩
    refine for_range (lo := 0) (n := rows.length + 1) (fun i σ H' => ∃ y4 y5, σ = [some (.ref a), some (.ref v), some (.str z), some (.str (PyData.shown (.tuple (rows.map PyData.str)))), y4, y5, none, none, none] ∧ Same H H') ⟨_, _, rfl, Same.refl H⟩ (fun i σ H1 hi hP => ?_) (fun σ H1 hP => ?_)
    · obtain ⟨y4, y5, rfl, s1⟩ := hP
      have e0 : (0 : Int) + (i : Int) = (i : Int) := Int.zero_add _
      refine ⟨.ref v, rfl, _, rfl, _, rfl, v, rows, z, i, congrArg (fun x => [V.ref v, V.str z, V.int x]) e0, same_t s1 hV, hz, nz, by omega, by omega, fun H2 p2 s2 e2 => ?_⟩
      refine ⟨_, rfl, .ref v, rfl, _, rfl, _, rfl, v, rows, z, i, congrArg (fun x => [V.ref v, V.str z, V.int x]) e0, same_t (s1.trans s2) hV, by omega, by omega, fun H3 p3 s3 e3 => ?_⟩
      rw [rm_off nz] at e3
      have rI : ∀ y ∈ insL rows z i, RowS y := ins_row rw0 hz
      dsimp only
      refine neD_tup (same_t s3 e2) e3 rI ⟨_, rfl, iteF ?_⟩
      have li : (insL rows z i).length = rows.length + 1 := ins_len _ _ _
      refine ⟨_, rfl, _, rfl, p2, insL rows z i, z, rfl, same_t s3 e2, ?_, by omega, fun H4 p4 s4 e4 => ?_⟩
      · exact (ins_perm0 rows i z).symm.subset List.mem_cons_self
      rw [rm_ins nz] at e4
      refine ⟨.ref v, rfl, ?_⟩
      have s14 : Same H H4 := s1.trans (s2.trans (s3.trans s4))
      dsimp only
      exact neD_tup e4 (same_t s14 hV) rw0 ⟨_, rfl, iteF ⟨_, _, rfl, s14⟩⟩
    · obtain ⟨y4, y5, rfl, s1⟩ := hP
      -- the second loop
      refine ⟨.ref v, rfl, v, _, rfl, same_t s1 hV, for_ent (xs := rows.map V.str) (fun i σ H' => ∃ y4 y5 y6 y7 y8, σ = [some (.ref a), some (.ref v), some (.str z), some (.str (PyData.shown (.tuple (rows.map PyData.str)))), y4, y5, y6, y7, y8] ∧ But a H H' ∧ Hd H' a (n + 2 * i)) ⟨_, _, _, _, _, rfl, same_but s1, same_hd s1 hh⟩
        (fun i σ H2 _ hP => ?_) (fun i x T σ H2 hx hP nT => ?_) (fun σ H2 hP => ?_)⟩
      · obtain ⟨_, _, _, _, _, _, b2, _⟩ := hP
        exact but_t b2 hh hV
      · obtain ⟨y4, y5, y6, y7, y8, rfl, b2, hd2⟩ := hP
        rw [List.getElem?_map] at hx
        obtain ⟨y, hy, rfl⟩ := Option.map_eq_some_iff.mp hx
        have hi : i < rows.length := (List.getElem?_eq_some_iff.mp hy).1
        have ym := List.mem_of_getElem? hy
        refine ⟨T, _, rfl, SqT.of upd_same, rfl, _, _, rfl, _, _, rfl, rfl, ?_⟩
        have b3 : But a H (upd H2 T (.tup [.int (i : Nat), .str y])) := b2.new nT
        have hd3 : Hd (upd H2 T (.tup [.int (i : Nat), .str y])) a (n + 2 * i) := hd2.new nT
        generalize upd H2 T (.tup [.int (i : Nat), .str y]) = H3 at b3 hd3 ⊢
        have hV3 := but_t b3 hh hV
        -- at
        refine ⟨.ref a, rfl, .ref v, rfl, _, rows.length, rfl, .inr ⟨_, hV3, (List.length_map ..).symm⟩, _, 1, rfl, rfl, .ref a, rfl, .ref v, rfl, _, rows.length, rfl, .inr ⟨_, hV3, (List.length_map ..).symm⟩, a, n + 2 * i, _, rfl, hd3, by omega, by omega, by omega, fun H4 t4 sb4 hd4 t0 t1 => ?_⟩
        obtain ⟨tt, rfl⟩ := Int.eq_ofNat_of_zero_le t0
        refine ⟨(by show 3 ≤ sizeLine; decide), fun l5 hl5 => ?_⟩
        refine ⟨a, n + 2 * i + 1, .ref l5, rfl, hd4.new hl5, by omega, .inl ⟨l5, _, rfl, hd4.ne hl5, .inl upd_same, (by show 0 < 3; decide), (by show 3 ≤ 1000; decide), fun H6 v6 sb6 hd6 hv6 => ?_⟩⟩
        obtain ⟨at', rfl, hat⟩ : ∃ at' : Nat, v6 = .int at' ∧ at' < rows.length := by
          simp only [List.mem_cons, List.not_mem_nil, or_false] at hv6
          rcases hv6 with rfl | rfl | rfl
          · exact ⟨0, rfl, by omega⟩
          · exact ⟨rows.length - 1, congrArg V.int (by omega), by omega⟩
          · exact ⟨tt, rfl, by omega⟩
        have b6 : But a H H6 := (b3.trans sb4).trans (((But.refl a H4).new hl5).trans sb6)
        have hV6 := but_t b6 hh hV
        have lrm := rm_len1 nd ym
        -- moved
        refine ⟨.ref v, rfl, _, rfl, _, rfl, v, rows, y, at', rfl, hV6, ym, by omega, by omega, fun H7 p7 s7 e7 => ?_⟩
        have ym' : RowS y := rw0 y ym
        have rM : ∀ x ∈ insL (rmL rows y) y at', RowS x := ins_row (fun x hx => rw0 x (rm_mem hx)) ym'
        refine ⟨_, rfl, .ref v, rfl, _, rfl, _, rfl, v, rows, y, at', rfl, same_t s7 hV6, by omega, by omega, fun H8 p8 s8 e8 => ?_⟩
        dsimp only
        refine neD_tup (same_t s8 e7) e8 rM ⟨_, rfl, iteF ?_⟩
        have lm : (insL (rmL rows y) y at').length = rows.length := by rw [ins_len]; exact lrm
        have rmm : rmL (insL (rmL rows y) y at') y = rmL rows y := rm_ins (rm_no rows y) at'
        refine ⟨_, rfl, _, rfl, _, rfl, p7, insL (rmL rows y) y at', y, i, rfl, same_t s8 e7, (ins_perm0 _ at' y).symm.subset List.mem_cons_self, by omega, by rw [rmm]; omega, fun H9 p9 s9 e9 => ?_⟩
        rw [rmm, back nd hy] at e9
        have s69 : Same H6 H9 := s7.trans (s8.trans s9)
        refine ⟨.ref v, rfl, ?_⟩
        dsimp only
        refine neD_tup e9 (same_t s69 hV6) rw0 ⟨_, rfl, iteF ?_⟩
        -- there and back at once
        refine ⟨.ref v, rfl, _, rfl, _, rfl, v, rows, y, i, rfl, same_t s69 hV6, ym, by omega, by omega, fun H10 p10 s10 e10 => ?_⟩
        rw [back nd hy] at e10
        refine ⟨.ref v, rfl, ?_⟩
        dsimp only
        refine neD_tup e10 (same_t (s69.trans s10) hV6) rw0 ⟨_, rfl, iteF ?_⟩
        refine ⟨.ref v, rfl, _, rfl, v, rows, y, rfl, same_t (s69.trans s10) hV6, ym, by omega, fun H11 p11 s11 e11 => ?_⟩
        have s611 := s69.trans (s10.trans s11)
        refine ⟨.ref v, rfl, _, rfl, i, rfl, ?_⟩
        dsimp only
        refine slA_to (same_t s611 hV6) fun H12 p12 s12 e12 => ?_
        refine ⟨.ref v, rfl, _, rfl, _, 1, rfl, rfl, ((i + 1 : Nat) : Int), rfl, ?_⟩
        dsimp only [tNoPart]
        refine slA_from (same_t (s611.trans s12) hV6) fun H13 p13 s13 e13 => ?_
        refine catA_of (same_t s13 e12) e13 (by rw [List.length_take, List.length_drop]; omega) fun H14 p14 s14 e14 => ?_
        rw [rm_at nd hy] at e11
        refine neD_tup (same_t (s12.trans (s13.trans s14)) e11) e14 (fun x hx => rw0 x ((List.mem_append.mp hx).elim List.mem_of_mem_take List.mem_of_mem_drop)) ⟨_, rfl, iteF ?_⟩
        have s614 := s611.trans (s12.trans (s13.trans s14))
        exact ⟨_, _, _, _, _, rfl, b6.trans (same_but s614), (same_hd s614 hd6).up (by omega)⟩
      · obtain ⟨y4, y5, y6, y7, y8, rfl, b2, hd2⟩ := hP
        refine ⟨.ref v, rfl, ?_⟩
        dsimp only [tNil]
        refine show_tup (but_t b2 hh hV) rw0 (by omega) ?_
        refine ⟨_, rfl, rfl, ?_⟩
        rw [decide_eq_true rfl]
        rw [List.length_map] at hd2
        exact q _ b2 (hd2.up (by omega))
end
abbrev sLaw : Stmt := topS 25
abbrev nLaw : List Str := ["_law_script", "_law_k", "_law_hand_here", "_law_turn", "_law_names_here", "_law_version"]
theorem scLaw : FnScope nLaw ["_law_script"] (defScope sLaw) := ⟨rfl, rfl, rfl, by decide +kernel, rfl, by decide +kernel, by decide +kernel⟩
def spLaw (K : PySem.W.Frag) : Sp := fun vs H Q _ => ∃ (a : Addr) (ns : List Int), vs = [.ref a] ∧ SqL K H a (ns.map V.int) ∧ ns.length ≤ 63 ∧ ∀ H', Q (.bl true) H'
structure Txt0 (K : PySem.W.Frag) (mg : Str → Option Value) (fH fT fP fN fS fA fB fI fR fM fU fG : Addr) (dH dT dP dN dS dA dB dI dR dM dU dG : FuncData) : Prop where
  H : Fun K "_law_hand" "_law_hand" sHand fH dH
  bH : Binds K dH ["_law_script", "_law_k"] []
  gH : mg "_law_hand" = some (.ref fH)
  T : Fun K "_law_take" "_law_take" sTake fT dT
  bT : Binds K dT ["_law_hand_here", "_law_many"] []
  gT : mg "_law_take" = some (.ref fT)
  P : Fun K "_law_pick" "_law_pick" sPick fP dP
  bP : Binds K dP ["_law_hand_here", "_law_items"] []
  gP : mg "_law_pick" = some (.ref fP)
  N : Fun K "_law_names" "_law_names" sNames fN dN
  bN : Binds K dN ["_law_hand_here", "_law_count"] []
  gN : mg "_law_names" = some (.ref fN)
  S : Fun K "_law_shuffled" "_law_shuffled" sShuf fS dS
  bS : Binds K dS ["_law_hand_here", "_law_items"] []
  gS : mg "_law_shuffled" = some (.ref fS)
  A : Fun K "is_integer_within" "is_integer_within" sWithin fA dA
  bA : Binds K dA ["value", "low", "high"] []
  gA : mg "is_integer_within" = some (.ref fA)
  B : Fun K "is_row" "is_row" sIsRow fB dB
  bB : Binds K dB ["value"] []
  gB : mg "is_row" = some (.ref fB)
  I : Fun K "insert_row" "insert_row" sIns fI dI
  bI : Binds K dI ["version", "row", "index"] []
  gI : mg "insert_row" = some (.ref fI)
  R : Fun K "remove_row" "remove_row" sRm fR dR
  bR : Binds K dR ["version", "row"] []
  gR : mg "remove_row" = some (.ref fR)
  M : Fun K "move_row" "move_row" sMv fM dM
  bM : Binds K dM ["version", "row", "index"] []
  gM : mg "move_row" = some (.ref fM)
  U : Fun K "_law_put" "_law_put" sPut fU dU
  bU : Binds K dU ["_law_version", "_law_name", "_law_at"] []
  gU : mg "_law_put" = some (.ref fU)
  G : Fun K "_law_right" "_law_right" sRight fG dG
  bG : Binds K dG ["_law_hand_here", "_law_version", "_law_name"] []
  gG : mg "_law_right" = some (.ref fG)
  len : mg "len" = none
  abs : mg "abs" = none
  int : mg "int" = none
  rng : mg "range" = none
  lst : mg "list" = none
  tup : mg "tuple" = none
  rpr : mg "repr" = none
  max : mg "max" = none
  min : mg "min" = none
  isi : mg "isinstance" = none
  str : mg "str" = none
  bol : mg "bool" = none
  all : mg "all" = none
  enu : mg "enumerate" = none
  lit : ∃ tk, mg "MOST_LETTERS" = some (.int 8 tk)
  mst : ∃ tk, mg "MOST_ROWS" = some (.int 24 tk)
theorem but_same {H H1 H2 : Hp} {p : Addr} (s : Same H H1) (hp : H p = none) (b : But p H1 H2) : Same H H2 := fun c o e => b c o (ne_of_none e hp) (s c o e)
section
variable {P : Program} {w : World} {K : PySem.W.Frag} {mg : Str → Option Value} {base : Heap}
theorem ok_law {f fH fT fP fN fS fA fB fI fR fM fU fG : Addr} {fd dH dT dP dN dS dA dB dI dR dM dU dG : FuncData} (F : Fun K "law" "law" sLaw f fd) (T : Txt0 K mg fH fT fP fN fS fA fB fI fR fM fU fG dH dT dP dN dS dA dB dI dR dM dU dG) : FnG P w K mg base 4 f fd ["_law_script"] (spLaw K) := by
  obtain ⟨tk1, m8⟩ := T.lit
  obtain ⟨tk2, m24⟩ := T.mst
  have GH : FnOk P w K mg base CX0 3 fH dH ["_law_script", "_law_k"] (spHand K) := ok_hand T.H T.len T.abs T.int
  have GT : FnOk P w K mg base CX0 3 fT dT ["_law_hand_here", "_law_many"] spTake := ok_take T.T
  have GP : FnOk P w K mg base CX0 3 fP dP ["_law_hand_here", "_law_items"] spPick := ok_pick T.P T.T T.bT T.gT T.len
  have GN : FnOk P w K mg base CX0 3 fN dN ["_law_hand_here", "_law_count"] spNames := ok_names T.N T.T T.bT T.gT T.P T.bP T.gP T.len T.rng
  have GS : FnOk P w K mg base CX0 3 fS dS ["_law_hand_here", "_law_items"] spShuf := ok_shuf T.S T.T T.bT T.gT T.len T.lst
  have GI : FnOk P w K mg base CX0 2 fI dI ["version", "row", "index"] (spIns K) := ok_ins T.I T.B T.bB T.gB T.A T.bA T.gA T.isi T.str T.bol T.int T.len T.all m8 m24
  have GR : FnOk P w K mg base CX0 2 fR dR ["version", "row"] (spRm K) := ok_rm T.R T.tup
  have GM : FnOk P w K mg base CX0 2 fM dM ["version", "row", "index"] (spMv K) := ok_mv T.M T.R T.bR T.gR T.A T.bA T.gA T.isi T.bol T.int T.len T.tup
  have GU : FnOk P w K mg base CX0 2 fU dU ["_law_version", "_law_name", "_law_at"] (spPut K) := ok_put T.U T.tup
  have GG : FnG P w K mg base 3 fG dG ["_law_hand_here", "_law_version", "_law_name"] (spRight K) := ok_right T.G T.T T.bT T.gT (ok_take T.T) T.P T.bP T.gP (ok_pick T.P T.T T.bT T.gT T.len) T.I T.bI T.gI GI T.R T.bR T.gR GR T.M T.bM T.gM GM T.U T.bU T.gU GU T.len T.rpr T.rng T.enu
  refine okG F scLaw (fun vs H Q E h => ?_) (fun cdv A outer s H vs Q E hg hr h => ?_)
  · obtain ⟨a, ns, rfl, _⟩ := h
    rfl
  · obtain ⟨a, ns, rfl, hS, hl, q⟩ := h
    have hg2 : (A.deeper (envOfC "law" (defScope sLaw) s.heap.objs.size f cdv)).guards = some [] := hg
    refine ⟨_, pss_cons (ps_for PassesOwn.never rfl (pi_range1 (by rfl) T.rng (pa_cons (pe_callB (call_max2 rfl) (by rfl) T.max (by decide +kernel) (pa_cons pe_int (pa_cons (pe_callB (call_min2 rfl) (by rfl) T.min (by decide +kernel) (pa_cons pe_int (pa_cons (pe_callB call_len (by rfl) T.len PySem.boot_len (pa_cons (pv 0) pa_nil)) pa_nil))) pa_nil))) pa_nil)) (pg_name (i := 1) scLaw.nd rfl (.inl rfl))
        (pss_cons (ps_set (i := 2) scLaw.nd rfl (.inl rfl) (pe_call GH hr (by rfl) T.gH T.H.kp T.bH .nil pass0 (pa_cons (pv 0) (pa_cons (pv 1) pa_nil))))
        (pss_one (ps_for PassesOwn.never rfl (pi_range1 (by rfl) T.rng (pa_cons pe_int pa_nil)) (pg_name (i := 3) scLaw.nd rfl (.inl rfl))
          (pss_cons (ps_set (i := 4) scLaw.nd rfl (.inl rfl) (pe_call GN hr (by rfl) T.gN T.N.kp T.bN .nil pass0 (pa_cons (pv 2) (pa_cons (pe_op op_add pe_int (pe_call GP hr (by rfl) T.gP T.P.kp T.bP .nil pass0 (pa_cons (pv 2) (pa_cons (pe_lst (pa_cons pe_int (pa_cons pe_int (pa_cons pe_int (pa_cons pe_int (pa_cons (pe_call GT hr (by rfl) T.gT T.T.kp T.bT .nil pass0 (pa_cons (pv 2) (pa_cons pe_int pa_nil))) pa_nil)))))) pa_nil)))) pa_nil))))
          (pss_cons (ps_set (i := 5) scLaw.nd rfl (.inl rfl) (pe_callTy call_tuple_of (by rfl) T.tup (by decide +kernel) (pa_cons (pe_call GS hr (by rfl) T.gS T.S.kp T.bS .nil pass0 (pa_cons (pv 2) (pa_cons (pe_slice sl_list (pv 4) (po_some pe_int) po_none) pa_nil))) pa_nil)))
          (pss_one (ps_if (pt_not (pt_val (pe_callG GG hg2 hr (by rfl) T.gG T.G.kp T.bG (pa_cons (pv 2) (pa_cons (pv 5) (pa_cons (pe_ix ix_list (pv 4) pe_int (fun _ _ => rfl)) pa_nil)))))) (pss_one (ps_ret pe_bl)) pss_nil))))))))
      (pss_one (ps_ret pe_bl)), ?_⟩
    obtain ⟨top, htop, t0, t3⟩ : ∃ top : Nat, (if (if (ns.length : Int) < 3 then (ns.length : Int) else 3) > 1 then (if (ns.length : Int) < 3 then (ns.length : Int) else 3) else 1) = (top : Int) ∧ 1 ≤ top ∧ top ≤ 3 := by
      by_cases h1 : (ns.length : Int) < 3
      · by_cases h2 : (ns.length : Int) > 1
        · exact ⟨ns.length, by rw [if_pos h1, if_pos h2], by omega, by omega⟩
        · exact ⟨1, by rw [if_pos h1, if_neg h2]; rfl, by omega, by omega⟩
      · exact ⟨3, by rw [if_neg h1]; rfl, by omega, by omega⟩
    refine ⟨.ref a, rfl, _, ns.length, rfl, .inl ⟨_, hS, (List.length_map ..).symm⟩, _, _, rfl, _, _, rfl, top, congrArg (fun z => [V.int z]) htop, by omega, by omega, ?_⟩
    refine for_range (lo := 0) (n := top) (fun i σ H' => ∃ y1 y2 y3 y4 y5, σ = [some (.ref a), y1, y2, y3, y4, y5] ∧ Same H H') ⟨_, _, _, _, _, rfl, Same.refl H⟩ (fun i σ H1 hi hP => ?_) (fun σ H' hP => q H')
    obtain ⟨y1, y2, y3, y4, y5, rfl, s1⟩ := hP
    -- hand
    refine ⟨.ref a, rfl, _, rfl, a, i, ns, congrArg (fun z => [V.ref a, V.int z]) (Int.zero_add _), s1.seq hS, by omega, fun H2 p s2 np hd2 => ?_⟩
    have npH : H p = none := s1.free np
    have s02 := s1.trans s2
    refine ⟨4, rfl, by decide, by decide, ?_⟩
    refine for_range (lo := 0) (n := 4) (fun j σ H' => ∃ y3 y4 y5, σ = [some (.ref a), some (.int (0 + (i : Int))), some (.ref p), y3, y4, y5] ∧ Same H H' ∧ Hd H' p (100 * j)) ⟨_, _, _, rfl, s02, hd2⟩ (fun j σ H3 hj hP => ?_) (fun σ H' hP => ?_)
    · obtain ⟨y3, y4, y5, rfl, s3, hd3⟩ := hP
      have h100 : 100 * j ≤ 500 := by omega
      -- names
      refine ⟨.ref p, rfl, .ref p, rfl, .ref p, rfl, p, 100 * j, 24, rfl, hd3, by omega, by decide, by decide, fun H4 c4 sb4 hd4 c0 c1 => ?_⟩
      obtain ⟨m4, rfl⟩ := Int.eq_ofNat_of_zero_le c0
      have s4 := but_same s3 npH sb4
      refine ⟨(by show 5 ≤ sizeLine; decide), fun l5 hl5 => ?_⟩
      refine ⟨p, 100 * j + 1, .ref l5, rfl, hd4.new hl5, by omega, .inl ⟨l5, _, rfl, hd4.ne hl5, .inl upd_same, (by show 0 < 5; decide), (by show 5 ≤ 1000; decide), fun H5 v5 sb5 hd5 hv5 => ?_⟩⟩
      have s5 := but_same (s4.trans (same_new hl5)) npH sb5
      obtain ⟨c, rfl, hc⟩ : ∃ c : Nat, v5 = .int c ∧ c ≤ 23 := by
        simp only [List.mem_cons, List.not_mem_nil, or_false] at hv5
        rcases hv5 with rfl | rfl | rfl | rfl | rfl
        · exact ⟨0, rfl, by decide⟩
        · exact ⟨1, rfl, by decide⟩
        · exact ⟨2, rfl, by decide⟩
        · exact ⟨23, rfl, by decide⟩
        · exact ⟨m4, rfl, by omega⟩
      refine ⟨1, _, rfl, rfl, p, 100 * j + 2, c + 1, congrArg (fun x => [V.ref p, V.int x]) (by omega), hd5, by omega, by omega, fun H6 nm nl sb6 hd6 nnm e6 len6 nd6 row6 => ?_⟩
      have s6 := but_same s5 npH sb6
      have nmp : nm ≠ p := hd5.ne nnm
      obtain ⟨z, rest, rfl⟩ : ∃ z rest, nl = z :: rest := by
        cases nl with
        | nil => cases len6
        | cons z rest => exact ⟨z, rest, rfl⟩
      have ndc := List.nodup_cons.mp nd6
      have lr : rest.length = c := by
        rw [List.length_cons] at len6
        omega
      -- version
      refine ⟨.ref p, rfl, .ref nm, rfl, 1, rfl, nm, _, rfl, SqL.of e6, fun l7 hl7 => ?_⟩
      have e1 : cutV ((z :: rest).map V.str) (some 1) none = rest.map V.str := by
        rw [show (1 : Int) = ((1 : Nat) : Int) from rfl, cut_from]
        rfl
      refine ⟨p, l7, 100 * j + 7, rest, rfl, hd6.new hl7, hd6.ne hl7, .inl (by rw [upd_same, e1]), by omega, by omega, fun y hy => row6 y (List.mem_cons_of_mem _ hy), fun H8 p8 rows sb8 hd8 n8 e8 pm8 => ?_⟩
      have s8 := but_same (s6.trans (same_new hl7)) npH sb8
      have lrows : rows.length = c := by rw [pm8.length_eq, lr]
      refine ⟨p8, _, rfl, .inl ⟨SqL.of e8, fun v9 hv9 => ?_⟩⟩
      have hd9 : Hd (upd H8 v9 (.tup (rows.map V.str))) p (100 * j + 30) := (hd8.up (by omega)).new hv9
      have e6' : (upd H8 v9 (.tup (rows.map V.str))) nm = some (.lst ((z :: rest).map V.str)) := by
        have w : H8 nm = some (.lst ((z :: rest).map V.str)) := sb8 nm _ nmp (by rw [upd_ne (ne_of_none e6 hl7)]; exact e6)
        rw [upd_ne (ne_of_none w hv9)]
        exact w
      have s9 : Same H (upd H8 v9 (.tup (rows.map V.str))) := s8.trans (same_new hv9)
      -- right
      refine ⟨.ref p, rfl, .ref v9, rfl, .ref nm, rfl, nm, _, 0, .str z, rfl, rfl, SqL.of e6', atI_nat (j := 0) rfl, p, v9, 100 * j + 30, rows, z, rfl, hd9, by omega, SqT.of upd_same, by omega, fun y hy => row6 y (List.mem_cons_of_mem _ (pm8.subset hy)), pm8.nodup_iff.mpr ndc.2, row6 z List.mem_cons_self, fun hz => ndc.1 (pm8.subset hz), fun H15 b15 hd15 => ?_⟩
      refine ⟨true, rfl, iteF ?_⟩
      exact ⟨_, _, _, rfl, but_same s9 npH b15, hd15.up (by omega)⟩
    · obtain ⟨y3, y4, y5, rfl, s3, _⟩ := hP
      exact ⟨_, _, _, _, _, rfl, s3⟩
end
end M
namespace M
open PySem PySem.Spec PyProof.Rows L2 Gd
theorem all_mk {l : PySem.W.OpenLaw} {w : World} {K : PySem.W.Frag} {h : Heap} {mg : Str → Option Value} {fa f1 f2 f3 f4 f5 f6 f7 f8 f9 f10 f11 f12 f13 : Addr} (X : K.In h) (G : h.Ns mainGlobals mg) (hfa : mg "law" = some (.ref fa))
    {od1 an1 od2 an2 od3 an3 od4 an4 od5 an5 od6 an6 od7 an7 od8 an8 od9 an9 od10 an10 od11 an11 od12 an12 od13 an13 : Option Addr} {sl1 sl2 sl3 sl4 sl5 sl6 sl7 sl8 sl9 sl10 sl11 sl12 sl13 : Array (Option Value)} {oc1 kV1 dc1 pm1 cd1 ct1 oc2 kV2 dc2 pm2 cd2 ct2 oc3 kV3 dc3 pm3 cd3 ct3 oc4 kV4 dc4 pm4 cd4 ct4 oc5 kV5 dc5 pm5 cd5 ct5 oc6 kV6 dc6 pm6 cd6 ct6 oc7 kV7 dc7 pm7 cd7 ct7 oc8 kV8 dc8 pm8 cd8 ct8 oc9 kV9 dc9 pm9 cd9 ct9 oc10 kV10 dc10 pm10 cd10 ct10 oc11 kV11 dc11 pm11 cd11 ct11 oc12 kV12 dc12 pm12 cd12 ct12 oc13 kV13 dc13 pm13 cd13 ct13 : Value}
    (a1 : PySem.W.nsIn K mainGlobals "_law_hand" = some (some (.ref f1))) (l1 : K.lookup f1 = some ⟨oc1, od1, .func (PySem.W.fnOf "_law_hand" "_law_hand" (defArgs sHand) (defBody sHand) (defScope sHand) .none kV1 dc1 pm1 an1 cd1 ct1), sl1⟩) (c1 : PySem.W.codeIn K cd1 "_law_hand" = true) (k1 : PySem.W.keepIn K (.ref f1) = true)
    (a2 : PySem.W.nsIn K mainGlobals "_law_take" = some (some (.ref f2))) (l2 : K.lookup f2 = some ⟨oc2, od2, .func (PySem.W.fnOf "_law_take" "_law_take" (defArgs sTake) (defBody sTake) (defScope sTake) .none kV2 dc2 pm2 an2 cd2 ct2), sl2⟩) (c2 : PySem.W.codeIn K cd2 "_law_take" = true) (k2 : PySem.W.keepIn K (.ref f2) = true)
    (a3 : PySem.W.nsIn K mainGlobals "_law_pick" = some (some (.ref f3))) (l3 : K.lookup f3 = some ⟨oc3, od3, .func (PySem.W.fnOf "_law_pick" "_law_pick" (defArgs sPick) (defBody sPick) (defScope sPick) .none kV3 dc3 pm3 an3 cd3 ct3), sl3⟩) (c3 : PySem.W.codeIn K cd3 "_law_pick" = true) (k3 : PySem.W.keepIn K (.ref f3) = true)
    (a4 : PySem.W.nsIn K mainGlobals "_law_names" = some (some (.ref f4))) (l4 : K.lookup f4 = some ⟨oc4, od4, .func (PySem.W.fnOf "_law_names" "_law_names" (defArgs sNames) (defBody sNames) (defScope sNames) .none kV4 dc4 pm4 an4 cd4 ct4), sl4⟩) (c4 : PySem.W.codeIn K cd4 "_law_names" = true) (k4 : PySem.W.keepIn K (.ref f4) = true)
    (a5 : PySem.W.nsIn K mainGlobals "_law_shuffled" = some (some (.ref f5))) (l5 : K.lookup f5 = some ⟨oc5, od5, .func (PySem.W.fnOf "_law_shuffled" "_law_shuffled" (defArgs sShuf) (defBody sShuf) (defScope sShuf) .none kV5 dc5 pm5 an5 cd5 ct5), sl5⟩) (c5 : PySem.W.codeIn K cd5 "_law_shuffled" = true) (k5 : PySem.W.keepIn K (.ref f5) = true)
    (a6 : PySem.W.nsIn K mainGlobals "is_integer_within" = some (some (.ref f6))) (l6 : K.lookup f6 = some ⟨oc6, od6, .func (PySem.W.fnOf "is_integer_within" "is_integer_within" (defArgs sWithin) (defBody sWithin) (defScope sWithin) .none kV6 dc6 pm6 an6 cd6 ct6), sl6⟩) (c6 : PySem.W.codeIn K cd6 "is_integer_within" = true) (k6 : PySem.W.keepIn K (.ref f6) = true)
    (a7 : PySem.W.nsIn K mainGlobals "is_row" = some (some (.ref f7))) (l7 : K.lookup f7 = some ⟨oc7, od7, .func (PySem.W.fnOf "is_row" "is_row" (defArgs sIsRow) (defBody sIsRow) (defScope sIsRow) .none kV7 dc7 pm7 an7 cd7 ct7), sl7⟩) (c7 : PySem.W.codeIn K cd7 "is_row" = true) (k7 : PySem.W.keepIn K (.ref f7) = true)
    (a8 : PySem.W.nsIn K mainGlobals "insert_row" = some (some (.ref f8))) (l8 : K.lookup f8 = some ⟨oc8, od8, .func (PySem.W.fnOf "insert_row" "insert_row" (defArgs sIns) (defBody sIns) (defScope sIns) .none kV8 dc8 pm8 an8 cd8 ct8), sl8⟩) (c8 : PySem.W.codeIn K cd8 "insert_row" = true) (k8 : PySem.W.keepIn K (.ref f8) = true)
    (a9 : PySem.W.nsIn K mainGlobals "remove_row" = some (some (.ref f9))) (l9 : K.lookup f9 = some ⟨oc9, od9, .func (PySem.W.fnOf "remove_row" "remove_row" (defArgs sRm) (defBody sRm) (defScope sRm) .none kV9 dc9 pm9 an9 cd9 ct9), sl9⟩) (c9 : PySem.W.codeIn K cd9 "remove_row" = true) (k9 : PySem.W.keepIn K (.ref f9) = true)
    (a10 : PySem.W.nsIn K mainGlobals "move_row" = some (some (.ref f10))) (l10 : K.lookup f10 = some ⟨oc10, od10, .func (PySem.W.fnOf "move_row" "move_row" (defArgs sMv) (defBody sMv) (defScope sMv) .none kV10 dc10 pm10 an10 cd10 ct10), sl10⟩) (c10 : PySem.W.codeIn K cd10 "move_row" = true) (k10 : PySem.W.keepIn K (.ref f10) = true)
    (a11 : PySem.W.nsIn K mainGlobals "_law_put" = some (some (.ref f11))) (l11 : K.lookup f11 = some ⟨oc11, od11, .func (PySem.W.fnOf "_law_put" "_law_put" (defArgs sPut) (defBody sPut) (defScope sPut) .none kV11 dc11 pm11 an11 cd11 ct11), sl11⟩) (c11 : PySem.W.codeIn K cd11 "_law_put" = true) (k11 : PySem.W.keepIn K (.ref f11) = true)
    (a12 : PySem.W.nsIn K mainGlobals "_law_right" = some (some (.ref f12))) (l12 : K.lookup f12 = some ⟨oc12, od12, .func (PySem.W.fnOf "_law_right" "_law_right" (defArgs sRight) (defBody sRight) (defScope sRight) .none kV12 dc12 pm12 an12 cd12 ct12), sl12⟩) (c12 : PySem.W.codeIn K cd12 "_law_right" = true) (k12 : PySem.W.keepIn K (.ref f12) = true)
    (a13 : PySem.W.nsIn K mainGlobals "law" = some (some (.ref f13))) (l13 : K.lookup f13 = some ⟨oc13, od13, .func (PySem.W.fnOf "law" "law" (defArgs sLaw) (defBody sLaw) (defScope sLaw) .none kV13 dc13 pm13 an13 cd13 ct13), sl13⟩) (c13 : PySem.W.codeIn K cd13 "law" = true) (k13 : PySem.W.keepIn K (.ref f13) = true)
    {tk1 tk2 : Tok} (u1 : PySem.W.nsIn K mainGlobals "MOST_LETTERS" = some (some (.int 8 tk1))) (u2 : PySem.W.nsIn K mainGlobals "MOST_ROWS" = some (some (.int 24 tk2)))
    (z1 : PySem.W.nsIn K mainGlobals "len" = some none) (z2 : PySem.W.nsIn K mainGlobals "abs" = some none) (z3 : PySem.W.nsIn K mainGlobals "int" = some none) (z4 : PySem.W.nsIn K mainGlobals "range" = some none) (z5 : PySem.W.nsIn K mainGlobals "list" = some none) (z6 : PySem.W.nsIn K mainGlobals "tuple" = some none) (z7 : PySem.W.nsIn K mainGlobals "repr" = some none) (z8 : PySem.W.nsIn K mainGlobals "max" = some none) (z9 : PySem.W.nsIn K mainGlobals "min" = some none) (z10 : PySem.W.nsIn K mainGlobals "isinstance" = some none) (z11 : PySem.W.nsIn K mainGlobals "str" = some none) (z12 : PySem.W.nsIn K mainGlobals "bool" = some none) (z13 : PySem.W.nsIn K mainGlobals "all" = some none) (z14 : PySem.W.nsIn K mainGlobals "enumerate" = some none) :
    ∃ fd : FuncData, (∀ (s : Shared) (v : Value), BindsTo s fd ⟨[v], []⟩ [("_law_script", v)]) ∧ ∀ base : Heap, K.In base → base.Ns mainGlobals mg → FnG l.prog w K mg base 4 fa fd ["_law_script"] (spLaw K) := by
  have e := hfa.symm.trans (PySem.W.mg_of X G a13)
  cases e
  have F1 := fun_mk (st := sHand) l1 c1 k1
  have b1 := F1.binds (ps := ["_law_script", "_law_k"]) fun _ _ _ _ _ _ us hl => match us, hl with | [_, _], _ => rfl
  have F2 := fun_mk (st := sTake) l2 c2 k2
  have b2 := F2.binds (ps := ["_law_hand_here", "_law_many"]) fun _ _ _ _ _ _ us hl => match us, hl with | [_, _], _ => rfl
  have F3 := fun_mk (st := sPick) l3 c3 k3
  have b3 := F3.binds (ps := ["_law_hand_here", "_law_items"]) fun _ _ _ _ _ _ us hl => match us, hl with | [_, _], _ => rfl
  have F4 := fun_mk (st := sNames) l4 c4 k4
  have b4 := F4.binds (ps := ["_law_hand_here", "_law_count"]) fun _ _ _ _ _ _ us hl => match us, hl with | [_, _], _ => rfl
  have F5 := fun_mk (st := sShuf) l5 c5 k5
  have b5 := F5.binds (ps := ["_law_hand_here", "_law_items"]) fun _ _ _ _ _ _ us hl => match us, hl with | [_, _], _ => rfl
  have F6 := fun_mk (st := sWithin) l6 c6 k6
  have b6 := F6.binds (ps := ["value", "low", "high"]) fun _ _ _ _ _ _ us hl => match us, hl with | [_, _, _], _ => rfl
  have F7 := fun_mk (st := sIsRow) l7 c7 k7
  have b7 := F7.binds (ps := ["value"]) fun _ _ _ _ _ _ us hl => match us, hl with | [_], _ => rfl
  have F8 := fun_mk (st := sIns) l8 c8 k8
  have b8 := F8.binds (ps := ["version", "row", "index"]) fun _ _ _ _ _ _ us hl => match us, hl with | [_, _, _], _ => rfl
  have F9 := fun_mk (st := sRm) l9 c9 k9
  have b9 := F9.binds (ps := ["version", "row"]) fun _ _ _ _ _ _ us hl => match us, hl with | [_, _], _ => rfl
  have F10 := fun_mk (st := sMv) l10 c10 k10
  have b10 := F10.binds (ps := ["version", "row", "index"]) fun _ _ _ _ _ _ us hl => match us, hl with | [_, _, _], _ => rfl
  have F11 := fun_mk (st := sPut) l11 c11 k11
  have b11 := F11.binds (ps := ["_law_version", "_law_name", "_law_at"]) fun _ _ _ _ _ _ us hl => match us, hl with | [_, _, _], _ => rfl
  have F12 := fun_mk (st := sRight) l12 c12 k12
  have b12 := F12.binds (ps := ["_law_hand_here", "_law_version", "_law_name"]) fun _ _ _ _ _ _ us hl => match us, hl with | [_, _, _], _ => rfl
  have F13 := fun_mk (st := sLaw) l13 c13 k13
  exact ⟨PySem.W.fnOf "law" "law" (defArgs sLaw) (defBody sLaw) (defScope sLaw) .none kV13 dc13 pm13 an13 cd13 ct13, fun s v => .of_eq rfl, fun base _ _ => ok_law F13 ⟨F1, b1, PySem.W.mg_of X G a1, F2, b2, PySem.W.mg_of X G a2, F3, b3, PySem.W.mg_of X G a3, F4, b4, PySem.W.mg_of X G a4, F5, b5, PySem.W.mg_of X G a5, F6, b6, PySem.W.mg_of X G a6, F7, b7, PySem.W.mg_of X G a7, F8, b8, PySem.W.mg_of X G a8, F9, b9, PySem.W.mg_of X G a9, F10, b10, PySem.W.mg_of X G a10, F11, b11, PySem.W.mg_of X G a11, F12, b12, PySem.W.mg_of X G a12, PySem.W.mg_none_of X G z1, PySem.W.mg_none_of X G z2, PySem.W.mg_none_of X G z3, PySem.W.mg_none_of X G z4, PySem.W.mg_none_of X G z5, PySem.W.mg_none_of X G z6, PySem.W.mg_none_of X G z7, PySem.W.mg_none_of X G z8, PySem.W.mg_none_of X G z9, PySem.W.mg_none_of X G z10, PySem.W.mg_none_of X G z11, PySem.W.mg_none_of X G z12, PySem.W.mg_none_of X G z13, PySem.W.mg_none_of X G z14, ⟨_, PySem.W.mg_of X G u1⟩, ⟨_, PySem.W.mg_of X G u2⟩⟩⟩
end M
open PySem PySem.W PyProof.Rows
set_option maxHeartbeats 0 in
theorem PySem.Challenge.cw_movingpages_k03_edits_of_a_version_holds : PySem.Challenge.rw_movingpages_k03_edits_of_a_version.Holds := by
  w_on; o_law; k_head; (case hw => w_witness2)
  k_fill
  refine Gd.walkG (l := PySem.Challenge.rw_movingpages_k03_edits_of_a_version) (n := 63) (k := 4) (x := "_law_script") (sp := M.spLaw) rfl (by decide) rfl ⟨rfl, by decide, by decide⟩ (fun w h Y => PySem.W.kIn_of Y) ?F (fun _ _ a ns hl _ hS => ⟨a, ns, rfl, hS, hl, fun _ => rfl⟩)
  case F =>
    intro w mg fa h KX G hmg
    refine' M.all_mk KX G hmg ?a1 ?l1 ?c1 ?k1 ?a2 ?l2 ?c2 ?k2 ?a3 ?l3 ?c3 ?k3 ?a4 ?l4 ?c4 ?k4 ?a5 ?l5 ?c5 ?k5 ?a6 ?l6 ?c6 ?k6 ?a7 ?l7 ?c7 ?k7 ?a8 ?l8 ?c8 ?k8 ?a9 ?l9 ?c9 ?k9 ?a10 ?l10 ?c10 ?k10 ?a11 ?l11 ?c11 ?k11 ?a12 ?l12 ?c12 ?k12 ?a13 ?l13 ?c13 ?k13 ?u1 ?u2 ?z1 ?z2 ?z3 ?z4 ?z5 ?z6 ?z7 ?z8 ?z9 ?z10 ?z11 ?z12 ?z13 ?z14
    (case a1 => k_is)
    (case l1 => k_is)
    (case c1 => k_is)
    (case k1 => k_is)
    (case a2 => k_is)
    (case l2 => k_is)
    (case c2 => k_is)
    (case k2 => k_is)
    (case a3 => k_is)
    (case l3 => k_is)
    (case c3 => k_is)
    (case k3 => k_is)
    (case a4 => k_is)
    (case l4 => k_is)
    (case c4 => k_is)
    (case k4 => k_is)
    (case a5 => k_is)
    (case l5 => k_is)
    (case c5 => k_is)
    (case k5 => k_is)
    (case a6 => k_is)
    (case l6 => k_is)
    (case c6 => k_is)
    (case k6 => k_is)
    (case a7 => k_is)
    (case l7 => k_is)
    (case c7 => k_is)
    (case k7 => k_is)
    (case a8 => k_is)
    (case l8 => k_is)
    (case c8 => k_is)
    (case k8 => k_is)
    (case a9 => k_is)
    (case l9 => k_is)
    (case c9 => k_is)
    (case k9 => k_is)
    (case a10 => k_is)
    (case l10 => k_is)
    (case c10 => k_is)
    (case k10 => k_is)
    (case a11 => k_is)
    (case l11 => k_is)
    (case c11 => k_is)
    (case k11 => k_is)
    (case a12 => k_is)
    (case l12 => k_is)
    (case c12 => k_is)
    (case k12 => k_is)
    (case a13 => k_is)
    (case l13 => k_is)
    (case c13 => k_is)
    (case k13 => k_is)
    (case u1 => k_is)
    (case u2 => k_is)
    (case z1 => k_is)
    (case z2 => k_is)
    (case z3 => k_is)
    (case z4 => k_is)
    (case z5 => k_is)
    (case z6 => k_is)
    (case z7 => k_is)
    (case z8 => k_is)
    (case z9 => k_is)
    (case z10 => k_is)
    (case z11 => k_is)
    (case z12 => k_is)
    (case z13 => k_is)
    (case z14 => k_is)
