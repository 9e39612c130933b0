import PyProof.Rows.All
import Wide.All
import OpenK.AllK
import Wide.FinOn
import HandS.ForMost
import HandS.Walk
import HandS.Deep
import HandS.Zip
import HandS.TupAny
import HandS.IsInst
import HandS.Strs
import HandS.More
import HandS.Flow
import HandS.Style
import HandS.NoneIn
import KE.SortData
import KE.GoesEnum
import KE.GoesMore
import HandS.Defaults
import HandS.WordsExc
import HandS.DictComp
import PyProof.ReprLen
import PySem.Challenge.RW_letinrow_k18_neighbours_exchanged
set_option Elab.async false
set_option linter.all false
set_option maxRecDepth 100000
set_option maxHeartbeats 2000000
namespace Lk
open PySem PySem.Spec PyProof.Rows L2

/-! ### either of two rules -/
section
variable {X : Cx}
theorem pi_or2 {tg e : Expr} {t u : TI} (a : PI X tg e t) (b : PI X tg e u) : PI X tg e (fun σ H R => t σ H R ∨ u σ H R) :=
  ⟨fun pins s σ H R I h => h.elim (a.run pins s σ H R I) (b.run pins s σ H R I)⟩
theorem sl_or2 {r r' : V → Option Int → Option Int → Hp → VK → Prop} (a : SlR X r) (b : SlR X r') : SlR X (fun x l h H Q => r x l h H Q ∨ r' x l h H Q) :=
  fun pins s σ H x v vl vu lo hi sl Q I rx hs pl pu h => h.elim (a pins s σ H x v vl vu lo hi sl Q I rx hs pl pu) (b pins s σ H x v vl vu lo hi sl Q I rx hs pl pu)
end

/-! ### what is known in between -/
section
variable {X : Cx}
def tMid (t : TE) : TE := fun σ H Q => ∃ M : V → Hp → Prop, t σ H M ∧ ∀ v H', M v H' → Q v H'
theorem pe_mid {e : Expr} {t : TE} (h : PE X e t) : PE X e (tMid t) :=
  ⟨fun pins s σ H Q I ⟨M, h1, h2⟩ => thn (h.run pins s σ H M I h1) fun u s1 ⟨v, H1, I1, r, q⟩ => ⟨v, H1, I1, r, h2 v H1 q⟩⟩
end

/-! ### in, over a tuple of data -/
section
variable {X : Cx}
def rInT (K : PySem.W.Frag) : R2 := fun x y H Q => ∃ d ds, Dp K H x d ∧ Dp K H y (.tuple ds) ∧ SeqAt.shaped d = true ∧ SeqAt.shaped (.tuple ds) = true ∧ Q (.bl (ds.any fun z => PyData.eqv z d)) H
theorem op_inT (hu : X.A.units + 65 < cLine) : OpR X (compareOp .In) (rInT X.K) := by
  intro pins s σ H x y v u Q I rx ry h
  obtain ⟨d, ds, hd, he, sd, se, q⟩ := h
  obtain ⟨as, r1⟩ := Dp.reads I d x v hd rx
  obtain ⟨bs, r2⟩ := Dp.reads I (.tuple ds) y u he ry
  exact SeqAt.in_tuple_reads r2 r1 (SeqAt.canLay_of_shaped se) (SeqAt.canLay_of_shaped sd) (room_in_shaped sd hu) ⟨.bl _, H, I, rfl, q⟩
end

/-! ### room, where nobody writes a text of a thing around us -/
structure Room (k : Nat) (A : Around) : Prop where
  rm : L2.Room k A
  gd : A.guards = some []
theorem Room.mono {j k : Nat} {A : Around} (z : Room k A) (h : j ≤ k) : Room j A := ⟨z.rm.mono h, z.gd⟩
theorem Room.units {k : Nat} {A : Around} (z : Room k A) : A.units + 64 < cLine := z.rm.units
theorem Room.un {k : Nat} {A : Around} (z : Room k A) : A.units + 16 * k + 200 < cLine := z.rm.un
theorem Room.hd {k : Nat} {A : Around} (z : Room k A) : A.handled = none := z.rm.hd
theorem hu_of {A : Around} {k : Nat} (z : Room k A) : A.units + 1 < cLine := L2.hu_of z.rm
/-- a def's promise, asked for only there -/
structure FnOk (P : Program) (w : World) (K : PySem.W.Frag) (mg : Str → Option Value) (base : Heap) (CX : CXT) (k : Nat) (f : Addr) (fd : FuncData) (ps : List Str) (sp : Sp) : Prop where
  len : ∀ vs H Q E, sp vs H Q E → vs.length = ps.length
  run : ∀ (A : Around) (out : List Env) (s : Shared) (H : Hp) (ar : Args) (us : List Value) (vs : List V) (Q : VK) (E : XK), Room k A → Env0 P w K mg base A out s H → BindsTo s fd ar (ps.zip us) → Vals vs us → sp vs H Q E →
    codeAny (model P w) A (.call (.ref f) ar) (CR CX out P w H s Q E) s
section
variable {P : Program} {w : World} {K : PySem.W.Frag} {mg : Str → Option Value} {base : Heap} {CX : CXT} {k : Nat} {f : Addr} {fd : FuncData} {N ps : List Str} {sp : Sp}
theorem FnOk.mono {j : Nat} (F : FnOk P w K mg base CX j f fd ps sp) (h : j ≤ k) : FnOk P w K mg base CX k f fd ps sp := ⟨F.len, fun A out s H ar us vs Q E z => F.run A out s H ar us vs Q E (z.mono h)⟩
/-- its body, by rules -/
theorem fok_of {name qual : Str} {params : Arguments} {body : List Stmt} {scope : Scope} {dV kV doc pm cdv ct oc : Value} {an od : Option Addr} {osl : Array (Option Value)}
    (lk : K.lookup f = some ⟨oc, od, .func (PySem.W.fnOf name qual params body scope dV kV doc pm an cdv ct), osl⟩) (hc : PySem.W.codeIn K cdv qual = true) (S : FnScope N ps scope) (hn : ∀ vs H Q E, sp vs H Q E → vs.length = ps.length)
    (hb : ∀ (A : Around) (out : List Env) (s : Shared) (H : Hp) (vs : List V) (Q : VK) (E : XK), Room k (A.deeper (envOfC qual scope s.heap.objs.size f cdv)) → sp vs H Q E →
      ∃ t, PSs (cxOf CX P w K mg base N qual scope f cdv A out s H E) body t ∧ t { nx := fun _ G => Q .non G, rt := Q } (start N vs) H) :
    FnOk P w K mg base CX (k + 1) f (PySem.W.fnOf name qual params body scope dV kV doc pm an cdv ct) ps sp := by
  refine ⟨hn, fun A out s H ar us vs Q E z e0 bd rv hs => ?_⟩
  have kin : K.In s.heap := e0.mod.kin.keeps fun c u q => (e0.bs c u q).1
  have nol : s.heap.NoLimit := e0.mod.nolimit.keeps fun c u q => (e0.bs c u q).1
  have kinds : ∀ y ∈ ps.zip us, scope.names.lookup y.1 = some .local ∨ (scope.names.lookup y.1 = some .cell ∧ ((cellsFrom (s.heap.objs.size + 1) scope.names []).lookup y.1).isSome = true) := by
    rintro ⟨n, v⟩ hy
    rcases S.par n (List.of_mem_zip hy).1 with c | c
    · exact .inl c
    · exact .inr ⟨c, PySem.W.cellsFrom_some _ _ _ (.inl c)⟩
  refine codeAny_call_function z.rm.depth (kin _ _ lk) rfl S.co S.gen rfl (PySem.W.codeRec_of kin hc) (bd _ _ _ _ ?_)
  refine wpAny_newFunctionEnv_cells S.kind kinds ?_
  rintro env rfl s1 ic
  refine ⟨nol.keeps ic.toInCall.keep, codeAny_func ?_⟩
  obtain ⟨t, pt, qt⟩ := hb A out s H vs Q E ⟨z.rm.deeper _, z.gd⟩ hs
  have I : Inv (cxOf CX P w K mg base N qual scope f cdv A out s H E) [] (start N vs) H s1 := inv_start S z.rm.hd e0 (hn _ _ _ _ hs) rv ic
  refine wpAny_mono (pt.run [] s1 (start N vs) H _ I qt) (fun fl s2 ends => ?_) fun _ _ h => h
  cases fl with
  | brk => exact (let ⟨_, _, _, no⟩ := ends; no : False).elim
  | cont => exact (let ⟨_, _, _, no⟩ := ends; no : False).elim
  | next =>
    obtain ⟨σ1, H1, J, w1⟩ := ends
    exact ⟨.non, H1, J.os, J.bare, J.base, J.hok, rfl, w1⟩
  | ret u =>
    obtain ⟨v, σ1, H1, J, ru, w1⟩ := ends
    exact ⟨v, H1, J.os, J.bare, J.base, J.hok, ru, w1⟩
theorem fok {x qual : Str} {st : Stmt} (F : Fun K x qual st f fd) (S : FnScope N ps (defScope st)) (hn : ∀ vs H Q E, sp vs H Q E → vs.length = ps.length)
    (hb : ∀ (cdv : Value) (A : Around) (out : List Env) (s : Shared) (H : Hp) (vs : List V) (Q : VK) (E : XK), Room k (A.deeper (envOfC qual (defScope st) s.heap.objs.size f cdv)) → sp vs H Q E →
      ∃ t, PSs (cxOf CX0 P w K mg base N qual (defScope st) f cdv A out s H E).nox (defBody st) t ∧ t { nx := fun _ G => Q .non G, rt := Q } (start N vs) H) : FnOk P w K mg base CX0 (k + 1) f fd ps sp := by
  obtain ⟨oc, od, kV, doc, pm, an, cd, ct, sl, rfl, lk, hc⟩ := F.ex
  exact fok_of lk hc S hn fun A out s H vs Q E z hs => let ⟨t, a, b⟩ := hb cd A out s H vs Q E z hs; ⟨t, a.nox, b⟩
end
section
variable {X : Cx} {CX : CXT} {k : Nat} {f : Addr} {fd : FuncData} {ps ks : List Str} {sp : Sp} {E : XK} {g : List Value → List Value → List Value} {gV : List V → List V → List V}
theorem fn_ran {pins : List (Addr × Obj)} {σ : L2.St} {H : Hp} {s : Shared} {Q : VK} {ar : Args} {us : List Value} {vs : List V} (F : FnOk X.prog X.w X.K X.mg X.base CX k f fd ps sp) (z : Room k X.A) (hx : Passes CX X E)
    (I : Inv X pins σ H s) (bd : BindsTo s fd ar (ps.zip us)) (rv : Vals vs us) (h : sp vs H Q E) : wpAny (model X.prog X.w) X.A (call (.ref f) ar.pos ar.kw) (EP X pins σ Q) X.xe s := by
  refine wpAny_call (codeAny_mono (F.run X.A X.stack s H ar us vs Q E z I.env0 bd rv h) ?_)
  rintro (e | fl) s2 ends
  · exact hx pins σ H s e s2 I ends
  cases fl with
  | ret u => exact I.after ends
  | next => exact (ends : False).elim
  | brk => exact (ends : False).elim
  | cont => exact (ends : False).elim
end
/-! ### calls -/
section
variable {X : Cx} {CX : CXT} {k n : Nat} {f : Addr} {fd : FuncData} {ps ks : List Str} {sp : Sp} {E : XK} {x : Str} {p pos : Pos} {kws : List Keyword} {tk t : TA} {g : List Value → List Value → List Value} {gV : List V → List V → List V}
  {e : Expr} {es : List Expr} {dvs : List V} {ds : List Value}
theorem pe_call (F : FnOk X.prog X.w X.K X.mg X.base CX k f fd ps sp) (z : Room k X.A) (gl : Gl X x) (hm : X.mg x = some (.ref f)) (kp : PySem.W.keepIn X.K (.ref f) = true) (hb : Binds X.K fd ps ds) (hd : Vals dvs ds) (hx : Passes CX X E)
    (ha : PA X (e :: es) t) (hdb : (x == ("__debug__" : Str)) = false := by decide)
    (he : starEach (e :: es) X.env = (false, eval e X.env) :: starEach es X.env := by rfl) (hpl : (backTo pos (starEach es X.env)).any (·.1) = false := by rfl) :
    PE X (.Call (.Name x p) (e :: es) [] pos) (tCall sp dvs E t) := by
  constructor
  intro pins s σ H Q I h
  refine wpAny_Call_Name_kw (ld_glob I gl hm (PySem.W.callWith_K (h₀ := X.base) I.ok.mod.kin kp (thn (ha.run pos pins s σ H _ I h) ?_) he hpl) hdb)
  rintro us s1 ⟨vs, H1, I1, rv, q⟩
  have r2 : Vals (vs ++ dvs) (us ++ ds) := rv.append hd
  exact ⟨I1.kIn, fn_ran (ar := ⟨us, []⟩) F z hx I1 (hb s1 us I1.kIn (r2.length.symm.trans (F.len _ _ _ _ q))) r2 q⟩
end

/-! ### the head of a law -/
theorem law_ran {P : Program} {w : World} {K : PySem.W.Frag} {mg mb : Str → Option Value} {k : Nat} {fa a : Addr} {fd : FuncData} {x : Str} {sp : Sp} {s : Shared} {vs : List Value} {ns : List Int}
    (kin : K.In s.heap) (ng : s.heap.Ns mainGlobals mg) (nb : s.heap.Ns builtinsNs mb) (bb : ∀ y : Str, y ≠ "__name__" → mb y = bootBuiltins y) (nol : s.heap.NoLimit) (ge : s.gens = #[])
    (ha : s.heap.get? a = some { cls := .type "list", data := .seq vs.toArray }) (hi : IntsAre vs ns) (hl : ns.length ≤ sizeLine) (z : Room k callerA)
    (F : ∀ base : Heap, K.In base → base.Ns mainGlobals mg → FnOk P w K mg base CX0 k fa fd [x] sp) (bd : ∀ (c : Shared) (u : Value), BindsTo c fd ⟨[u], []⟩ [(x, u)])
    (hsp : ∀ H : Hp, SqL K H a (ns.map V.int) → sp [.ref a] H (fun v _ => v = .bl true) fun _ _ _ => False) :
    codeAny (model P w) callerA (.call (.ref fa) ⟨[.ref a], []⟩) (fun r c => r = .ok (.ret (.bool true)) ∧ OldK s.heap c.heap ∧ c.os = s.os ∧ AllBare c.gens) s := by
  have rv : Vals (ns.map V.int) vs := vals_ints hi
  have main : ∀ H : Hp, Only H → (∀ b, H b ≠ none → b = a ∧ K.lookup a = none) → SqL K H a (ns.map V.int) → HOk P w H s.heap →
      codeAny (model P w) callerA (.call (.ref fa) ⟨[.ref a], []⟩) (fun r c => r = .ok (.ret (.bool true)) ∧ OldK s.heap c.heap ∧ c.os = s.os ∧ AllBare c.gens) s := by
    intro H on at_ sq ok
    have off : ∀ {b : Addr}, b ≠ a → H b = none := fun {b} ne => Classical.byContradiction fun c => ne (at_ b c).1
    have hid : ∀ {b : Addr} {m : Str → Option Value}, s.heap.Ns b m → (hidT s.heap H).Ns b m := by
      rintro b m ⟨o, es, ep, g, d, r⟩
      refine ⟨o, es, ep, hidT_get g (off ?_), d, r⟩
      rintro rfl
      have q := ha.symm.trans g
      cases q
      cases d
    have kb : K.In (hidT s.heap H) := fun b o g => by
      refine hidT_get (kin b o g) (Classical.byContradiction fun c => ?_)
      obtain ⟨eb, no⟩ := at_ b c
      rw [eb, no] at g
      cases g
    have md : Mod K mg (hidT s.heap H) := by
      obtain ⟨mc, n1, n2⟩ := nol
      exact ⟨kb, hid ng, ⟨mb, hid nb, bb⟩, ⟨mc, hid n1, n2⟩⟩
    have e0 : Env0 P w K mg (hidT s.heap H) callerA [] s H :=
      { frames := rfl, mod := md, bs := fun b o g => of_hidT g, bsz := Nat.le_of_eq (hidT_size _ _), funs := trivial, frf := (fun b c => nomatch (show b ∈ ([] : List Addr) from c)), hok := ok, bare := .of_eq ge }
    refine codeAny_mono ((F _ kb (hid ng)).run callerA [] s H ⟨[.ref a], []⟩ [.ref a] [.ref a] _ _ z e0 (bd s (.ref a)) (.cons rfl .nil) (hsp H sq)) ?_
    rintro (er | fl) c ends
    · exact (ends : False).elim
    cases fl with
    | next => exact (ends : False).elim
    | brk => exact (ends : False).elim
    | cont => exact (ends : False).elim
    | ret u =>
      obtain ⟨v, H1, os, bare, un, ok1, ru, q⟩ := ends
      have q1 : v = .bl true := q
      subst q1
      obtain rfl : u = Value.bool true := ru
      refine ⟨rfl, OldK.of_keep ?_, os, bare⟩
      intro b o g
      rcases on b with h0 | ⟨ob, xs, h1⟩
      · exact un.keep b o g h0 (fun c => nomatch (show b ∈ ([] : List Addr) from c)) (fun c => nomatch c)
      · have g2 := (ok1 b _ (un.frzs b ob _ h1)).1
        have g1 := (ok b _ h1).1
        rw [g] at g1
        cases g1
        exact g2
  by_cases no : K.lookup a = none
  · refine main (fun b => if b = a then some (.frz { cls := .type "list", data := .seq vs.toArray } (.lst (ns.map V.int))) else none) ?_ ?_ (.inl (.inr ⟨{ cls := .type "list", data := .seq vs.toArray }, if_pos rfl⟩)) ?_
    · intro b
      by_cases c : b = a
      · exact .inr ⟨_, _, if_pos c⟩
      · exact .inl (if_neg c)
    · intro b q
      by_cases c : b = a
      · exact ⟨c, no⟩
      · exact absurd (if_neg c) q
    · intro b u q
      by_cases c : b = a
      · have q1 := (if_pos c).symm.trans q
        cases q1
        subst c
        exact ⟨ha, by rw [List.length_map]; exact hl, vs, _, rv, ha⟩
      · have q1 := (if_neg c).symm.trans q
        cases q1
  · obtain ⟨o, ho⟩ := Option.ne_none_iff_exists'.mp no
    have g := kin a o ho
    rw [ha] at g
    cases g
    refine main (fun _ => none) (fun _ => .inl rfl) (fun b q => absurd rfl q) (.inr ⟨_, vs.toArray, _, ho, rfl, rfl, rfl, ?_, by simpa using rv⟩) (fun b u q => ?_)
    · rw [List.size_toArray, hi.length]
      exact hl
    · have q' : (none : Option HO) = some u := q
      cases q'
theorem walk_law {l : PySem.W.OpenLaw} {n k : Nat} {q : Program} {loose : List Str} {XP : (Str → Option Value) → Heap → Prop} {YP : World → Heap → Prop} {d : DefRec} {K : Params → PySem.W.Frag} {sp : World → Sp} {x : Str}
    (hn : l.most = some n) (hn2 : n ≤ sizeLine) (hdf : d.params.defaults = []) (z : L2.Room k callerA)
    (hY : ∀ (w : World) (h : Heap), YP w h → (K w.params).In h)
    (F : ∀ (w : World) (mg : Str → Option Value) (fa : Addr) (h : Heap), (K w.params).In h → h.Ns mainGlobals mg → mg d.name = some (.ref fa) →
      ∃ fd : FuncData, (∀ (s : Shared) (u : Value), BindsTo s fd ⟨[u], []⟩ [(x, u)]) ∧ ∀ base : Heap, (K w.params).In base → base.Ns mainGlobals mg → FnOk l.prog w (K w.params) mg base CX0 k fa fd [x] (sp w))
    (hsp : ∀ (w : World) (H : Hp) (a : Addr) (ns : List Int), ns.length ≤ n → SqL (K w.params) H a (ns.map V.int) → sp w [.ref a] H (fun v _ => v = .bl true) fun _ _ _ => False) :
    PySem.W.WalkO q loose XP YP l.row.toRowW d [] (fun f vs => PySem.call f vs) := by
  refine Att.attach_call hn hdf ?_
  intro w s0 s1 mg mb fa o pm cd doc a vs ns G Y _ _ _ hmg ho hi hl hg
  have kin := hY w _ Y
  obtain ⟨fd, bd, ok⟩ := F w mg fa _ kin G.T.g hmg
  exact law_ran kin G.T.g G.T.b G.T.builtins G.T.nolimit hg ho hi (Nat.le_trans hl hn2) ⟨z, rfl⟩ ok bd fun H sq => hsp w H a ns hl sq

/-! ### repr -/
section
variable {X : Cx}
def rRepr (K : PySem.W.Frag) : List V → Hp → VK → Prop := fun xs H Q => ∃ (a : Addr) (d : PyData), xs = [.ref a] ∧ Dp K H (.ref a) d ∧ d.showable = true ∧ d.hasDict = false ∧ d.depth ≤ 60 ∧ d.shown.length ≤ sizeLine ∧ Q (.str d.shown) H
theorem call_repr {k : Nat} (z : Room k X.A) : CallR X (.builtin "repr") (rRepr X.K) := by
  intro pins s σ H xs us Q I r h
  obtain ⟨a, d, rfl, hd, sh, nd, dp, sz, q⟩ := h
  obtain ⟨u, rfl, ru⟩ := vals1 r
  cases ru
  obtain ⟨as, rd⟩ := Dp.reads I d (.ref a) (.ref a) hd rfl
  refine repr_of_reads' rd sh (PyData.noDict_hsm nd) z.gd (by have := z.units; omega) (fun _ _ e => e) (fun h' u tk kp => ?_) sz
  exact ⟨.str d.shown, H, I.kept (t' := tk) kp, ⟨u, rfl⟩, q⟩
end
end Lk
set_option maxRecDepth 100000
set_option maxHeartbeats 4000000
namespace Lk
open PySem PySem.Spec PyProof.Rows L2

/-! ### enumerate(tuple) -/
theorem meets_enum1 {v : Value} {o : Obj} {H : Heap → Prop} (B : Begins v o H) :
    Meets (Builtin.«enumerate.__new__» ⟨[.type "enumerate", v], []⟩) (fun _ R s => H s.heap ∧
      R (.ok (.ret (.ref (s.heap.push o).objs.size))) { s with heap := (s.heap.push o).push { cls := .type "enumerate", data := .fields #[.none, .bool false, .ref s.heap.objs.size, rawInt 0, .none, .none] } }) :=
  .of_wp fun prog w A R s h => by
    obtain ⟨hp, g, d, tk, os⟩ := s; obtain ⟨h1, h⟩ := h
    have hsub := sub_enumerate
    have q1 : ∀ {A' : Around} {E : Value → Shared → Prop} {Q : Value → Shared → Prop}, Q (.ref hp.objs.size) ⟨hp.push o, g, d, tk, os⟩ → wpAny (model prog w) A' (pyIter v) Q E ⟨hp, g, d, tk, os⟩ :=
      fun q => B.iter prog w _ _ ⟨hp, g, d, tk, os⟩ _ h1 q
    wp_walk using q1
    refine wpAny_stack_any fun st => wpAny_pure ?_
    split
    · rename_i c _ _ _ _ _
      cases (c == Value.type "enumerate")
      · wp_walk using q1
        exact ⟨_, rfl, h⟩
      · wp_walk using q1
        exact ⟨_, rfl, h⟩
    · wp_walk using q1
      exact ⟨_, rfl, h⟩
section
variable {prog : Program} {w : World} {A : Around} {E : Value → Shared → Prop} {s : Shared}
theorem enum1_begins {v : Value} {o : Obj} {H : Heap → Prop} {Q : Value → Shared → Prop} (B : Begins v o H) (h1 : H s.heap)
    (h : ∀ h', IsEnum h' (s.heap.objs.size + 1) s.heap.objs.size 0 .none → h'.get? s.heap.objs.size = some o → h'.objs.size = s.heap.objs.size + 2 →
      (∀ b o, s.heap.get? b = some o → h'.get? b = some o) → Q (.ref (s.heap.objs.size + 1)) { s with heap := h' }) :
    wpAny (model prog w) A (call (.type "enumerate") [v]) Q E s := by
  refine callType_new F.called_enumerate (by decide) (F.typeCall_enumerate_1 _) (F.newCall_enumerate_1 _) (fun obj => F.args_object_init_2 obj _) F.entry_enumerate_new
    (meets_enum1 B) ⟨h1, ?_⟩
  have hz : (s.heap.push o).objs.size = s.heap.objs.size + 1 := Heap.size_push ..
  show _ ∧ _
  rw [hz]
  have he : IsEnum ((s.heap.push o).push { cls := .type "enumerate", data := .fields #[.none, .bool false, .ref s.heap.objs.size, rawInt 0, .none, .none] }) (s.heap.objs.size + 1) s.heap.objs.size 0 .none := by
    have := Heap.get?_push_size (s.heap.push o) (o := { cls := .type "enumerate", data := .fields #[.none, .bool false, .ref s.heap.objs.size, rawInt 0, .none, .none] }) rfl
    rw [hz] at this; exact this
  refine ⟨⟨_, he, rfl⟩, h _ he (Heap.get?_push_of_some _ (Heap.get?_push_size _ B.free)) (by rw [Heap.size_push, hz]) fun b o x => Heap.get?_push_of_some _ (Heap.get?_push_of_some _ x)⟩
end
def IteT (K : PySem.W.Frag) (a : Addr) : It :=
  ⟨fun i H => ∃ (xs : List V) (x : V), SqT K H a xs ∧ xs[i]? = some x, fun i H v H' => ∃ T x, v = .ref T ∧ H T = none ∧ H' = upd H T (.tup [.int (i : Nat), x]) ∧ ∀ xs, SqT K H a xs → xs[i]? = some x, fun i H => ∃ xs : List V, SqT K H a xs ∧ xs.length = i⟩
theorem turn_enumT {P : Program} {w : World} {K : PySem.W.Frag} {elts : List Expr} {kk : Nat} {tpos : Pos} (a e it : Addr) :
    Turn P w K (.Tuple elts kk tpos) (IteT K a) [e, it] e (fun i h => (∃ old, IsEnum h e it ((i : Nat) : Int) old) ∧ h.IsTupleIter it a i ∧ e ≠ it) where
  mem := by simp
  obj := fun i h st b hb => by
    obtain ⟨⟨old, he⟩, ⟨o, ho, hc, hd⟩, _⟩ := st
    have e' : b = e ∨ b = it := by simpa using hb
    rcases e' with z | z
    · rw [z]; exact ⟨_, he, fun v q => nomatch q⟩
    · rw [z]; exact ⟨o, ho, fun v q => by rw [hd] at q; cases q⟩
  keep := fun i h h' st k => let ⟨⟨old, he⟩, hi, hne⟩ := st; ⟨⟨old, k e (by simp) _ he⟩, hi.at fun o q => k it (by simp) o q, hne⟩
  item := by
    intro X hP hw hK hc i pins s σ H E I hf st hg
    subst hP hw hK
    obtain ⟨⟨old, he⟩, hit, hne⟩ := st
    obtain ⟨xs, x, hq, hx⟩ := hg
    obtain ⟨its, rv, p, hz⟩ := I.tuple hq
    obtain ⟨u, hu, ru⟩ := rv.get hx
    have hel : e < s.heap.objs.size := Heap.lt_size he
    have hil : it < s.heap.objs.size := by obtain ⟨_, q, _⟩ := hit; exact Heap.lt_size q
    have hai : a ≠ it := by
      rintro rfl
      obtain ⟨o, ho, hcc, _⟩ := p
      obtain ⟨o', ho', hc', _⟩ := hit
      rw [ho] at ho'; cases ho'
      rw [hcc] at hc'
      exact absurd (Value.type.inj hc') (by decide)
    have hae : e ≠ a := by
      rintro rfl
      obtain ⟨o, ho, hcc, _⟩ := p
      have ho' := ho.symm.trans he
      cases ho'
      exact absurd (Value.type.inj hcc) (by decide)
    have hlt : i < its.toArray.size := by
      rw [List.size_toArray]
      exact (List.getElem?_eq_some_iff.mp hu).1
    refine wpAny_pyNext_enum_itemD (Draws.tuple (A := X.A.in1) (I.ok.hd hc) it a hai its.toArray) he ⟨hit, p⟩ hlt hne (by simp [hne, hae]) fun v h' tk hxv ho st' hT hsz hk => ?_
    have ev : v = u := by
      have q : its.toArray[i]? = some v := hxv
      rw [List.getElem?_toArray, hu] at q
      exact (Option.some.inj q).symm
    subst ev
    refine ⟨_, rfl, wpAny_letOwnedTupleGo_enum (s := { s with heap := h', toks := tk + 1 }) ho fun h'' he' sb => ?_⟩
    have hT2 : h''.get? s.heap.objs.size = some { cls := .type "tuple", data := .seq #[.int i tk, v] } := (sb.2 _ (Nat.ne_of_gt hel)).trans hT
    have new : ObjOk X.prog X.w (upd H s.heap.objs.size (.tup [.int (i : Nat), x])) h'' s.heap.objs.size (.tup [.int (i : Nat), x]) :=
      ⟨by show 2 ≤ sizeLine; decide, [.int i tk, v], .cons ⟨_, rfl⟩ (.cons ru .nil), ⟨_, hT2, rfl, _, rfl⟩⟩
    have I1 : Inv X pins σ (upd H s.heap.objs.size (.tup [.int (i : Nat), x])) { s with heap := h'', toks := tk + 1 } :=
      I.turnedNew (ch := [e, it]) (fun b ob hb q => (sb.2 b (fun z => hb (by simp [z]))).trans (hk b ob (fun z => hb (by simp [z])) (fun z => hb (by simp [z])) q)) hf (Nat.le_refl _) new
    refine ⟨.ref s.heap.objs.size, _, I1, rfl, ⟨_, x, rfl, I.hok.fresh (Nat.le_refl _), rfl, fun ys hy => by rw [I.tuple_inj hy hq]; exact hx⟩, ⟨⟨v, ?_⟩, st'.1.at fun o q => (sb.2 it (Ne.symm hne)).trans q, hne⟩, fun b hb => ?_⟩
    · have e1 : ((i + 1 : Nat) : Int) = (i : Int) + 1 := by omega
      rw [e1]; exact he'
    · have hb' : b < s.heap.objs.size := by
        have e' : b = e ∨ b = it := by simpa using hb
        rcases e' with z | z
        · rw [z]; exact hel
        · rw [z]; exact hil
      rw [upd_ne (Nat.ne_of_lt hb')]
      exact (hf b hb).1
  done := by
    intro X hP hw hK hc i pins s σ H E I hf st hg
    subst hP hw hK
    obtain ⟨⟨old, he⟩, hit, hne⟩ := st
    obtain ⟨xs, hq, hx⟩ := hg
    obtain ⟨its, rv, p, hz⟩ := I.tuple hq
    obtain ⟨f0, f1, f2, f3, f4, f5⟩ := hf it (by simp)
    have hl := rv.length
    have hai : a ≠ it := by
      rintro rfl
      obtain ⟨o, ho, hcc, _⟩ := p
      obtain ⟨o', ho', hc', _⟩ := hit
      rw [ho] at ho'; cases ho'
      rw [hcc] at hc'
      exact absurd (Value.type.inj hc') (by decide)
    have en : i = its.toArray.size := by
      rw [List.size_toArray]
      omega
    subst en
    exact wpAny_pyNext_enum_endD (Draws.tuple (A := X.A.in1) (I.ok.hd hc) it a hai its.toArray) he ⟨hit, p⟩ fun h' eb => ⟨rfl, I.turned (t' := s.toks) (fun b o hb q => eb b o hb q) f0 f1 f3 f4 f5⟩
  self := fun A i s Q E st h => let ⟨⟨_, he⟩, _⟩ := st; wpAny_pyIter_enum he h
def iEnumT (K : PySem.W.Frag) (ta : TA) : TI := fun σ H R => ta σ H fun vs H1 => ∃ a xs, vs = [.ref a] ∧ SqT K H1 a xs ∧ R (IteT K a) H1
theorem pi_enumT {X : Cx} {e : Expr} {ta : TA} {p pos tpos : Pos} {elts : List Expr} {kk : Nat} (hg : Gl X "enumerate") (hm : X.mg "enumerate" = none) (ha : PA X [e] ta) (hs : starEach [e] X.env = [(false, eval e X.env)] := by rfl) :
    PI X (.Tuple elts kk tpos) (.Call (.Name "enumerate" p) [e] [] pos) (iEnumT X.K ta) := by
  refine ⟨fun pins s σ H R I h => ?_⟩
  refine Call_ (ld_blt I hg hm boot_enumerate (PyProof.Rows.callWith_type1 (thn (ha.run pos pins s σ H _ I h) fun us s1 ⟨vs, H1, I1, r1, q1⟩ => ?_) hs rfl))
  obtain ⟨a, xs, ex, hq, q⟩ := q1
  subst ex
  cases r1 with
  | cons r rr =>
    cases rr
    cases r
    obtain ⟨its, rv, p', hz⟩ := I1.tuple hq
    refine enum1_begins (begins_tuple a its.toArray) p' fun h' he hit hsz hk => wpAny_pyIter_enum he ?_
    have I2 : Inv X pins σ H1 { s1 with heap := h' } := I1.kept (t' := s1.toks) hk
    refine ⟨s1.heap.objs.size + 1, [s1.heap.objs.size + 1, s1.heap.objs.size], _, _, H1, rfl, I2, turn_enumT a (s1.heap.objs.size + 1) s1.heap.objs.size, ⟨⟨.none, he⟩, ⟨_, hit, rfl, rfl⟩, Nat.succ_ne_self _⟩, fun b hb => ?_, q⟩
    have e' : b = s1.heap.objs.size + 1 ∨ b = s1.heap.objs.size := by simpa using hb
    have hle : s1.heap.objs.size ≤ b := by
      rcases e' with z | z
      · rw [z]; exact Nat.le_add_right _ _
      · rw [z]; exact Nat.le_refl _
    exact I1.fpOk hle (I1.hok.fresh hle)
theorem walk_enumT {K : PySem.W.Frag} {a : Addr} {xs : List V} : Walk (IteT K a) xs.length (fun H => SqT K H a xs) (YPair (fun i => some (.int (i : Nat))) (fun i => xs[i]?)) := by
  refine ⟨fun i _ hi q => ⟨xs, xs[i], q, by simp [hi]⟩, fun _ q => ⟨xs, q, rfl⟩, fun i H v H' _ q y => ?_⟩
  obtain ⟨T, x, h1, h2, h3, h4⟩ := y
  exact ⟨T, .int (i : Nat), x, h1, h2, h3, rfl, h4 xs q⟩

/-! ### min, max of two texts -/
def lmin (x y : Str) : Str := if y.cps.toList < x.cps.toList then y else x
def lmax (x y : Str) : Str := if x.cps.toList < y.cps.toList then y else x
theorem cmp_lt_strs {prog : Program} {w : World} {A : Around} {P : Nat → Value → Prop} (val : Nat → Str) (hval : ∀ i v, P i v → ∃ t, v = .str (val i) t) :
    CmpOf prog w A .Lt P (fun i j => decide ((val i).cps.toList < (val j).cps.toList)) := fun i j vi vj s Q E hi hj h => by
  obtain ⟨t, rfl⟩ := hval i vi hi
  obtain ⟨u, rfl⟩ := hval j vj hj
  exact richCompare_gives (op := .Lt) (typeIs_str s _ t) (typeIs_str s _ u) F.slot_str_lt F.entry_str_lt (F.args_str_lt_2 _ _) (gives_str_lt _ _ t u) (fun x => nomatch x) h
theorem cmp_gt_strs {prog : Program} {w : World} {A : Around} {P : Nat → Value → Prop} (val : Nat → Str) (hval : ∀ i v, P i v → ∃ t, v = .str (val i) t) :
    CmpOf prog w A .Gt P (fun i j => decide ((val j).cps.toList < (val i).cps.toList)) := fun i j vi vj s Q E hi hj h => by
  obtain ⟨t, rfl⟩ := hval i vi hi
  obtain ⟨u, rfl⟩ := hval j vj hj
  exact richCompare_gives (op := .Gt) (typeIs_str s _ t) (typeIs_str s _ u) F.slot_str_gt F.entry_str_gt (F.args_str_gt_2 _ _) (gives_str_gt _ _ t u) (fun x => nomatch x) h
def txtAt (x y : Str) (i : Nat) : Str := if i = 0 then x else y
theorem two_at {x y : Str} {t u : Tok} {i : Nat} {v : Value} (h : (#[.str x t, .str y u] : Array Value)[i]? = some v) : ∃ k, v = .str (txtAt x y i) k := by
  match i, h with
  | 0, h => exact ⟨t, (Option.some.inj h).symm⟩
  | 1, h => exact ⟨u, (Option.some.inj h).symm⟩
  | i + 2, h =>
    have q : (#[.str x t, .str y u] : Array Value)[i + 2]? = none := by simp
    rw [q] at h
    cases h
section
variable {prog : Program} {w : World} {A : Around} {E : Value → Shared → Prop} {s : Shared}
theorem min_two_strs {a b : Str} {t u : Tok} {Q : Value → Shared → Prop} (hh : A.handled = none)
    (h : ∀ h' tk k, (∀ c o, s.heap.get? c = some o → h'.get? c = some o) → Q (.str (lmin a b) k) { s with heap := h', toks := tk }) :
    wpAny (model prog w) A (call (.builtin "min") [.str a t, .str b u]) Q E s := by
  have hT : (s.heap.push { cls := .type "tuple", data := .seq #[.str a t, .str b u] }).IsTuple s.heap.objs.size #[.str a t, .str b u] := ⟨_, Heap.get?_push_size _ rfl, rfl, 0, rfl⟩
  refine call_min_two (wpAny_pyIter_tuple hT ?_)
  have hsz : (s.heap.push { cls := .type "tuple", data := .seq #[.str a t, .str b u] }).objs.size = s.heap.objs.size + 1 := Heap.size_push ..
  refine ⟨_, [_, s.heap.objs.size], [_], _, _, _, _, rfl, Walks.tuple (A := A.in1) hh _ s.heap.objs.size (by rw [hsz]; exact Nat.ne_of_lt (Nat.lt_succ_self _)) #[.str a t, .str b u],
    ⟨⟨_, Heap.get?_push_size _ rfl, rfl, rfl⟩, hT.push _⟩, fun c hc => ?_, by simp, cmp_lt_strs (txtAt a b) (fun _ _ => two_at), fun v h' tk hP hk => ?_⟩
  · show c < ((s.heap.push _).push _).objs.size
    rw [Heap.size_push, hsz]
    rcases List.mem_cons.mp hc with rfl | hc
    · rw [hsz]; exact Nat.lt_succ_self _
    · rcases List.mem_cons.mp hc with rfl | hc
      · exact Nat.lt_succ_of_lt (Nat.lt_succ_self _)
      · cases hc
  · have hold : ∀ c o, s.heap.get? c = some o → h'.get? c = some o := fun c o e => by
      refine hk c o (fun hm => ?_) (Heap.get?_push_of_some _ (Heap.get?_push_of_some _ e))
      rcases List.mem_cons.mp hm with e1 | hm
      · have := Heap.lt_size e; rw [e1, hsz] at this; exact Nat.lt_irrefl _ (Nat.lt_of_succ_lt this)
      · cases hm
    have hP' : (#[.str a t, .str b u] : Array Value)[argBest (fun i j => decide ((txtAt a b i).cps.toList < (txtAt a b j).cps.toList)) 1]? = some v := hP
    have hv : ∃ k, v = .str (lmin a b) k := by
      by_cases hba : b.cps.toList < a.cps.toList
      · have e : argBest (fun i j => decide ((txtAt a b i).cps.toList < (txtAt a b j).cps.toList)) 1 = 1 := by simp [argBest, txtAt, hba]
        rw [e] at hP'
        refine ⟨u, ?_⟩
        rw [lmin, if_pos hba]
        exact (Option.some.inj hP').symm
      · have e : argBest (fun i j => decide ((txtAt a b i).cps.toList < (txtAt a b j).cps.toList)) 1 = 0 := by simp [argBest, txtAt, hba]
        rw [e] at hP'
        refine ⟨t, ?_⟩
        rw [lmin, if_neg hba]
        exact (Option.some.inj hP').symm
    obtain ⟨k, rfl⟩ := hv
    exact h h' tk k hold
theorem max_two_strs {a b : Str} {t u : Tok} {Q : Value → Shared → Prop} (hh : A.handled = none)
    (h : ∀ h' tk k, (∀ c o, s.heap.get? c = some o → h'.get? c = some o) → Q (.str (lmax a b) k) { s with heap := h', toks := tk }) :
    wpAny (model prog w) A (call (.builtin "max") [.str a t, .str b u]) Q E s := by
  have hT : (s.heap.push { cls := .type "tuple", data := .seq #[.str a t, .str b u] }).IsTuple s.heap.objs.size #[.str a t, .str b u] := ⟨_, Heap.get?_push_size _ rfl, rfl, 0, rfl⟩
  refine call_max_two (wpAny_pyIter_tuple hT ?_)
  have hsz : (s.heap.push { cls := .type "tuple", data := .seq #[.str a t, .str b u] }).objs.size = s.heap.objs.size + 1 := Heap.size_push ..
  refine ⟨_, [_, s.heap.objs.size], [_], _, _, _, _, rfl, Walks.tuple (A := A.in1) hh _ s.heap.objs.size (by rw [hsz]; exact Nat.ne_of_lt (Nat.lt_succ_self _)) #[.str a t, .str b u],
    ⟨⟨_, Heap.get?_push_size _ rfl, rfl, rfl⟩, hT.push _⟩, fun c hc => ?_, by simp, cmp_gt_strs (txtAt a b) (fun _ _ => two_at), fun v h' tk hP hk => ?_⟩
  · show c < ((s.heap.push _).push _).objs.size
    rw [Heap.size_push, hsz]
    rcases List.mem_cons.mp hc with rfl | hc
    · rw [hsz]; exact Nat.lt_succ_self _
    · rcases List.mem_cons.mp hc with rfl | hc
      · exact Nat.lt_succ_of_lt (Nat.lt_succ_self _)
      · cases hc
  · have hold : ∀ c o, s.heap.get? c = some o → h'.get? c = some o := fun c o e => by
      refine hk c o (fun hm => ?_) (Heap.get?_push_of_some _ (Heap.get?_push_of_some _ e))
      rcases List.mem_cons.mp hm with e1 | hm
      · have := Heap.lt_size e; rw [e1, hsz] at this; exact Nat.lt_irrefl _ (Nat.lt_of_succ_lt this)
      · cases hm
    have hP' : (#[.str a t, .str b u] : Array Value)[argBest (fun i j => decide ((txtAt a b j).cps.toList < (txtAt a b i).cps.toList)) 1]? = some v := hP
    have hv : ∃ k, v = .str (lmax a b) k := by
      by_cases hba : a.cps.toList < b.cps.toList
      · have e : argBest (fun i j => decide ((txtAt a b j).cps.toList < (txtAt a b i).cps.toList)) 1 = 1 := by simp [argBest, txtAt, hba]
        rw [e] at hP'
        refine ⟨u, ?_⟩
        rw [lmax, if_pos hba]
        exact (Option.some.inj hP').symm
      · have e : argBest (fun i j => decide ((txtAt a b j).cps.toList < (txtAt a b i).cps.toList)) 1 = 0 := by simp [argBest, txtAt, hba]
        rw [e] at hP'
        refine ⟨t, ?_⟩
        rw [lmax, if_neg hba]
        exact (Option.some.inj hP').symm
    obtain ⟨k, rfl⟩ := hv
    exact h h' tk k hold
end
section
variable {X : Cx}
theorem call_minS (hc : X.calm = true) : CallR X (.builtin "min") (fun xs H Q => ∃ i j, xs = [.str i, .str j] ∧ Q (.str (lmin i j)) H) := by
  intro pins s σ H xs us Q I r h
  obtain ⟨i, j, rfl, q⟩ := h
  obtain ⟨u, w', rfl, ⟨t, rfl⟩, ⟨t', rfl⟩⟩ := vals2 r
  exact min_two_strs (I.ok.hd hc) fun h' tk k kp => ⟨.str _, H, I.kept kp, ⟨_, rfl⟩, q⟩
theorem call_maxS (hc : X.calm = true) : CallR X (.builtin "max") (fun xs H Q => ∃ i j, xs = [.str i, .str j] ∧ Q (.str (lmax i j)) H) := by
  intro pins s σ H xs us Q I r h
  obtain ⟨i, j, rfl, q⟩ := h
  obtain ⟨u, w', rfl, ⟨t, rfl⟩, ⟨t', rfl⟩⟩ := vals2 r
  exact max_two_strs (I.ok.hd hc) fun h' tk k kp => ⟨.str _, H, I.kept kp, ⟨_, rfl⟩, q⟩
end

/-! ### sorted of pairs of texts -/
def encP (b : Addr × Str × Str) : PyData := .tuple [.str b.2.1, .str b.2.2]
def rSortedTT (K : PySem.W.Frag) : List V → Hp → VK → Prop := fun vs H Q => ∃ (a : Addr) (bs : List (Addr × Str × Str)), vs = [V.ref a] ∧ SqL K H a (bs.map fun b => V.ref b.1) ∧ (∀ b ∈ bs, H b.1 = some (.tup [.str b.2.1, .str b.2.2])) ∧
  ∀ p, H p = none → Q (.ref p) (upd H p (.lst ((bs.mergeSort (PySem.W.dataLe false encP)).map fun b => V.ref b.1)))
theorem refs_vals : ∀ {bs : List (Addr × Str × Str)} {its : List Value}, Vals (bs.map fun b => V.ref b.1) its → its = bs.map fun b => Value.ref b.1
  | [], its, h => by cases h; rfl
  | b :: bs, its, h => by
    cases h with
    | cons r t =>
      have e : _ = Value.ref b.1 := r
      rw [e, refs_vals t]
      rfl
theorem vals_refs : ∀ (bs : List (Addr × Str × Str)), Vals (bs.map fun b => V.ref b.1) (bs.map fun b => Value.ref b.1)
  | [] => .nil
  | b :: bs => .cons rfl (vals_refs bs)
theorem each_refs : ∀ (bs : List (Addr × Str × Str)), PySem.W.EachIs (fun v b => v = Value.ref b.1) (bs.map fun b => Value.ref b.1) bs
  | [] => .nil
  | b :: bs => .cons rfl (each_refs bs)
theorem of_each : ∀ {bs : List (Addr × Str × Str)} {out : List Value}, PySem.W.EachIs (fun v b => v = Value.ref b.1) out bs → out = bs.map fun b => Value.ref b.1
  | _, _, .nil => rfl
  | _, _, .cons e t => by rw [e, of_each t]; rfl
theorem each_of {R : Value → Addr × Str × Str → Prop} : ∀ {bs : List (Addr × Str × Str)}, (∀ b ∈ bs, R (Value.ref b.1) b) → PySem.W.EachIs R (bs.map fun b => Value.ref b.1) bs
  | [], _ => .nil
  | b :: bs, h => .cons (h b List.mem_cons_self) (each_of fun c hc => h c (List.mem_cons_of_mem _ hc))
section
variable {X : Cx}
theorem cr_sortedTT (hu : X.A.units + 64 < cLine) : CallR X (.builtin "sorted") (rSortedTT X.K) := by
  intro pins s σ H vs us Q I r h
  obtain ⟨a, bs, rfl, hs, hb, q⟩ := h
  obtain ⟨its, rv, hl, hz⟩ := I.list hs
  rw [Vals.ref1 r]
  have hi := refs_vals rv
  subst hi
  have hlen : bs.length ≤ sizeLine := by rw [List.length_map] at hz; exact hz
  refine PySem.W.sorted_data (R := fun v b => v = Value.ref b.1) (bs := bs) (enc := encP) hl.isList (each_refs bs) (each_of fun b hm => ?_) (PySem.W.AllAlike.of fun b b' => ?_) (PySem.W.Sortable.tuples fun b => ⟨_, _, rfl⟩) hlen (fun b _ => ?_) fun out ho he => ?_
  · obtain ⟨_, its2, r2, o, hob, hc, n, hd⟩ := I.hok _ _ (hb b hm)
    obtain ⟨u1, u2, rfl, ⟨t1, rfl⟩, ⟨t2, rfl⟩⟩ := vals2 r2
    exact ⟨_, Reads.tuple hob hc hd (.cons (Reads.str _ _) (.cons (Reads.str _ _) .nil))⟩
  · simp [encP, PySem.W.alike, PySem.W.alikeAll]
  · have : (encP b).depth = 1 := by simp [encP, PyData.depth, PyData.depthAll]
    omega
  · have eo := of_each he
    subst eo
    obtain ⟨ep, he'⟩ := PyProof.Rows.sortedAll_at s.heap (bs.map fun b => Value.ref b.1) ((bs.mergeSort (PySem.W.dataLe false encP)).map fun b => Value.ref b.1).toArray
    have hlen2 : ((bs.mergeSort (PySem.W.dataLe false encP)).map fun b => V.ref b.1).length ≤ sizeLine := by rw [List.length_map, List.length_mergeSort]; exact hlen
    exact ⟨.ref _, upd H (s.heap.objs.size + 1) (.lst ((bs.mergeSort (PySem.W.dataLe false encP)).map fun b => V.ref b.1)), I.laid (t' := s.toks) (fun _ _ => PyProof.Rows.sortedAll_old) (Nat.le_succ _) ⟨hlen2, _, ep, vals_refs _, he'⟩, rfl, q _ (I.hok.fresh (Nat.le_succ _))⟩
end
end Lk
set_option maxRecDepth 100000
set_option maxHeartbeats 4000000
namespace Lk
open PySem PySem.Spec PyProof.Rows L2

/-! ### heaps -/
theorem same_upd {H : Hp} {p : Addr} {o : HO} (h : H p = none) : Same H (upd H p o) := fun b x e => by
  rw [upd_ne (ne_of_none e h)]
  exact e
/-- all but what stands at b is as it was -/
def Oth (b : Addr) (H H' : Hp) : Prop := ∀ a o, a ≠ b → H a = some o → H' a = some o
theorem Oth.refl (b : Addr) (H : Hp) : Oth b H H := fun _ _ _ h => h
theorem Oth.trans {b : Addr} {H H1 H2 : Hp} (x : Oth b H H1) (y : Oth b H1 H2) : Oth b H H2 := fun a o n h => y a o n (x a o n h)
theorem Oth.of {b : Addr} {H H' : Hp} (x : Same H H') : Oth b H H' := fun a o _ h => x a o h
theorem Oth.upd {b : Addr} {H : Hp} {o : HO} : Oth b H (upd H b o) := fun a u n h => by rw [upd_ne n]; exact h
theorem Oth.free {b p : Addr} {H H' : Hp} (x : Oth b H H') (hb : p ≠ b) (h : H' p = none) : H p = none := by
  cases q : H p with
  | none => rfl
  | some o =>
    rw [x p o hb q] at h
    cases h
def IsBox (H : Hp) (b : Addr) : Prop := ∃ x y z : Int, H b = some (.lst [.int x, .int y, .int z])
theorem IsBox.same {H H' : Hp} {b : Addr} (x : Same H H') (h : IsBox H b) : IsBox H' b := by
  obtain ⟨i, j, k, e⟩ := h
  exact ⟨i, j, k, x _ _ e⟩
theorem IsBox.ne_tup {H : Hp} {b t : Addr} {xs : List V} (h : IsBox H b) (ht : H t = some (.tup xs)) : t ≠ b := by
  obtain ⟨i, j, k, e⟩ := h
  exact ne_of ht e (fun z => nomatch z)
theorem IsBox.ne_strs {H : Hp} {b t : Addr} {xs : List Str} (h : IsBox H b) (ht : H t = some (.lst (xs.map V.str))) : t ≠ b := by
  obtain ⟨i, j, k, e⟩ := h
  refine ne_of ht e (fun z => ?_)
  match xs, z with
  | [], z => cases z
  | x :: r, z => cases z
theorem IsBox.ne_none {H : Hp} {b p : Addr} (h : IsBox H b) (hp : H p = none) : p ≠ b := by
  obtain ⟨i, j, k, e⟩ := h
  exact (ne_of_none e hp).symm
theorem small9 {n : Nat} (h : n ≤ 9000) : n < sizeLine := Nat.lt_of_le_of_lt h (by decide)
theorem small_le {n : Nat} (h : n ≤ 1000) : n ≤ sizeLine := Nat.le_of_lt (small1000 h)

/-! ### slices -/
def cutL {α : Type} (xs : List α) (lo hi : Option Int) : List α := (xs.drop (HT.sIx xs.length 0 lo)).take (HT.sIx xs.length xs.length hi - HT.sIx xs.length 0 lo)
theorem cutV_map {α : Type} (f : α → V) (xs : List α) (lo hi : Option Int) : cutV (xs.map f) lo hi = (cutL xs lo hi).map f := by
  unfold cutV cutL
  rw [List.length_map, List.map_take, List.map_drop]
theorem cutL_to {α : Type} (xs : List α) (k : Nat) : cutL xs none (some (k : Int)) = xs.take k := by
  unfold cutL
  rw [HT.sIx_none, HT.sIx_nat, List.drop_zero, Nat.sub_zero]
  by_cases h : k ≤ xs.length
  · rw [Nat.min_eq_left h]
  · rw [Nat.min_eq_right (by omega), List.take_of_length_le (Nat.le_refl _), List.take_of_length_le (by omega)]
theorem cutL_from {α : Type} (xs : List α) (k : Nat) : cutL xs (some (k : Int)) none = xs.drop k := by
  unfold cutL
  rw [HT.sIx_none, HT.sIx_nat]
  by_cases h : k ≤ xs.length
  · rw [Nat.min_eq_left h, List.take_of_length_le (by rw [List.length_drop]; exact Nat.le_refl _)]
  · rw [Nat.min_eq_right (by omega), List.drop_length, List.drop_eq_nil_of_le (by omega), List.take_nil]
theorem cutL_le {α : Type} (xs : List α) (lo hi : Option Int) : (cutL xs lo hi).length ≤ xs.length := by
  unfold cutL
  rw [List.length_take, List.length_drop]
  omega
theorem cutL_has {α : Type} {xs : List α} {k : Nat} {hi : Option Int} (h : 0 < (cutL xs (some (k : Int)) hi).length) : k < xs.length := by
  unfold cutL at h
  rw [List.length_take, List.length_drop, HT.sIx_nat] at h
  omega
theorem at_map {α : Type} {f : α → V} {xs : List α} {i : Nat} {x : V} (h : (xs.map f)[i]? = some x) : ∃ y, xs[i]? = some y ∧ x = f y := by
  rw [List.getElem?_map] at h
  cases e : xs[i]? with
  | none => rw [e] at h; cases h
  | some y =>
    rw [e] at h
    exact ⟨y, rfl, (Option.some.inj h).symm⟩
theorem ix_map {α : Type} {f : α → V} {xs : List α} {i : Nat} {y : α} (h : xs[i]? = some y) : (xs.map f)[i]? = some (f y) := by
  rw [List.getElem?_map, h]
  rfl
theorem set_map {α : Type} {f : α → V} {xs : List α} {i : Nat} {y : α} : (xs.map f).set i (f y) = (xs.set i y).map f := by
  rw [List.map_set]

theorem bit01 (k : Bool) : -(2 ^ 64) < (if k = true then 1 else 0 : Int) ∧ (if k = true then 1 else 0 : Int) < 2 ^ 64 := by cases k <;> decide
theorem bit2 (k : Bool) : (0 : Int) ≤ (if k = true then 1 else 0 : Int) ∧ (if k = true then 1 else 0 : Int) ≤ 1 := by cases k <;> decide

/-! ### names of the built-in -/
structure Blt (mg : Str → Option Value) : Prop where
  len : mg "len" = none
  abs : mg "abs" = none
  int : mg "int" = none
  list : mg "list" = none
  tuple : mg "tuple" = none
  enumerate : mg "enumerate" = none
  range : mg "range" = none
  min : mg "min" = none
  max : mg "max" = none
  sorted : mg "sorted" = none
  isinstance : mg "isinstance" = none
  zip : mg "zip" = none
  all : mg "all" = none
  str : mg "str" = none
  bool : mg "bool" = none
  any : mg "any" = none
  repr : mg "repr" = none
  set : mg "set" = none
  sum : mg "sum" = none

/-! ### a def as its callers know it -/
structure Cal (P : Program) (w : World) (K : PySem.W.Frag) (mg : Str → Option Value) (base : Heap) (k : Nat) (x : Str) (ps : List Str) (sp : Sp) : Prop where
  ex : ∃ f fd, FnOk P w K mg base CX0 k f fd ps sp ∧ mg x = some (.ref f) ∧ PySem.W.keepIn K (.ref f) = true ∧ Binds K fd ps []
theorem Cal.mono {P : Program} {w : World} {K : PySem.W.Frag} {mg : Str → Option Value} {base : Heap} {j k : Nat} {x : Str} {ps : List Str} {sp : Sp} (C : Cal P w K mg base j x ps sp) (h : j ≤ k := by first | decide | omega) : Cal P w K mg base k x ps sp := by
  obtain ⟨f, fd, F, r⟩ := C.ex
  exact ⟨f, fd, F.mono h, r⟩
section
variable {X : Cx} {k n : Nat} {x : Str} {ps : List Str} {sp : Sp} {p pos : Pos} {e : Expr} {es : List Expr} {t : TA}
theorem pe_cal (C : Cal X.prog X.w X.K X.mg X.base k x ps sp) (hr : Room n X.A) (ha : PA X (e :: es) t) (hle : k ≤ n := by first | decide | omega) (hg : Gl X x := by rfl) (hdb : (x == ("__debug__" : Str)) = false := by decide)
    (he : starEach (e :: es) X.env = (false, eval e X.env) :: starEach es X.env := by rfl) (hpl : (backTo pos (starEach es X.env)).any (·.1) = false := by rfl) :
    PE X (.Call (.Name x p) (e :: es) [] pos) (tCall sp [] E0 t) := by
  obtain ⟨f, fd, F, hm, hk, hb⟩ := C.ex
  exact pe_call F (hr.mono hle) hg hm hk hb .nil pass0 ha (hdb := hdb) (he := he) (hpl := hpl)
end

/-! ### drawing -/
def spTake : Sp := fun vs H Q _ => ∃ (b : Addr) (many : Int), vs = [.ref b, .int many] ∧ IsBox H b ∧ 0 < many ∧ many < 1073741824 ∧
  ∀ (v : Int) (H' : Hp), Oth b H H' → IsBox H' b → 0 ≤ v → v < many → Q (.int v) H'
def spBox : Sp := fun vs H Q _ => ∃ (a : Addr) (ns : List Int) (k : Nat), vs = [.ref a, .int k] ∧ H a = some (.lst (ns.map V.int)) ∧ k < ns.length ∧ k < 1000 ∧
  ∀ (b : Addr) (H' : Hp), Same H H' → H b = none → IsBox H' b → Q (.ref b) H'
def spCells (K : PySem.W.Frag) : Sp := fun vs H Q _ => ∃ (a : Addr) (ns : List Int) (u : Nat), vs = [.ref a, .int u] ∧ SqL K H a (ns.map V.int) ∧ ns.length ≤ 63 ∧ 0 < u ∧ u ≤ 3 ∧
  ∀ (c : Addr) (ms : List Int) (H' : Hp), Same H H' → H c = none → H' c = some (.lst (ms.map V.int)) → 0 < ms.length → ms.length ≤ 3 → Q (.ref c) H'
end Lk
set_option maxRecDepth 100000
set_option maxHeartbeats 4000000
namespace Lk
open PySem PySem.Spec PyProof.Rows L2

/-! ### texts and names -/
abbrev tlx (x : Str) : List Nat := x.cps.toList
theorem len_tlx (x : Str) : x.length = (tlx x).length := by
  show x.cps.size = x.cps.toList.length
  rw [Array.length_toList]
theorem tlx_app (x y : Str) : tlx (x ++ y) = tlx x ++ tlx y := by
  show (x.cps ++ y.cps).toList = _
  rw [Array.toList_append]
theorem str_ext {x y : Str} (h : tlx x = tlx y) : x = y := by
  obtain ⟨a⟩ := x
  obtain ⟨b⟩ := y
  have e : a = b := Array.toList_inj.mp h
  rw [e]
def Low (l : List Nat) : Prop := ∀ c ∈ l, 97 ≤ c ∧ c ≤ 122
def NameOk (x : Str) : Prop := 1 ≤ (tlx x).length ∧ (tlx x).length ≤ 8 ∧ Low (tlx x)
theorem NameOk.len {x : Str} (h : NameOk x) : x.length ≤ 8 := by rw [len_tlx]; exact h.2.1
def Good (x : Str) : Prop := PyData.strOk x = true
def Goods (xs : List Str) : Prop := ∀ x ∈ xs, Good x
theorem NameOk.good {x : Str} (h : NameOk x) : Good x := by
  show x.cps.all (· < 0x110000) = true
  rw [← Array.all_toList, List.all_eq_true]
  intro c hc
  have q := h.2.2 c hc
  exact decide_eq_true (by omega)
theorem lmin_good {x y : Str} (hx : Good x) (hy : Good y) : Good (lmin x y) := by
  unfold lmin
  split
  · exact hy
  · exact hx
theorem lmax_good {x y : Str} (hx : Good x) (hy : Good y) : Good (lmax x y) := by
  unfold lmax
  split
  · exact hy
  · exact hx
def abc : Str := "abcdefghijklmnopqrstuvwxyz"
theorem abc_at : ∀ i : Nat, i < 26 → (tlx abc)[i]? = some (97 + i) := by decide +kernel
theorem abc_len : abc.length = 26 := by decide +kernel
theorem abc_ix {i : Int} (h0 : 0 ≤ i) (h1 : i < 26) : atI (tlx abc) i = some (97 + i.toNat) := by
  have e : i = ((i.toNat : Nat) : Int) := by omega
  have q := atI_nat (abc_at i.toNat (by omega))
  rw [← e] at q
  exact q
theorem Low.one {n : Nat} (h : n < 26) : Low [97 + n] := fun c hc => by
  have e : c = 97 + n := by simpa using hc
  omega
theorem join0 : ∀ ys : List Str, tlx (Txt.join ("" : Str) ys) = (ys.map tlx).flatten := by
  intro ys
  rw [TL.join_eq]
  refine (TL.tl_join _ _).trans ?_
  have e : TL.tl ("" : Str) = [] := by decide +kernel
  rw [e]
  have g : ∀ l : List (List Nat), TL.joinL [] l = l.flatten := by
    intro l
    induction l with
    | nil => rfl
    | cons a r ih =>
      cases r with
      | nil => simp [TL.joinL]
      | cons b r =>
        show a ++ ([] ++ TL.joinL [] (b :: r)) = _
        rw [ih]
        simp
  exact g (ys.map TL.tl)
def IsOne (x : Str) : Prop := ∃ n : Nat, n < 26 ∧ x = ⟨#[97 + n]⟩
theorem ones_flat : ∀ {ys : List Str}, (∀ y ∈ ys, IsOne y) → ((ys.map tlx).flatten).length = ys.length ∧ Low (ys.map tlx).flatten
  | [], _ => ⟨rfl, fun _ h => nomatch h⟩
  | y :: r, h => by
    obtain ⟨e1, e2⟩ := ones_flat (ys := r) fun z hz => h z (List.mem_cons_of_mem _ hz)
    obtain ⟨n, hn, rfl⟩ := h y List.mem_cons_self
    constructor
    · rw [List.map_cons, List.flatten_cons, List.length_append, e1]
      simp
      omega
    · rw [List.map_cons, List.flatten_cons]
      intro c hc
      rcases List.mem_append.mp hc with q | q
      · have e : c = 97 + n := by simpa using q
        omega
      · exact e2 c q
theorem ones_len : ∀ {ys : List Str}, (∀ y ∈ ys, IsOne y) → (ys.map (·.length)).sum = ys.length
  | [], _ => rfl
  | y :: r, h => by
    have ih := ones_len (ys := r) fun z hz => h z (List.mem_cons_of_mem _ hz)
    obtain ⟨n, hn, rfl⟩ := h y List.mem_cons_self
    rw [List.map_cons, List.sum_cons, ih, List.length_cons]
    show 1 + r.length = _
    omega
theorem cutS_tlx (z : Str) (lo hi : Option Int) : tlx (cutS z lo hi) = cutL (tlx z) lo hi := by
  unfold cutS cutL
  show (List.toArray _).toList = _
  rw [List.toList_toArray, len_tlx]
theorem Low.cut {l : List Nat} {lo hi : Option Int} (h : Low l) : Low (cutL l lo hi) := fun c hc => h c (List.mem_of_mem_drop (List.mem_of_mem_take hc))
theorem Low.app {l m : List Nat} (h : Low l) (h' : Low m) : Low (l ++ m) := fun c hc => (List.mem_append.mp hc).elim (h c) (h' c)
theorem apart {step : Int} (hs : step = 1 ∨ step = 3 ∨ step = 7 ∨ step = 25) {i j : Nat} (h : j < i) (hi : i < 26) (f : Int) : (f + step * (i : Int)) % 26 ≠ (f + step * (j : Int)) % 26 := by
  rcases hs with rfl | rfl | rfl | rfl <;> omega
/-- a text's last sign -/
def lastC (x : Str) : Option Nat := (tlx x).getLast?
theorem lastC_app (x : Str) (n : Nat) : lastC (x ++ ⟨#[n]⟩) = some n := by
  unfold lastC
  rw [tlx_app]
  simp
theorem ins_perm {α : Type} (l : List α) (p : Nat) (x : α) : (l.take p ++ [x] ++ l.drop p).Perm (x :: l) := by
  have e : l.take p ++ [x] ++ l.drop p = l.take p ++ x :: l.drop p := by simp
  rw [e]
  refine List.perm_middle.trans ?_
  rw [List.take_append_drop]
theorem ins_map {α : Type} (f : α → V) (l : List α) (p : Nat) (x : α) : (l.map f).take p ++ [f x] ++ (l.map f).drop p = (l.take p ++ [x] ++ l.drop p).map f := by
  rw [List.map_append, List.map_append, List.map_take, List.map_drop]
  rfl

/-! ### the order of texts -/
theorem lmin_or (x y : Str) : (lmin x y = x ∧ lmax x y = y) ∨ (lmin x y = y ∧ lmax x y = x) := by
  unfold lmin lmax
  by_cases h : y.cps.toList < x.cps.toList
  · rw [if_pos h, if_neg (List.lt_asymm h)]
    exact .inr ⟨rfl, rfl⟩
  · rw [if_neg h]
    by_cases h2 : x.cps.toList < y.cps.toList
    · rw [if_pos h2]
      exact .inl ⟨rfl, rfl⟩
    · rw [if_neg h2]
      have e : x = y := str_ext (List.le_antisymm h h2)
      subst e
      exact .inl ⟨rfl, rfl⟩
theorem lpair_comm (x y : Str) : (lmin x y, lmax x y) = (lmin y x, lmax y x) := by
  unfold lmin lmax
  by_cases h : y.cps.toList < x.cps.toList
  · rw [if_pos h, if_neg (List.lt_asymm h), if_neg (List.lt_asymm h), if_pos h]
  · by_cases h2 : x.cps.toList < y.cps.toList
    · rw [if_neg h, if_pos h2, if_pos h2, if_neg h]
    · have e : x = y := str_ext (List.le_antisymm h h2)
      subst e
      rfl
/-- friends, as a law has them: each pair a least and a greatest -/
def PalsOk (ps : List (Str × Str)) : Prop := ∀ p ∈ ps, ∃ m q, Good m ∧ Good q ∧ p = (lmin m q, lmax m q)
def frd (ps : List (Str × Str)) (a b : Str) : Bool := decide ((a, b) ∈ ps ∨ (b, a) ∈ ps)
theorem frd_comm (ps : List (Str × Str)) (a b : Str) : frd ps a b = frd ps b a := by
  unfold frd
  exact decide_eq_decide.mpr Or.comm
theorem frd_pair {ps : List (Str × Str)} (h : PalsOk ps) (a b : Str) : decide ((lmin a b, lmax a b) ∈ ps) = frd ps a b := by
  unfold frd
  refine decide_eq_decide.mpr ⟨fun q => ?_, fun q => ?_⟩
  · rcases lmin_or a b with ⟨e1, e2⟩ | ⟨e1, e2⟩
    · rw [e1, e2] at q; exact .inl q
    · rw [e1, e2] at q; exact .inr q
  · rcases q with q | q
    · obtain ⟨m, n, _, _, e⟩ := h _ q
      have e1 : a = lmin m n := (Prod.mk.inj e).1
      have e2 : b = lmax m n := (Prod.mk.inj e).2
      rcases lmin_or m n with ⟨f1, f2⟩ | ⟨f1, f2⟩
      · rw [f1] at e1; rw [f2] at e2; subst e1 e2; rw [← e]; exact q
      · rw [f1] at e1; rw [f2] at e2; subst e1 e2; rw [lpair_comm, ← e]; exact q
    · obtain ⟨m, n, _, _, e⟩ := h _ q
      have e1 : b = lmin m n := (Prod.mk.inj e).1
      have e2 : a = lmax m n := (Prod.mk.inj e).2
      rcases lmin_or m n with ⟨f1, f2⟩ | ⟨f1, f2⟩
      · rw [f1] at e1; rw [f2] at e2; subst e1 e2; rw [lpair_comm, ← e]; exact q
      · rw [f1] at e1; rw [f2] at e2; subst e1 e2; rw [← e]; exact q

theorem menu4 {v : Int} (h0 : 0 ≤ v) (h1 : v < 4) : ∃ step : Int, (step = 1 ∨ step = 3 ∨ step = 7 ∨ step = 25) ∧ atI [V.int 1, V.int 3, V.int 7, V.int 25] v = some (.int step) := by
  have e : v = 0 ∨ v = 1 ∨ v = 2 ∨ v = 3 := by omega
  rcases e with rfl | rfl | rfl | rfl
  · exact ⟨1, by simp, rfl⟩
  · exact ⟨3, by simp, rfl⟩
  · exact ⟨7, by simp, rfl⟩
  · exact ⟨25, by simp, rfl⟩
theorem name_ok {stem : Str} {hi : Option Int} {n : Nat} (h1 : (tlx stem).length ≤ 7) (h2 : Low (tlx stem)) (hn : n < 26) : NameOk (cutS stem none hi ++ ⟨#[97 + n]⟩) := by
  have e : tlx (cutS stem none hi ++ ⟨#[97 + n]⟩) = cutL (tlx stem) none hi ++ [97 + n] := by rw [tlx_app, cutS_tlx]
  have q := cutL_le (tlx stem) none hi
  refine ⟨?_, ?_, ?_⟩
  · rw [e]; simp
  · rw [e, List.length_append, List.length_singleton]; omega
  · rw [e]; exact (Low.cut h2).app (Low.one hn)

/-! ### friends as they stand -/
abbrev B3 := Addr × Str × Str
def refs (bs : List B3) : List V := bs.map fun b => V.ref b.1
def PairsAt (H : Hp) (bs : List B3) : Prop := ∀ b ∈ bs, H b.1 = some (.tup [.str b.2.1, .str b.2.2])
theorem PairsAt.same {H H' : Hp} {bs : List B3} (s : Same H H') (h : PairsAt H bs) : PairsAt H' bs := fun b hb => s _ _ (h b hb)
theorem PairsAt.oth {H H' : Hp} {b : Addr} {bs : List B3} (s : Oth b H H') (hb : IsBox H b) (h : PairsAt H bs) : PairsAt H' bs := fun c hc => s _ _ (hb.ne_tup (h c hc)) (h c hc)
/-- FRIENDS as a tuple -/
def PalsAt (H : Hp) (a : Addr) (ps : List (Str × Str)) : Prop := ∃ bs : List B3, H a = some (.tup (refs bs)) ∧ PairsAt H bs ∧ ps = bs.map (·.2)
theorem PalsAt.same {H H' : Hp} {a : Addr} {ps : List (Str × Str)} (s : Same H H') (h : PalsAt H a ps) : PalsAt H' a ps := by
  obtain ⟨bs, h1, h2, h3⟩ := h
  exact ⟨bs, s _ _ h1, h2.same s, h3⟩
theorem PalsAt.oth {H H' : Hp} {a b : Addr} {ps : List (Str × Str)} (s : Oth b H H') (hb : IsBox H b) (h : PalsAt H a ps) : PalsAt H' a ps := by
  obtain ⟨bs, h1, h2, h3⟩ := h
  exact ⟨bs, s _ _ (hb.ne_tup h1) h1, h2.oth s hb, h3⟩
/-- .. or a list of these -/
def FrAt (H : Hp) (a : Addr) (ps : List (Str × Str)) : Prop := ∃ bs : List B3, (H a = some (.tup (refs bs)) ∨ H a = some (.lst (refs bs))) ∧ PairsAt H bs ∧ ps = bs.map (·.2)
theorem PalsAt.fr {H : Hp} {a : Addr} {ps : List (Str × Str)} (h : PalsAt H a ps) : FrAt H a ps := by
  obtain ⟨bs, h1, h2, h3⟩ := h
  exact ⟨bs, .inl h1, h2, h3⟩
theorem FrAt.same {H H' : Hp} {a : Addr} {ps : List (Str × Str)} (s : Same H H') (h : FrAt H a ps) : FrAt H' a ps := by
  obtain ⟨bs, h1, h2, h3⟩ := h
  exact ⟨bs, h1.elim (fun e => .inl (s _ _ e)) (fun e => .inr (s _ _ e)), h2.same s, h3⟩
/-- what _law_pals tells of a pair -/
def OfPool (pool : List Str) (ps : List (Str × Str)) : Prop := ∀ p ∈ ps, ∃ m q, m ∈ pool ∧ q ∈ pool ∧ m ≠ q ∧ p = (lmin m q, lmax m q)
theorem OfPool.ok {pool : List Str} {ps : List (Str × Str)} (h : OfPool pool ps) (hg : Goods pool) : PalsOk ps := fun p hp => by
  obtain ⟨m, q, h1, h2, _, e⟩ := h p hp
  exact ⟨m, q, hg m h1, hg q h2, e⟩
def PGood (ps : List (Str × Str)) : Prop := ∀ p ∈ ps, Good p.1 ∧ Good p.2
theorem PalsOk.good {ps : List (Str × Str)} (h : PalsOk ps) : PGood ps := fun p hp => by
  obtain ⟨m, q, h1, h2, e⟩ := h p hp
  rw [e]
  exact ⟨lmin_good h1 h2, lmax_good h1 h2⟩
def spPals : Sp := fun vs H Q _ => ∃ (b l : Addr) (pool : List Str), vs = [.ref b, .ref l] ∧ IsBox H b ∧ H l = some (.lst (pool.map V.str)) ∧ pool.Nodup ∧ pool.length ≤ 26 ∧
  ∀ (a : Addr) (bs : List B3) (H' : Hp), Oth b H H' → IsBox H' b → H a = none → H' a = some (.tup (refs bs)) → PairsAt H' bs → OfPool pool (bs.map (·.2)) → bs.length ≤ 1000 → (∃ cs : List B3, bs = cs.mergeSort (PySem.W.dataLe false encP)) → Q (.ref a) H'

def spNames : Sp := fun vs H Q _ => ∃ (b : Addr) (many : Nat), vs = [.ref b, .int many] ∧ IsBox H b ∧ many ≤ 26 ∧
  ∀ (l : Addr) (names : List Str) (H' : Hp), Oth b H H' → IsBox H' b → H l = none → H' l = some (.lst (names.map V.str)) → names.length = many → names.Nodup → (∀ x ∈ names, NameOk x) → Q (.ref l) H'
end Lk
set_option maxRecDepth 100000
set_option maxHeartbeats 4000000
namespace Lk
open PySem PySem.Spec PyProof.Rows L2
theorem u65 {k : Nat} {A : Around} (r : Room k A) : A.units + 65 < cLine := by have := r.un; omega

/-! ### data -/
def encQ (p : Str × Str) : PyData := .tuple [.str p.1, .str p.2]
theorem eqv_strs : ∀ xs ys : List Str, PyData.eqvAll (xs.map .str) (ys.map .str) = decide (xs = ys)
  | [], [] => by simp [PyData.eqvAll]
  | [], _ :: _ => by simp [PyData.eqvAll]
  | _ :: _, [] => by simp [PyData.eqvAll]
  | x :: xs, y :: ys => by
    rw [List.map_cons, List.map_cons, PyData.eqvAll, eqv_strs xs ys]
    by_cases h : x = y
    · subst h
      simp [PyData.eqv]
    · simp [PyData.eqv, h]
theorem eqv_pair (p q : Str × Str) : PyData.eqv (encQ p) (encQ q) = decide (p = q) := by
  obtain ⟨a, b⟩ := p
  obtain ⟨c, d⟩ := q
  have e := eqv_strs [a, b] [c, d]
  have e2 : PyData.eqv (encQ (a, b)) (encQ (c, d)) = PyData.eqvAll ([a, b].map .str) ([c, d].map .str) := by simp [encQ, PyData.eqv]
  rw [e2, e]
  refine decide_eq_decide.mpr ?_
  simp
theorem lay_strs : ∀ {xs : List Str}, Goods xs → PyData.canLayAll0 (xs.map .str) = true
  | [], _ => by simp [PyData.canLayAll0]
  | x :: xs, h => by
    have h1 : PyData.strOk x = true := h x List.mem_cons_self
    simp [PyData.canLayAll0, PyData.canLay0, h1, lay_strs (xs := xs) fun y hy => h y (List.mem_cons_of_mem _ hy)]
theorem dep_strs : ∀ xs : List Str, PyData.depthAll (xs.map .str) = 0
  | [] => by simp [PyData.depthAll]
  | x :: xs => by simp [PyData.depthAll, PyData.depth, dep_strs xs]
theorem sh_list {xs : List Str} (h : Goods xs) : SeqAt.shaped (.list (xs.map .str)) = true := by
  show (PyData.canLay0 (.list (xs.map .str)) && decide (PyData.depth (.list (xs.map .str)) ≤ 64)) = true
  simp [PyData.canLay0, PyData.depth, lay_strs h, dep_strs]
theorem sh_tuple {xs : List Str} (h : Goods xs) : SeqAt.shaped (.tuple (xs.map .str)) = true := by
  show (PyData.canLay0 (.tuple (xs.map .str)) && decide (PyData.depth (.tuple (xs.map .str)) ≤ 64)) = true
  simp [PyData.canLay0, PyData.depth, lay_strs h, dep_strs]
theorem lay_pairs : ∀ {ps : List (Str × Str)}, PGood ps → PyData.canLayAll0 (ps.map encQ) = true
  | [], _ => by simp [PyData.canLayAll0]
  | p :: ps, h => by
    have h1 : PyData.strOk p.1 = true := (h p List.mem_cons_self).1
    have h2 : PyData.strOk p.2 = true := (h p List.mem_cons_self).2
    simp [PyData.canLayAll0, PyData.canLay0, encQ, h1, h2, lay_pairs (ps := ps) fun y hy => h y (List.mem_cons_of_mem _ hy)]
theorem dep_pairs : ∀ ps : List (Str × Str), PyData.depthAll (ps.map encQ) ≤ 1
  | [] => by simp [PyData.depthAll]
  | p :: ps => by
    have := dep_pairs ps
    simp only [List.map_cons, PyData.depthAll, encQ, PyData.depth]
    omega
theorem sh_pals {ps : List (Str × Str)} (h : PGood ps) : SeqAt.shaped (.tuple (ps.map encQ)) = true := by
  show (PyData.canLay0 (.tuple (ps.map encQ)) && decide (PyData.depth (.tuple (ps.map encQ)) ≤ 64)) = true
  have := dep_pairs ps
  have e : PyData.depth (.tuple (ps.map encQ)) ≤ 64 := by
    simp only [PyData.depth]
    omega
  rw [decide_eq_true e, Bool.and_true]
  simp only [PyData.canLay0]
  exact lay_pairs h
theorem goods2 {x y : Str} (hx : Good x) (hy : Good y) : Goods [x, y] := fun z hz => by
  rcases List.mem_cons.mp hz with rfl | hz
  · exact hx
  · have e : z = y := by simpa using hz
    rw [e]
    exact hy
theorem sh_pair {p : Str × Str} (h : Good p.1 ∧ Good p.2) : SeqAt.shaped (encQ p) = true := sh_tuple (xs := [p.1, p.2]) (goods2 h.1 h.2)
section
variable {K : PySem.W.Frag} {H : Hp}
theorem dp_strs : ∀ xs : List Str, DpAll K H (xs.map V.str) (xs.map .str)
  | [] => .nil
  | x :: xs => .cons (.str x) (dp_strs xs)
theorem dp_list {a : Addr} {xs : List Str} (h : H a = some (.lst (xs.map V.str))) : Dp K H (.ref a) (.list (xs.map .str)) := .lst (.inl (.inl h)) (dp_strs xs)
theorem dp_tuple {a : Addr} {xs : List Str} (h : H a = some (.tup (xs.map V.str))) : Dp K H (.ref a) (.tuple (xs.map .str)) := .tup (.inl (.inl h)) (dp_strs xs)
theorem dp_pairs : ∀ {bs : List B3}, PairsAt H bs → DpAll K H (refs bs) ((bs.map (·.2)).map encQ)
  | [], _ => .nil
  | b :: bs, h => .cons (dp_tuple (xs := [b.2.1, b.2.2]) (h b List.mem_cons_self)) (dp_pairs (bs := bs) fun c hc => h c (List.mem_cons_of_mem _ hc))
theorem dp_pals {a : Addr} {ps : List (Str × Str)} (h : PalsAt H a ps) : Dp K H (.ref a) (.tuple (ps.map encQ)) := by
  obtain ⟨bs, h1, h2, rfl⟩ := h
  exact .tup (.inl (.inl h1)) (dp_pairs h2)
end
theorem any_pair (ps : List (Str × Str)) (p : Str × Str) : ((ps.map encQ).any fun z => PyData.eqv z (encQ p)) = decide (p ∈ ps) := by
  rw [List.any_map]
  induction ps with
  | nil => rfl
  | cons q r ih =>
    rw [List.any_cons, ih]
    show (PyData.eqv (encQ q) (encQ p) || _) = _
    rw [eqv_pair]
    by_cases h : q = p
    · subst h
      simp
    · have h' : ¬ p = q := fun z => h z.symm
      simp [h, h']

/-! ### tuples whose object is known to have no dict: their methods may be called -/
def TupAt (H : Hp) (t : Addr) (xs : List V) : Prop := ∃ o : Obj, o.dict = none ∧ H t = some (.frz o (.tup xs))
theorem TupAt.same {H H' : Hp} {t : Addr} {xs : List V} (s : Same H H') (h : TupAt H t xs) : TupAt H' t xs := by
  obtain ⟨o, h1, h2⟩ := h
  exact ⟨o, h1, s _ _ h2⟩
theorem TupAt.sq {K : PySem.W.Frag} {H : Hp} {t : Addr} {xs : List V} (h : TupAt H t xs) : SqT K H t xs := by
  obtain ⟨o, _, h2⟩ := h
  exact .inl (.inr ⟨o, h2⟩)
theorem TupAt.ne {H : Hp} {b t : Addr} {xs : List V} (h : TupAt H t xs) (hb : IsBox H b) : t ≠ b := by
  obtain ⟨o, _, h2⟩ := h
  obtain ⟨i, j, k, e⟩ := hb
  exact ne_of h2 e (fun z => nomatch z)
theorem TupAt.ne_new {H : Hp} {p t : Addr} {xs : List V} (h : TupAt H t xs) (hp : H p = none) : t ≠ p := by
  obtain ⟨o, _, h2⟩ := h
  exact ne_of_none h2 hp
theorem TupAt.oth {H H' : Hp} {b t : Addr} {xs : List V} (s : Oth b H H') (hb : IsBox H b) (h : TupAt H t xs) : TupAt H' t xs := by
  have n := h.ne hb
  obtain ⟨o, h1, h2⟩ := h
  exact ⟨o, h1, s _ _ n h2⟩
/-- all but what stands at l, as it was -/
theorem TupAt.upd_ {H : Hp} {l t : Addr} {xs ys : List V} {o' : HO} (h : TupAt H t xs) (hl : H l = some (.lst ys)) : TupAt (upd H l o') t xs := by
  obtain ⟨o, h1, h2⟩ := h
  exact ⟨o, h1, (upd_ne (ne_of h2 hl (fun z => nomatch z))).trans h2⟩
theorem cutV_whole {xs : List V} {lo hi : Option Int} (h : HT.sIx xs.length 0 lo = 0 ∧ HT.sIx xs.length xs.length hi = xs.length) : cutV xs lo hi = xs := by
  unfold cutV
  rw [h.1, h.2, List.drop_zero, Nat.sub_zero, List.take_of_length_le (Nat.le_refl _)]
section
variable {X : Cx}
theorem laid_tup {pins : List (Addr × Obj)} {σ : L2.St} {H : Hp} {s : Shared} {xs : List V} {its : List Value} (I : Inv X pins σ H s) (hz : xs.length ≤ sizeLine) (r : Vals xs its) :
    Inv X pins σ (upd H s.heap.objs.size (.frz { cls := .type "tuple", data := .seq its.toArray } (.tup xs))) { s with heap := s.heap.push { cls := .type "tuple", data := .seq its.toArray } } :=
  I.laid (t' := s.toks) (fun b ob q => Heap.get?_push_of_some _ q) (Nat.le_refl _) ⟨Heap.get?_push_size _ rfl, hz, its, r, IsTup.new _ _⟩
def tTupF (t : TA) : TE := fun σ H Q => t σ H fun xs H1 => xs.length ≤ sizeLine ∧ ∀ p H', Same H1 H' → H1 p = none → TupAt H' p xs → Q (.ref p) H'
theorem pe_tupF {es : List Expr} {t : TA} {pos : Pos} {x1} (h : PA X es t) : PE X (.Tuple es x1 pos) (tTupF t) := by
  refine ⟨fun pins s σ H Q I hq => ?_⟩
  refine wpAny_Tuple_spliced (thn (h.run pos pins s σ H _ I hq) fun us s1 ⟨xs, H1, I1, r, z, q⟩ => ⟨by rw [← r.length]; exact z, ?_⟩)
  have hf : H1 s1.heap.objs.size = none := I1.hok.fresh (Nat.le_refl _)
  exact ⟨.ref s1.heap.objs.size, _, laid_tup I1 z r, rfl, q _ _ (same_upd hf) hf ⟨_, rfl, upd_same⟩⟩
theorem call_tupleF : CallR X (.type "tuple") (fun xs H Q => ∃ p ys, xs = [.ref p] ∧ ((SqL X.K H p ys ∧ ∀ l H', Same H H' → H l = none → TupAt H' l ys → Q (.ref l) H') ∨ (SqT X.K H p ys ∧ Q (.ref p) H))) := by
  intro pins s σ H xs us Q I r h
  obtain ⟨p, ys, rfl, h⟩ := h
  obtain ⟨u, rfl, rx⟩ := vals1 r
  cases rx
  rcases h with ⟨hq, q⟩ | ⟨hq, q⟩
  · obtain ⟨its, r', pl, hz⟩ := I.list hq
    have hlen := r'.length
    refine call_tuple_list pl.isList (fun h' kp => ?_) (by simp only [List.size_toArray] <;> omega)
    have I1 : Inv X pins σ H { s with heap := h' } := I.kept (t' := s.toks) kp
    have hf := I1.hok.fresh (Nat.le_refl _)
    exact ⟨.ref h'.objs.size, _, laid_tup I1 hz r', rfl, q _ _ (same_upd hf) hf ⟨_, rfl, upd_same⟩⟩
  · obtain ⟨its, r', pl, hz⟩ := I.tuple hq
    exact call_tuple_same pl ⟨.ref p, H, I, rfl, q⟩
def rSlM : V → Option Int → Option Int → Hp → VK → Prop := fun x lo hi H Q => ∃ a xs, x = .ref a ∧ TupAt H a xs ∧ ∀ t H', Same H H' → TupAt H' t (cutV xs lo hi) → Q (.ref t) H'
theorem sl_tupM : SlR X rSlM := by
  intro pins s σ H x v vl vu lo hi sl Q I rx hs pl pu h
  obtain ⟨a, xs, rfl, ha, q⟩ := h
  by_cases hw : HT.sIx xs.length 0 lo = 0 ∧ HT.sIx xs.length xs.length hi = xs.length
  · exact sl_tupA pins s σ H _ v vl vu lo hi sl Q I rx hs pl pu ⟨a, xs, rfl, ha.sq, fun _ => q a H (Same.refl H) (by rw [cutV_whole hw]; exact ha), fun z => absurd hw z⟩
  · cases rx
    obtain ⟨its, r, ht, hz⟩ := I.tuple (ha.sq (K := X.K))
    have hlen : its.toArray.size = xs.length := by rw [List.size_toArray]; exact r.length.symm
    refine ⟨"tuple", _, PyProof.Rows.slot_tuple_getitem.lookup, ht.typeIs, ?_⟩
    refine HT.getItem_tuple_cut ht hs pl pu (by rw [hlen]; exact hw) ?_ (by rw [hlen]; exact hz)
    rw [hlen]
    have hf : H s.heap.objs.size = none := I.hok.fresh (Nat.le_refl _)
    exact ⟨.ref s.heap.objs.size, _, laid_tup (xs := cutV xs lo hi) I (Nat.le_trans (cutV_length xs lo hi) hz) ((r.drop (HT.sIx xs.length 0 lo)).take (HT.sIx xs.length xs.length hi - HT.sIx xs.length 0 lo)), rfl, q _ _ (same_upd hf) ⟨_, rfl, upd_same⟩⟩
def rCatM : R2 := fun x y H Q => ∃ a b xs ys, x = .ref a ∧ y = .ref b ∧ TupAt H a xs ∧ TupAt H b ys ∧ xs.length + ys.length ≤ sizeLine ∧ ∀ t H', Same H H' → TupAt H' t (xs ++ ys) → Q (.ref t) H'
theorem op_catM : OpR X (binaryOp .Add) rCatM := by
  intro pins s σ H x y v u Q I rx ry h
  obtain ⟨a, b, xs, ys, rfl, rfl, ha, hb, hz, q⟩ := h
  cases rx
  cases ry
  obtain ⟨its, r1, p1, _⟩ := I.tuple (ha.sq (K := X.K))
  obtain ⟨its2, r2, p2, _⟩ := I.tuple (hb.sq (K := X.K))
  by_cases hx : xs = []
  · subst hx
    cases r1
    exact cat_tup0 p1 p2 ⟨.ref b, H, I, rfl, q b H (Same.refl H) hb⟩
  · refine HT.cat_tup p1 p2 (fun z => hx (r1.nil_iff.mp z)) (fun z => ⟨.ref a, H, I, rfl, q a H (Same.refl H) ?_⟩) (fun z => ?_) (by rw [← r1.length, ← r2.length]; exact hz)
    · rw [r2.nil_iff.mp z, List.append_nil]
      exact ha
    · have hf : H s.heap.objs.size = none := I.hok.fresh (Nat.le_refl _)
      exact ⟨.ref s.heap.objs.size, _, laid_tup (xs := xs ++ ys) I (by rw [List.length_append]; exact hz) (r1.append r2), rfl, q _ _ (same_upd hf) ⟨_, rfl, upd_same⟩⟩
/-- a list of texts != [] -/
def rNeNil : R2 := fun x y H Q => ∃ (a b : Addr) (ys : List Str), x = .ref a ∧ y = .ref b ∧ H a = some (.lst (ys.map V.str)) ∧ H b = some (.lst []) ∧ Goods ys ∧ Q (.bl (!decide (ys = []))) H
theorem op_neNil (hu : X.A.units + 64 < cLine) : OpR X (compareOp .NotEq) rNeNil := by
  intro pins s σ H x y v u Q I rx ry h
  obtain ⟨a, b, ys, rfl, rfl, ha, hb, hg, q⟩ := h
  refine op_neD hu pins s σ H _ _ v u Q I rx ry ⟨_, _, dp_list ha, dp_list (xs := []) hb, sh_list hg, sh_list (xs := []) (fun _ h => nomatch h), ?_⟩
  have e : PyData.eqv (.list (ys.map .str)) (.list (([] : List Str).map .str)) = decide (ys = []) := by
    rw [PyData.eqv, eqv_strs]
  rw [e]
  exact q
/-- two tuples of texts -/
def rEqT : R2 := fun x y H Q => ∃ (a b : Addr) (xs ys : List Str), x = .ref a ∧ y = .ref b ∧ TupAt H a (xs.map V.str) ∧ TupAt H b (ys.map V.str) ∧ Goods xs ∧ Goods ys ∧ Q (.bl (decide (xs = ys))) H
theorem op_eqT (hu : X.A.units + 64 < cLine) : OpR X (compareOp .Eq) rEqT := by
  intro pins s σ H x y v u Q I rx ry h
  obtain ⟨a, b, xs, ys, rfl, rfl, ha, hb, g1, g2, q⟩ := h
  refine op_eqD hu pins s σ H _ _ v u Q I rx ry ⟨_, _, .tup ha.sq (dp_strs xs), .tup hb.sq (dp_strs ys), sh_tuple g1, sh_tuple g2, ?_⟩
  have e : PyData.eqv (.tuple (xs.map .str)) (.tuple (ys.map .str)) = decide (xs = ys) := by
    rw [PyData.eqv, eqv_strs]
  rw [e]
  exact q
end

/-! ### a row: a tuple or a list of names -/
def RowAt (H : Hp) (a : Addr) (row : List Str) : Prop := TupAt H a (row.map V.str) ∨ H a = some (.lst (row.map V.str))
theorem RowAt.same {H H' : Hp} {a : Addr} {row : List Str} (s : Same H H') (h : RowAt H a row) : RowAt H' a row := h.elim (fun e => .inl (e.same s)) (fun e => .inr (s _ _ e))

/-! ### where one comes to -/
def lastP {α : Type} (p : α → Bool) : List α → Option Nat
  | [] => none
  | x :: r => match lastP p r with
    | some k => some (k + 1)
    | none => if p x then some 0 else none
theorem lastP_app {α : Type} (p : α → Bool) (x : α) : ∀ l : List α, lastP p (l ++ [x]) = if p x then some l.length else lastP p l
  | [] => by simp [lastP]
  | y :: l => by
    show (match lastP p (l ++ [x]) with | some k => some (k + 1) | none => if p y then some 0 else none) = _
    rw [lastP_app p x l]
    by_cases h : p x = true
    · rw [if_pos h, if_pos h]
      rfl
    · rw [if_neg h, if_neg h]
      rfl
theorem lastP_take {α : Type} (p : α → Bool) {xs : List α} {i : Nat} {x : α} (h : xs[i]? = some x) : lastP p (xs.take (i + 1)) = if p x then some i else lastP p (xs.take i) := by
  have hi : i < xs.length := (List.getElem?_eq_some_iff.mp h).1
  rw [List.take_add_one, h]
  show lastP p (xs.take i ++ [x]) = _
  rw [lastP_app, List.length_take, Nat.min_eq_left (Nat.le_of_lt hi)]
theorem lastP_some {α : Type} {p : α → Bool} : ∀ {l : List α} {k : Nat}, lastP p l = some k → ∃ x, l[k]? = some x ∧ p x = true ∧ ∀ j y, k < j → l[j]? = some y → p y = false
  | [], k, h => by cases h
  | x :: r, k, h => by
    unfold lastP at h
    cases e : lastP p r with
    | some j =>
      rw [e] at h
      have hk : j + 1 = k := Option.some.inj h
      subst hk
      obtain ⟨y, h1, h2, h3⟩ := lastP_some e
      refine ⟨y, h1, h2, fun j' z hj hz => ?_⟩
      match j', hj, hz with
      | j' + 1, hj, hz => exact h3 j' z (by omega) hz
    | none =>
      rw [e] at h
      by_cases hx : p x = true
      · simp only [hx, if_true] at h
        have hk : 0 = k := Option.some.inj h
        subst hk
        refine ⟨x, rfl, hx, fun j' z hj hz => ?_⟩
        match j', hj, hz with
        | j' + 1, hj, hz => exact lastP_none e j' z hz
      · simp only [hx] at h
        cases h
where lastP_none {α : Type} {p : α → Bool} : ∀ {l : List α}, lastP p l = none → ∀ (j : Nat) (y : α), l[j]? = some y → p y = false
  | [], _, j, y, h => by simp at h
  | x :: r, e, j, y, h => by
    unfold lastP at e
    cases e2 : lastP p r with
    | some k => rw [e2] at e; cases e
    | none =>
      rw [e2] at e
      by_cases hx : p x = true
      · simp only [hx, if_true] at e
        cases e
      · match j, h with
        | 0, h =>
          have : x = y := Option.some.inj h
          subst this
          exact Bool.eq_false_iff.mpr hx
        | j + 1, h => exact lastP_none e2 j y h
theorem lastP_nil {α : Type} {p : α → Bool} : ∀ {l : List α}, lastP p l = none ↔ l.filter p = []
  | [] => by simp [lastP]
  | x :: r => by
    have ih := lastP_nil (p := p) (l := r)
    unfold lastP
    cases e : lastP p r with
    | some k =>
      have : ¬ r.filter p = [] := fun z => by rw [ih.mpr z] at e; cases e
      rw [List.filter_cons]
      by_cases hx : p x = true
      · simp [hx]
      · simp [hx, this]
    | none =>
      have z := ih.mp e
      rw [List.filter_cons, z]
      by_cases hx : p x = true
      · simp [hx]
      · simp [hx]
theorem Goods.perm {xs ys : List Str} (h : Goods xs) (p : ys.Perm xs) : Goods ys := fun x hx => h x (p.mem_iff.mp hx)
theorem Goods.at_ {xs : List Str} {i : Nat} {x : Str} (h : Goods xs) (e : xs[i]? = some x) : Good x := h x (List.mem_of_getElem? e)
theorem Goods.filter {xs : List Str} {p : Str → Bool} (h : Goods xs) : Goods (xs.filter p) := fun x hx => h x (List.mem_filter.mp hx).1
def spotOf (ps : List (Str × Str)) (stand : List Str) (x : Str) : Nat := match lastP (frd ps x) stand with
  | some k => k + 1
  | none => stand.length
def comeTo (ps : List (Str × Str)) (stand : List Str) (x : Str) : List Str := stand.take (spotOf ps stand x) ++ [x] ++ stand.drop (spotOf ps stand x)
def standOf (ps : List (Str × Str)) (order : List Str) : List Str := order.foldl (comeTo ps) []
theorem come_perm (ps : List (Str × Str)) (stand : List Str) (x : Str) : (comeTo ps stand x).Perm (x :: stand) := ins_perm _ _ _
theorem standOf_app (ps : List (Str × Str)) (o : List Str) (x : Str) : standOf ps (o ++ [x]) = comeTo ps (standOf ps o) x := by
  unfold standOf
  rw [List.foldl_append]
  rfl
theorem stand_perm_from (ps : List (Str × Str)) : ∀ (o stand : List Str), (o.foldl (comeTo ps) stand).Perm (o ++ stand)
  | [], stand => List.Perm.refl _
  | x :: o, stand => by
    show (o.foldl (comeTo ps) (comeTo ps stand x)).Perm _
    refine (stand_perm_from ps o _).trans ?_
    refine ((come_perm ps stand x).append_left o).trans ?_
    exact List.perm_middle
theorem stand_perm (ps : List (Str × Str)) (o : List Str) : (standOf ps o).Perm o := by
  have h := stand_perm_from ps o []
  rw [List.append_nil] at h
  exact h

/-! ### promises -/
def spAre : Sp := fun vs H Q _ => ∃ (a : Addr) (ps : List (Str × Str)) (x y : Str), vs = [.ref a, .str x, .str y] ∧ PalsAt H a ps ∧ PalsOk ps ∧ Good x ∧ Good y ∧ ∀ H', Same H H' → Q (.bl (frd ps x y)) H'
def spCome : Sp := fun vs H Q _ => ∃ (a t : Addr) (ps : List (Str × Str)) (stand : List Str) (x : Str), vs = [.ref a, .ref t, .str x] ∧ PalsAt H a ps ∧ PalsOk ps ∧ TupAt H t (stand.map V.str) ∧ Goods stand ∧ Good x ∧ stand.length ≤ 100 ∧
  ∀ t' H', Same H H' → TupAt H' t' ((comeTo ps stand x).map V.str) → Q (.ref t') H'
def spStandOf : Sp := fun vs H Q _ => ∃ (a l : Addr) (ps : List (Str × Str)) (some_ : List Str), vs = [.ref a, .ref l] ∧ PalsAt H a ps ∧ PalsOk ps ∧ H l = some (.lst (some_.map V.str)) ∧ Goods some_ ∧ some_.length ≤ 100 ∧
  ∀ t' H', Same H H' → TupAt H' t' ((standOf ps some_).map V.str) → Q (.ref t') H'
def spStrewn : Sp := fun vs H Q _ => ∃ (b l : Addr) (pool : List Str), vs = [.ref b, .ref l] ∧ IsBox H b ∧ RowAt H l pool ∧ pool.length ≤ 100 ∧
  ∀ (p : Addr) (order : List Str) (H' : Hp), Oth b H H' → IsBox H' b → H p = none → H' p = some (.lst (order.map V.str)) → order.Perm pool → Q (.ref p) H'
end Lk
set_option maxRecDepth 100000
set_option maxHeartbeats 4000000
namespace Lk
open PySem PySem.Spec PyProof.Rows L2
/-- a tuple that is tracked, either way -/
def TupX (H : Hp) (a : Addr) (xs : List V) : Prop := H a = some (.tup xs) ∨ TupAt H a xs
theorem TupX.same {H H' : Hp} {a : Addr} {xs : List V} (s : Same H H') (h : TupX H a xs) : TupX H' a xs := h.elim (fun e => .inl (s _ _ e)) (fun e => .inr (e.same s))
theorem TupX.sq {K : PySem.W.Frag} {H : Hp} {a : Addr} {xs : List V} (h : TupX H a xs) : SqT K H a xs := h.elim (fun e => .inl (.inl e)) (fun e => e.sq)
/-- two values that _law_same tells to be the same: scalars, lists, tuples, at most n deep -/
def Alk (H : Hp) : Nat → V → V → Prop
  | 0, _, _ => False
  | n + 1, x, y => ((x = .non ∨ (∃ b, x = .bl b) ∨ (∃ i, x = .int i) ∨ ∃ z, x = .str z) ∧ y = x) ∨
    (∃ a b xs ys, x = .ref a ∧ y = .ref b ∧ H a = some (.lst xs) ∧ H b = some (.lst ys) ∧ xs.length = ys.length ∧ xs.length ≤ 1000 ∧ ∀ (i : Nat) (u v : V), xs[i]? = some u → ys[i]? = some v → Alk H n u v) ∨
    (∃ a b xs ys, x = .ref a ∧ y = .ref b ∧ TupX H a xs ∧ TupX H b ys ∧ xs.length = ys.length ∧ xs.length ≤ 1000 ∧ ∀ (i : Nat) (u v : V), xs[i]? = some u → ys[i]? = some v → Alk H n u v)
theorem Alk.same {H H' : Hp} (s : Same H H') : ∀ {n : Nat} {x y : V}, Alk H n x y → Alk H' n x y
  | 0, _, _, h => h.elim
  | n + 1, x, y, h => by
    rcases h with h | ⟨a, b, xs, ys, e1, e2, h1, h2, hl, hz, h⟩ | ⟨a, b, xs, ys, e1, e2, h1, h2, hl, hz, h⟩
    · exact .inl h
    · exact .inr (.inl ⟨a, b, xs, ys, e1, e2, s _ _ h1, s _ _ h2, hl, hz, fun i u v hu hv => Alk.same s (h i u v hu hv)⟩)
    · exact .inr (.inr ⟨a, b, xs, ys, e1, e2, h1.same s, h2.same s, hl, hz, fun i u v hu hv => Alk.same s (h i u v hu hv)⟩)
end Lk
set_option maxRecDepth 100000
set_option maxHeartbeats 4000000
namespace Lk
open PySem PySem.Spec PyProof.Rows L2

/-! ### the dict of friends, either way about -/
def k2 (a b : Str) : List Key := [Sum.inr a, Sum.inr b]
theorem k2_inj {a b c d : Str} : k2 a b = k2 c d ↔ a = c ∧ b = d := by
  unfold k2
  simp
def KnAt (H : Hp) (d : Addr) (ps : List (Str × Str)) : Prop := ∃ kvs, H d = some (.dT kvs) ∧ ∀ a b, (valV kvs (k2 a b)).isSome = frd ps a b
theorem KnAt.same {H H' : Hp} {d : Addr} {ps : List (Str × Str)} (s : Same H H') (h : KnAt H d ps) : KnAt H' d ps := by
  obtain ⟨kvs, h1, h2⟩ := h
  exact ⟨kvs, s _ _ h1, h2⟩
theorem putK_len {kvs : List (List Key × V)} {k : List Key} {v : V} : (putK kvs k v).length ≤ kvs.length + 1 := by
  unfold putK
  split
  · rw [List.length_map]
    omega
  · rw [List.length_append]
    exact Nat.le_refl _
theorem frd_app (ps : List (Str × Str)) (p : Str × Str) (a b : Str) : frd (ps ++ [p]) a b = (frd ps a b || decide ((a, b) = p) || decide ((b, a) = p)) := by
  unfold frd
  by_cases h1 : (a, b) ∈ ps <;> by_cases h2 : (b, a) ∈ ps <;> by_cases h3 : (a, b) = p <;> by_cases h4 : (b, a) = p <;> simp [h1, h2, h3, h4]
theorem both_put {kvs : List (List Key × V)} {ps : List (Str × Str)} (h : ∀ a b, (valV kvs (k2 a b)).isSome = frd ps a b) (x y : Str) (u v : V) (a b : Str) :
    (valV (putK (putK kvs (k2 x y) u) (k2 y x) v) (k2 a b)).isSome = frd (ps ++ [(x, y)]) a b := by
  rw [valV_put, valV_put, frd_app, ← h a b]
  by_cases h1 : k2 a b = k2 y x
  · rw [if_pos h1]
    obtain ⟨e1, e2⟩ := k2_inj.mp h1
    subst e1 e2
    simp
  · rw [if_neg h1]
    have n1 : ¬ (b, a) = (x, y) := fun z => h1 (k2_inj.mpr ⟨(Prod.mk.inj z).2, (Prod.mk.inj z).1⟩)
    by_cases h2 : k2 a b = k2 x y
    · rw [if_pos h2]
      obtain ⟨e1, e2⟩ := k2_inj.mp h2
      subst e1 e2
      simp
    · rw [if_neg h2]
      have n2 : ¬ (a, b) = (x, y) := fun z => h2 (k2_inj.mpr ⟨(Prod.mk.inj z).1, (Prod.mk.inj z).2⟩)
      simp [n1, n2]

/-! ### places, words -/
def lfpV : Option Nat → V
  | none => .non
  | some k => .int k
theorem inV_strs (x : Str) (xs : List Str) : inV (.str x) (xs.map V.str) = decide (x ∈ xs) := by
  unfold inV
  rw [List.any_map]
  induction xs with
  | nil => rfl
  | cons y r ih =>
    rw [List.any_cons, ih]
    show ((y == x) || _) = _
    by_cases h : y = x
    · subst h
      simp
    · have h' : ¬ x = y := fun z => h z.symm
      simp [h, h']
theorem lastP_lt {α : Type} {p : α → Bool} {l : List α} {k : Nat} (h : lastP p l = some k) : k < l.length := by
  obtain ⟨x, hx, _⟩ := lastP_some h
  exact (List.getElem?_eq_some_iff.mp hx).1
/-! ### index -/
section
variable {X : Cx}
def rIdxL : V → List V → Hp → VK → Prop := fun x xs H Q => ∃ (a : Addr) (ys : List Str) (z : Str) (j : Nat), x = .ref a ∧ xs = [.str z] ∧ H a = some (.lst (ys.map V.str)) ∧ ys[j]? = some z ∧ (∀ m, m < j → ys[m]? ≠ some z) ∧ Q (.int (j : Nat)) H
theorem mt_idxL : MtR X "list.index" rIdxL := by
  intro pins s σ H x xs v us Q I rx rs h
  obtain ⟨a, ys, z, j, rfl, rfl, ha, hj, hno, q⟩ := h
  refine mt_index pins s σ H _ _ v us Q I rx rs ⟨a, ys.map V.str, .str z, j, .str z, rfl, rfl, .inl (.inl ha), rfl, flat_strs ys, ix_map hj, ?_, fun m z' hm hz' => ?_, q⟩
  · show (z == z) = true
    exact beq_self_eq_true z
  · obtain ⟨y, hy, rfl⟩ := at_map hz'
    show (y == z) = false
    exact beq_eq_false_iff_ne.mpr fun e => hno m hm (by rw [hy, e])
end
theorem nd_first {row : List Str} {i : Nat} {x : Str} (hd : row.Nodup) (h : row[i]? = some x) : ∀ m, m < i → row[m]? ≠ some x := fun m hm e => by
  have := nd_ix hd h e
  omega

/-! ### promises of the program -/
def spBoth : Sp := fun vs H Q _ => ∃ (a : Addr) (ps : List (Str × Str)), vs = [.ref a] ∧ FrAt H a ps ∧ ps.length ≤ 1000 ∧ ∀ d H', Same H H' → H d = none → KnAt H' d ps → Q (.ref d) H'
def spLfp : Sp := fun vs H Q _ => ∃ (d r : Addr) (ps : List (Str × Str)) (row : List Str) (who : Str), vs = [.ref d, .ref r, .str who] ∧ KnAt H d ps ∧ RowAt H r row ∧ row.length ≤ 100 ∧
  ∀ H', Same H H' → Q (lfpV (lastP (frd ps who) row)) H'
/-! ### .. and of the law's own words -/
def spRight : Sp := fun vs H Q _ => ∃ b : Addr, vs = [.ref b] ∧ IsBox H b ∧ ∀ H', Oth b H H' → Q (.bl true) H'
def spLaw (K : PySem.W.Frag) : Sp := fun vs H Q _ => ∃ (a : Addr) (ns : List Int), vs = [.ref a] ∧ SqL K H a (ns.map V.int) ∧ ns.length ≤ 63 ∧ ∀ H', Q (.bl true) H'
/-! ### calls by keywords that stand in the parameters' order turned about -/
end Lk
set_option maxRecDepth 100000
set_option maxHeartbeats 4000000
namespace Lk
open PySem PySem.Spec PyProof.Rows L2

/-! ### who can have come last -/
/-! ### promises -/
end Lk
set_option maxRecDepth 100000
set_option maxHeartbeats 4000000
namespace Lk
open PySem PySem.Spec PyProof.Rows L2

/-! ### whichever go, the same are left -/
def LooseP (ps : List (Str × Str)) (a b : List Str) (x : Str) : Prop :=
  (∀ y ∈ b, frd ps x y = false) ∧ ((∃ a' f, a = a' ++ [f] ∧ frd ps x f = true) ∨ ((∀ y ∈ a, frd ps x y = false) ∧ b = []))
def LooseIn (ps : List (Str × Str)) (row : List Str) (x : Str) : Prop := ∃ a b, row = a ++ x :: b ∧ LooseP ps a b x
def rem (row : List Str) (x : Str) : List Str := row.filter fun y => !decide (y = x)
theorem rem_split {a b : List Str} {x : Str} (hd : (a ++ x :: b).Nodup) : rem (a ++ x :: b) x = a ++ b := by
  have q : (x :: (a ++ b)).Nodup := (List.perm_middle.nodup_iff).mp hd
  have nx := (List.nodup_cons.mp q).1
  unfold rem
  rw [List.filter_append, List.filter_cons]
  have e1 : a.filter (fun y => !decide (y = x)) = a := List.filter_eq_self.mpr fun y hy => by
    have : ¬ y = x := fun z => nx (List.mem_append_left b (z ▸ hy))
    simp [this]
  have e2 : b.filter (fun y => !decide (y = x)) = b := List.filter_eq_self.mpr fun y hy => by
    have : ¬ y = x := fun z => nx (List.mem_append_right a (z ▸ hy))
    simp [this]
  rw [e1, e2]
  simp
theorem rem_nodup {row : List Str} {x : Str} (hd : row.Nodup) : (rem row x).Nodup := hd.filter _
theorem rem_comm (row : List Str) (x y : Str) : rem (rem row x) y = rem (rem row y) x := by
  unfold rem
  rw [List.filter_filter, List.filter_filter]
  refine List.filter_congr fun z _ => ?_
  exact Bool.and_comm _ _
theorem LooseIn.mem {ps : List (Str × Str)} {row : List Str} {x : Str} (h : LooseIn ps row x) : x ∈ row := by
  obtain ⟨a, b, rfl, _⟩ := h
  simp
theorem split_uniq {row a b c d : List Str} {x : Str} (hd : row.Nodup) (h1 : row = a ++ x :: b) (h2 : row = c ++ x :: d) : a = c ∧ b = d := by
  have e1 : row[a.length]? = some x := by rw [h1]; simp
  have e2 : row[c.length]? = some x := by rw [h2]; simp
  have l := nd_ix hd e1 e2
  have e := h1.symm.trans h2
  have q := List.append_inj e l
  exact ⟨q.1, (List.cons.inj q.2).2⟩
/-- the lemma: of two that are loose each is so without the other -/
theorem diamond {ps : List (Str × Str)} {row : List Str} {x y : Str} (hd : row.Nodup) (hx : LooseIn ps row x) (hy : LooseIn ps row y) (ne : x ≠ y) : LooseIn ps (rem row y) x := by
  obtain ⟨a, b, e, h1, h2⟩ := hx
  have my : y ∈ row := hy.mem
  obtain ⟨c, d, e', g1, g2⟩ := hy
  have my' : y ∈ a ∨ y ∈ b := by
    rw [e] at my
    rcases List.mem_append.mp my with z | z
    · exact .inl z
    · rcases List.mem_cons.mp z with z | z
      · exact absurd z.symm ne
      · exact .inr z
  rcases my' with m | m
  · obtain ⟨a1, a2, rfl⟩ := List.append_of_mem m
    have e2 : row = a1 ++ y :: (a2 ++ x :: b) := by rw [e]; simp
    have er : rem row y = (a1 ++ a2) ++ x :: b := by
      rw [e2, rem_split (by rw [← e2]; exact hd)]
      simp
    refine ⟨a1 ++ a2, b, er, h1, ?_⟩
    obtain ⟨_, u2⟩ := split_uniq hd e2 e'
    rcases h2 with ⟨a', f, ea, hf⟩ | ⟨na, nb⟩
    · rcases List.eq_nil_or_concat a2 with z | ⟨l, g, z⟩
      · subst z
        have q := List.append_inj' ea (by rfl)
        have ey : y = f := (List.cons.inj q.2).1
        have bad := g1 x (by rw [← u2]; simp)
        rw [frd_comm, ey, hf] at bad
        cases bad
      · rw [List.concat_eq_append] at z
        subst z
        have ea' : (a1 ++ y :: l) ++ [g] = a' ++ [f] := by rw [← ea]; simp
        have q := List.append_inj' ea' rfl
        have eg : g = f := (List.cons.inj q.2).1
        exact .inl ⟨a1 ++ l, g, by simp, by rw [eg]; exact hf⟩
    · exact .inr ⟨fun z hz => na z (by
        rcases List.mem_append.mp hz with w | w
        · exact List.mem_append_left _ w
        · exact List.mem_append_right _ (List.mem_cons_of_mem _ w)), nb⟩
  · obtain ⟨b1, b2, rfl⟩ := List.append_of_mem m
    have e2 : row = (a ++ x :: b1) ++ y :: b2 := by rw [e]; simp
    have er : rem row y = a ++ x :: (b1 ++ b2) := by
      rw [e2, rem_split (by rw [← e2]; exact hd)]
      simp
    refine ⟨a, b1 ++ b2, er, fun z hz => h1 z (by
        rcases List.mem_append.mp hz with w | w
        · exact List.mem_append_left _ w
        · exact List.mem_append_right _ (List.mem_cons_of_mem _ w)), ?_⟩
    rcases h2 with h | ⟨_, z⟩
    · exact .inl h
    · exact absurd z (by simp)
/-- one behind the other, loose ones that needn't stay go -/
inductive Red (ps : List (Str × Str)) (stay : List Str) : List Str → List Str → Prop where
  | done (row : List Str) : Red ps stay row row
  | go {row n : List Str} (x : Str) (h : LooseIn ps row x) (hs : x ∉ stay) (t : Red ps stay (rem row x) n) : Red ps stay row n
def Nf (ps : List (Str × Str)) (stay row : List Str) : Prop := ∀ x, LooseIn ps row x → x ∈ stay
theorem Red.swap {ps : List (Str × Str)} {stay row n : List Str} (h : Red ps stay row n) : row.Nodup → Nf ps stay n → ∀ x, LooseIn ps row x → x ∉ stay → Red ps stay (rem row x) n := by
  induction h with
  | done row => intro _ hn x hx hs; exact absurd (hn x hx) hs
  | @go row n y hy ys t ih =>
    intro hd hn x hx hs
    by_cases e : x = y
    · subst e
      exact t
    · have h1 := diamond hd hx hy e
      have h2 := diamond hd hy hx (fun z => e z.symm)
      have q := ih (rem_nodup hd) hn x h1 hs
      rw [rem_comm] at q
      exact .go y h2 ys q
theorem Red.trans {ps : List (Str × Str)} {stay row n m : List Str} (h : Red ps stay row n) : Red ps stay n m → Red ps stay row m := by
  induction h with
  | done row => exact fun q => q
  | go x hx hs _ ih => exact fun q => .go x hx hs (ih q)
/-! ### two more comparisons -/
section
variable {X : Cx}
end
theorem Goods.rem {xs : List Str} {x : Str} (h : Goods xs) : Goods (Lk.rem xs x) := h.filter
/-! ### promises -/
def spHostP : Sp := fun vs H Q _ => ∃ (d r : Addr) (ps : List (Str × Str)) (row : List Str) (who : Str), vs = [.ref d, .ref r, .str who] ∧ KnAt H d ps ∧ RowAt H r row ∧ row.length ≤ 100 ∧ who ∉ row ∧
  ∀ H', Same H H' → Q (lfpV (lastP (frd ps who) row)) H'
def spStood : Sp := fun vs H Q _ => ∃ (d r : Addr) (ps : List (Str × Str)) (row : List Str) (who : Str), vs = [.ref d, .ref r, .str who] ∧ KnAt H d ps ∧ RowAt H r row ∧ row.length ≤ 100 ∧ who ∉ row ∧
  ∀ t H', Same H H' → TupAt H' t ((comeTo ps row who).map V.str) → Q (.ref t) H'
end Lk
set_option maxRecDepth 100000
set_option maxHeartbeats 4000000
namespace Lk
open PySem PySem.Spec PyProof.Rows L2

/-! ### how many that came later stand ahead -/
abbrev B3N := Addr × Str × Nat
def PairsN (H : Hp) (qs : List B3N) : Prop := ∀ q ∈ qs, H q.1 = some (.tup [.str q.2.1, .int q.2.2])
theorem PairsN.same {H H' : Hp} {qs : List B3N} (s : Same H H') (h : PairsN H qs) : PairsN H' qs := fun b hb => s _ _ (h b hb)
theorem PairsN.oth {H H' : Hp} {b : Addr} {qs : List B3N} (s : Oth b H H') (hb : IsBox H b) (h : PairsN H qs) : PairsN H' qs := fun c hc => s _ _ (hb.ne_tup (h c hc)) (h c hc)
theorem PairsN.upd_ {H : Hp} {l : Addr} {ys : List V} {o' : HO} {qs : List B3N} (hl : H l = some (.lst ys)) (h : PairsN H qs) : PairsN (upd H l o') qs := fun c hc => (upd_ne (ne_of (h c hc) hl (fun z => nomatch z))).trans (h c hc)
theorem idx_at {order : List Str} {i : Nat} {x : Str} (hd : order.Nodup) (h : order[i]? = some x) : order.idxOf x = i := by
  have hx : x ∈ order := List.mem_of_getElem? h
  have hl : order.idxOf x < order.length := List.idxOf_lt_length_iff.mpr hx
  have e : order[order.idxOf x]? = some x := by
    rw [List.getElem?_eq_getElem hl, List.getElem_idxOf]
  exact nd_ix hd e h
/-! ### a walk's dict comprehension -/
theorem dc_it {J : It} {n : Nat} {G : Hp → Prop} {Y : Nat → Hp → V → Hp → Prop} (w : Walk J n G Y) {g : TG} {tt : TT} {tk tv : TE} {vs : List Nat} {σ : L2.St} {H1 : Hp} {D : Addr} {Qd : Hp → Prop} (Pv : Nat → Hp → Prop) (h0 : Pv 0 (upd H1 D (.dK []))) (hG : ∀ i H, i ≤ n → Pv i H → G H)
    (hs : ∀ i x H H', i < n → Pv i H → Y i H x H' → g x (wipe σ vs) H' fun σ2 H2 => wipe σ2 vs = wipe σ vs ∧ tt σ2 H2 fun b H3 =>
      if b = true then tk σ2 H3 fun y H4 => tv σ2 H4 fun z H5 => ∃ kvs k, y = kV k ∧ H5 D = some (.dK kvs) ∧ kvs.length < sizeLine ∧ Pv (i + 1) (upd H5 D (.dK (putK kvs k z))) else Pv (i + 1) H3) (hd : ∀ H, Pv n H → Qd H) :
    ∃ W : Nat → Nat → Hp → Prop, (∃ m, W 0 m (upd H1 D (.dK []))) ∧ ∀ i m H, W i m H →
      (J.stop i H ∧ Qd H) ∨ (J.go i H ∧ ∃ Nx : Hp → Prop, (∀ H', Nx H' → ∃ m', m' < m ∧ W (i + 1) m' H') ∧ ∀ x H', J.yld i H x H' → g x (wipe σ vs) H' fun σ2 H2 => wipe σ2 vs = wipe σ vs ∧ tt σ2 H2 fun b H3 =>
        if b = true then tk σ2 H3 fun y H4 => tv σ2 H4 fun z H5 => ∃ kvs k, y = kV k ∧ H5 D = some (.dK kvs) ∧ kvs.length < sizeLine ∧ Nx (upd H5 D (.dK (putK kvs k z))) else Nx H3) := by
  refine ⟨fun i m H => m = n - i ∧ i ≤ n ∧ Pv i H, ⟨n, by simp, Nat.zero_le _, h0⟩, fun i m H hW => ?_⟩
  obtain ⟨rfl, hi, p⟩ := hW
  have q := hG i H hi p
  by_cases hlt : i < n
  · exact .inr ⟨w.goes i H hlt q, Pv (i + 1), fun H' p' => ⟨n - (i + 1), by omega, rfl, hlt, p'⟩, fun x H' y => hs i x H H' hlt p (w.yields i H x H' hlt q y)⟩
  · have e : i = n := by omega
    subst e
    exact .inl ⟨w.stops H q, hd H p⟩
theorem putK_lenK {kvs : List (Key × V)} {k : Key} {v : V} : (putK kvs k v).length ≤ kvs.length + 1 := by
  unfold putK
  split
  · rw [List.length_map]
    omega
  · rw [List.length_append]
    exact Nat.le_refl _
def CameTo (order : List Str) (i : Nat) (kvs : List (Key × V)) : Prop := kvs.length ≤ i ∧ ∀ x ∈ order.take i, valV kvs (.inr x) = some (.int (order.idxOf x : Nat))
theorem came_step {order : List Str} {i : Nat} {o : Str} {kvs : List (Key × V)} (hd : order.Nodup) (ho : order[i]? = some o) (h : CameTo order i kvs) : CameTo order (i + 1) (putK kvs (.inr o) (.int (i : Nat))) := by
  obtain ⟨h1, h2⟩ := h
  have pl := putK_lenK (kvs := kvs) (k := .inr o) (v := V.int (i : Nat))
  refine ⟨by omega, fun x hx => ?_⟩
  rw [valV_put]
  by_cases c : x = o
  · subst c
    rw [if_pos rfl, idx_at hd ho]
  · rw [if_neg (fun z => c (Sum.inr.inj z))]
    refine h2 x ?_
    rw [List.take_add_one, ho] at hx
    rcases List.mem_append.mp hx with z | z
    · exact z
    · exact absurd (List.mem_singleton.mp z) c

/-! ### promises -/
def spRowOf : Sp := fun vs H Q _ => ∃ (a o : Addr) (ps : List (Str × Str)) (order : List Str), vs = [.ref a, .ref o] ∧ FrAt H a ps ∧ ps.length ≤ 1000 ∧ RowAt H o order ∧ order.Nodup ∧ order.length ≤ 100 ∧
  ∀ t H', Same H H' → TupAt H' t ((standOf ps order).map V.str) → Q (.ref t) H'
end Lk
set_option maxRecDepth 100000
set_option maxHeartbeats 4000000
namespace Lk
open PySem PySem.Spec PyProof.Rows L2

/-! ### rows, be they lists or tuples -/
theorem RowAt.sq {K : PySem.W.Frag} {H : Hp} {a : Addr} {row : List Str} (h : RowAt H a row) : SqL K H a (row.map V.str) ∨ SqT K H a (row.map V.str) := h.elim (fun e => .inr e.sq) (fun e => .inl (.inl (.inl e)))
theorem RowAt.at_ {H H' : Hp} {a : Addr} {row : List Str} (h : RowAt H a row) (e : H' a = H a) : RowAt H' a row := by
  rcases h with ⟨o, h1, h2⟩ | h
  · exact .inl ⟨o, h1, e.trans h2⟩
  · exact .inr (e.trans h)
theorem RowAt.some_ {H : Hp} {a : Addr} {row : List Str} (h : RowAt H a row) : ∃ o, H a = some o := h.elim (fun ⟨_, _, e⟩ => ⟨_, e⟩) (fun e => ⟨_, e⟩)
theorem same_eq {H H' : Hp} {a : Addr} {o : HO} (s : Same H H') (h : H a = some o) : H' a = H a := (s _ _ h).trans h.symm
theorem RowAt.kept {H H' : Hp} {a : Addr} {row : List Str} (h : RowAt H a row) (s : Same H H') : H' a = H a := by
  obtain ⟨o, e⟩ := h.some_
  exact same_eq s e
theorem RowAt.oth {H H' : Hp} {a b : Addr} {row : List Str} (h : RowAt H a row) (s : Oth b H H') (hb : IsBox H b) : RowAt H' a row := h.elim (fun e => .inl (e.oth s hb)) (fun e => .inr (s _ _ (hb.ne_strs e) e))
section
variable {X : Cx}
/-- a cut of a row -/
def rSlR : V → Option Int → Option Int → Hp → VK → Prop := fun x lo hi H Q => ∃ a row, x = .ref a ∧ RowAt H a row ∧ ∀ p H', Same H H' → RowAt H' p (cutL row lo hi) → Q (.ref p) H'
theorem sl_row : SlR X rSlR := by
  intro pins s σ H x v vl vu lo hi sl Q I rx hs pl pu h
  obtain ⟨a, row, rfl, hrow, q⟩ := h
  rcases hrow with e | e
  · refine sl_tupM pins s σ H _ v vl vu lo hi sl Q I rx hs pl pu ⟨a, _, rfl, e, fun t H' s' t' => q t H' s' (.inl ?_)⟩
    rw [cutV_map] at t'
    exact t'
  · refine sl_list pins s σ H _ v vl vu lo hi sl Q I rx hs pl pu ⟨a, _, rfl, .inl (.inl e), fun p hp => q p _ (same_upd hp) (.inr ?_)⟩
    rw [cutV_map]
    exact upd_same
/-- one of a row -/
def rIxR : R2 := fun x y H Q => ∃ (a : Addr) (row : List Str) (i : Int) (z : Str), x = .ref a ∧ y = .int i ∧ RowAt H a row ∧ atI (row.map V.str) i = some (.str z) ∧ Q (.str z) H
theorem ix_row : IxR X rIxR := by
  intro value slice pins s σ H x y v u Q I rx ry h hs
  obtain ⟨a, row, i, z, rfl, rfl, hrow, hz, q⟩ := h
  rcases hrow with e | e
  · exact ix_tup value slice pins s σ H _ _ v u Q I rx ry ⟨a, _, i, _, rfl, rfl, e.sq, hz, q⟩ hs
  · exact ix_list value slice pins s σ H _ _ v u Q I rx ry ⟨a, _, i, _, rfl, rfl, .inl (.inl e), hz, q⟩ hs
/-- for one in a row -/
def iRow (tl : TE) : TI := fun σ H R => tl σ H fun x H1 => ∃ a row, x = .ref a ∧ RowAt H1 a row ∧ ∀ (J : It) (G : Hp → Prop), Walk J (row.map V.str).length G (YAt (row.map V.str)) → (∀ H', H' a = H1 a → G H') → R J H1
theorem pi_row {tg l : Expr} {tl : TE} (hl : PE X l tl) : PI X tg l (iRow tl) := by
  constructor
  intro pins s σ H R I h
  refine thn (hl.run pins s σ H _ I h) ?_
  rintro v s1 ⟨x, H1, I1, r1, a, row, rfl, hrow, q⟩
  cases r1
  rcases hrow with e | e
  · have sq : SqT X.K H1 a (row.map V.str) := e.sq
    obtain ⟨its, rv, p, hz⟩ := I1.tuple sq
    refine wpAny_pyIter_tuple (show s1.heap.IsTuple a its.toArray from p)
      ⟨s1.heap.objs.size, [s1.heap.objs.size], _, _, H1, rfl, I1.kept (t' := s1.toks) (fun _ _ g => Heap.get?_push_of_some _ g), turn_tuple a _, ⟨_, Heap.get?_push_size _ rfl, rfl, rfl⟩, ?_, q _ _ walk_tup ?_⟩
    · intro c hc
      rw [List.mem_singleton.mp hc]
      exact I1.fpOk (Nat.le_refl _) (I1.hok.fresh (Nat.le_refl _))
    · intro H' eq
      obtain ⟨o, h1, h2⟩ := e
      exact TupAt.sq (show TupAt H' a (row.map V.str) from ⟨o, h1, eq.trans h2⟩)
  · have sq : SqL X.K H1 a (row.map V.str) := .inl (.inl e)
    obtain ⟨its, rv, p, hz⟩ := I1.list sq
    refine wpAny_pyIter_list p.isList
      ⟨s1.heap.objs.size, [s1.heap.objs.size], _, _, H1, rfl, I1.kept (t' := s1.toks) (fun _ _ g => Heap.get?_push_of_some _ g), turn_list a _, ⟨_, Heap.get?_push_size _ rfl, rfl, rfl⟩, ?_, q _ _ walk_list ?_⟩
    · intro c hc
      rw [List.mem_singleton.mp hc]
      exact I1.fpOk (Nat.le_refl _) (I1.hok.fresh (Nat.le_refl _))
    · exact fun H' eq => .inl (.inl (eq.trans e))
/-- for place, one in enumerate(row), row a name -/
def iRowE (i : Nat) : TI := fun σ H R => ∃ a row, σ[i]? = some (some (.ref a)) ∧ RowAt H a row ∧ ∀ (J : It) (G : Hp → Prop), Walk J (row.map V.str).length G (YPair (fun k => some (.int (k : Nat))) (fun k => (row.map V.str)[k]?)) → (∀ H', H' a = H a → G H') → R J H
theorem pi_rowE {elts : List Expr} {kk : Nat} {p pos tpos : Pos} {e : Expr} {i : Nat} (hg : Gl X "enumerate") (hm : X.mg "enumerate" = none) (he : PE X e (tVar i)) (hs : starEach [e] X.env = [(false, eval e X.env)] := by rfl) :
    PI X (.Tuple elts kk tpos) (.Call (.Name "enumerate" p) [e] [] pos) (iRowE i) := by
  constructor
  intro pins s σ H R I h
  obtain ⟨a, row, hi, hrow, q⟩ := h
  rcases hrow with t | t
  · refine (pi_enumT (pos := pos) (tpos := tpos) (elts := elts) (kk := kk) hg hm (pa_cons he pa_nil hs) hs).run pins s σ H R I ⟨.ref a, hi, a, _, rfl, t.sq, q _ _ walk_enumT ?_⟩
    intro H' eq
    obtain ⟨o, h1, h2⟩ := t
    exact TupAt.sq (show TupAt H' a (row.map V.str) from ⟨o, h1, eq.trans h2⟩)
  · exact (pi_enum (pos := pos) (tpos := tpos) (elts := elts) (kk := kk) hg hm (pa_cons he pa_nil hs) hs).run pins s σ H R I ⟨.ref a, hi, a, _, rfl, .inl (.inl t), q _ _ walk_enum fun H' eq => .inl (.inl (eq.trans t))⟩
theorem call_listRow : CallR X (.type "list") (fun xs H Q => ∃ a row, xs = [.ref a] ∧ RowAt H a row ∧ ∀ p, H p = none → Q (.ref p) (upd H p (.lst (row.map V.str)))) := by
  intro pins s σ H xs us Q I r h
  obtain ⟨a, row, rfl, hrow, q⟩ := h
  exact call_list_of pins s σ H _ us Q I r ⟨a, _, rfl, hrow.sq, q⟩
end

/-! ### list comprehensions that leave some out -/
theorem lc_filt {J : It} {G : Hp → Prop} {Y : Nat → Hp → V → Hp → Prop} {xs : List Str} (w : Walk J (xs.map V.str).length G Y) {g : TG} {tt : TT} {te : TE} {vs : List Nat} {σ : L2.St} {H1 : Hp} {D : Addr} {Qd : Hp → Prop} (p : Str → Bool) (hD : H1 D = none) (hG : ∀ H', Same H1 H' → G H')
    (hs : ∀ (i : Nat) (x : Str) (v : V) (H H' : Hp), xs[i]? = some x → Same H1 H → Y i H v H' → Same H H' ∧ g v (wipe σ vs) H' fun σ2 H2 => wipe σ2 vs = wipe σ vs ∧ tt σ2 H2 fun b H3 => b = p x ∧ Same H H3 ∧ (b = true → te σ2 H3 fun y H4 => y = .str x ∧ Same H3 H4))
    (hd : ∀ H, Same H1 H → H D = some (.lst ((xs.filter p).map V.str)) → Qd H) (hn : xs.length ≤ 1000)
    (mono : ∀ (v : V) (H : Hp) (A B : L2.St → Hp → Prop), (∀ σ2 H2, A σ2 H2 → B σ2 H2) → g v (wipe σ vs) H A → g v (wipe σ vs) H B)
    (monoT : ∀ (σ2 : L2.St) (H : Hp) (A B : Bool → Hp → Prop), (∀ b H2, A b H2 → B b H2) → tt σ2 H A → tt σ2 H B)
    (monoE : ∀ (σ2 : L2.St) (H : Hp) (A B : V → Hp → Prop), (∀ b H2, A b H2 → B b H2) → te σ2 H A → te σ2 H B) :
    ∃ W : Nat → Nat → Hp → Prop, (∃ m, W 0 m (upd H1 D (.lst []))) ∧ ∀ i m H, W i m H →
      (J.stop i H ∧ Qd H) ∨ (J.go i H ∧ ∃ Nx : Hp → Prop, (∀ H', Nx H' → ∃ m', m' < m ∧ W (i + 1) m' H') ∧ ∀ x H', J.yld i H x H' → g x (wipe σ vs) H' fun σ2 H2 => wipe σ2 vs = wipe σ vs ∧ tt σ2 H2 fun b H3 =>
        if b = true then te σ2 H3 fun y H4 => ∃ acc, H4 D = some (.lst acc) ∧ acc.length < sizeLine ∧ Nx (upd H4 D (.lst (acc ++ [y]))) else Nx H3) := by
  refine lc_it w (fun i H' => Same H1 H' ∧ H' D = some (.lst (((xs.take i).filter p).map V.str))) ⟨same_upd hD, upd_same⟩ (fun i H' _ h => hG H' h.1) ?_ ?_
  · rintro i v H H' hi ⟨s1, d1⟩ y
    rw [List.length_map] at hi
    obtain ⟨x, hx⟩ : ∃ x, xs[i]? = some x := ⟨xs[i], List.getElem?_eq_getElem hi⟩
    obtain ⟨s2, h⟩ := hs i x v H H' hx s1 y
    have ft : (xs.take (i + 1)).filter p = (xs.take i).filter p ++ if p x = true then [x] else [] := by
      rw [List.take_add_one, hx, List.filter_append]
      show _ ++ List.filter p [x] = _
      rw [List.filter_cons, List.filter_nil]
    refine mono v H' _ _ (fun σ2 H2 a => ⟨a.1, monoT σ2 H2 _ _ (fun b H3 z => ?_) a.2⟩) h
    obtain ⟨eb, s3, ht⟩ := z
    subst eb
    refine ite2 (fun c => ?_) (fun c => ?_)
    · rw [if_pos c] at ft
      refine monoE σ2 H3 _ _ (fun y' H4 u => ?_) (ht c)
      obtain ⟨rfl, s4⟩ := u
      refine ⟨_, s4 _ _ (s3 _ _ d1), ?_, fun b o e => ?_, ?_⟩
      · rw [List.length_map]
        exact small1000 (Nat.le_trans (List.length_filter_le _ _) (by rw [List.length_take]; omega))
      · rw [upd_ne (ne_of_none e hD)]
        exact s4 _ _ (s3 _ _ (s1 _ _ e))
      · rw [upd_same, ft, List.map_append]
        rfl
    · rw [if_neg c, List.append_nil] at ft
      exact ⟨s1.trans s3, by rw [ft]; exact s3 _ _ d1⟩
  · rintro H ⟨s1, d1⟩
    rw [List.length_map, List.take_of_length_le (Nat.le_refl _)] at d1
    exact hd H s1 d1
end Lk
set_option maxRecDepth 100000
set_option maxHeartbeats 4000000
namespace Lk
open PySem PySem.Spec PyProof.Rows L2

/-! ### small things that can be written -/
structure Fit (n w : Nat) (d : PyData) : Prop where
  sh : d.showable = true
  nd : d.hasDict = false
  dp : d.depth ≤ n
  lv : d.leavesShort 13 = true
  wt : d.weight ≤ w
theorem Fit.mono {n w n' w' : Nat} {d : PyData} (h : Fit n w d) (h1 : n ≤ n') (h2 : w ≤ w') : Fit n' w' d := ⟨h.sh, h.nd, Nat.le_trans h.dp h1, h.lv, Nat.le_trans h.wt h2⟩
theorem Fit.fits {n w : Nat} {d : PyData} (h : Fit n w d) (hw : w ≤ 1048576) : d.shown.length ≤ sizeLine := PyData.shown_fits (B := 13) (by decide) (by decide) h.lv (Nat.le_trans h.wt (Nat.le_trans hw (by decide)))
theorem fit_bool (b : Bool) : Fit 0 0 (.bool b) := ⟨by simp only [PyData.showable], by simp only [PyData.hasDict], by simp only [PyData.depth, Nat.le_refl], by simp only [PyData.leavesShort], by simp only [PyData.weight, Nat.le_refl]⟩
theorem log2_40 {n : Nat} (h : n < 10 ^ 12) : n.log2 < 40 := by
  by_cases z : n = 0
  · subst z
    decide
  · exact (Nat.log2_lt z).mpr (Nat.lt_of_lt_of_le h (by decide))
theorem fit_int {i : Int} (h : i.natAbs < 10 ^ 12) : Fit 0 40 (.int i) := by
  have l := log2_40 h
  refine ⟨?_, by simp only [PyData.hasDict], by simp only [PyData.depth, Nat.le_refl], ?_, ?_⟩
  · simp only [PyData.showable, decide_eq_true_eq]
    omega
  · simp only [PyData.leavesShort, decide_eq_true_eq]
    exact PyData.shown_int_le h
  · simp only [PyData.weight]
    split <;> omega
theorem fit_all {n w : Nat} : ∀ {ds : List PyData}, (∀ d ∈ ds, Fit n w d) → PyData.showableAll ds = true ∧ PyData.hasDictAll ds = false ∧ PyData.depthAll ds ≤ n ∧ PyData.leavesShortAll 13 ds = true ∧ PyData.weightAll ds ≤ (w + 1) * ds.length
  | [], _ => ⟨by simp only [PyData.showableAll], by simp only [PyData.hasDictAll], by simp only [PyData.depthAll]; exact Nat.zero_le _, by simp only [PyData.leavesShortAll], by simp only [PyData.weightAll]; exact Nat.zero_le _⟩
  | d :: ds, h => by
    obtain ⟨i1, i2, i3, i4, i5⟩ := fit_all (ds := ds) fun e he => h e (List.mem_cons_of_mem _ he)
    have f := h d List.mem_cons_self
    refine ⟨?_, ?_, ?_, ?_, ?_⟩
    · simp only [PyData.showableAll, f.sh, i1, Bool.and_self]
    · simp only [PyData.hasDictAll, f.nd, i2, Bool.or_self]
    · simp only [PyData.depthAll]
      exact Nat.max_le.mpr ⟨f.dp, i3⟩
    · simp only [PyData.leavesShortAll, f.lv, i4, Bool.and_self]
    · simp only [PyData.weightAll, List.length_cons]
      rw [Nat.mul_add, Nat.mul_one]
      have := f.wt
      omega
theorem fit_list {n w m : Nat} {ds : List PyData} (h : ∀ d ∈ ds, Fit n w d) (hm : ds.length ≤ m) : Fit (n + 1) ((w + 1) * m) (.list ds) := by
  obtain ⟨i1, i2, i3, i4, i5⟩ := fit_all h
  refine ⟨by simp only [PyData.showable, i1], by simp only [PyData.hasDict, i2], by simp only [PyData.depth]; omega, by simp only [PyData.leavesShort, i4], ?_⟩
  simp only [PyData.weight]
  exact Nat.le_trans i5 (Nat.mul_le_mul_left _ hm)
/-- what is written of a thing -/
def Shown (K : PySem.W.Frag) (H : Hp) (x : V) (d : PyData) : Prop := (∃ a, x = .ref a) ∧ Dp K H x d ∧ ∃ n w, Fit n w d ∧ n ≤ 60 ∧ w ≤ 1048576
theorem Shown.mk_ {K : PySem.W.Frag} {H : Hp} {a : Addr} {d : PyData} {n w : Nat} (h : Dp K H (.ref a) d) (f : Fit n w d) (h1 : n ≤ 60 := by decide) (h2 : w ≤ 1048576 := by decide) : Shown K H (.ref a) d := ⟨⟨a, rfl⟩, h, n, w, f, h1, h2⟩
section
variable {X : Cx}
def rReprS (K : PySem.W.Frag) : List V → Hp → VK → Prop := fun xs H Q => ∃ (x : V) (d : PyData), xs = [x] ∧ Shown K H x d ∧ Q (.str d.shown) H
theorem call_reprS {k : Nat} (z : Room k X.A) : CallR X (.builtin "repr") (rReprS X.K) := by
  intro pins s σ H xs us Q I r h
  obtain ⟨x, d, rfl, ⟨⟨a, rfl⟩, hd, n, w, f, h1, h2⟩, q⟩ := h
  exact call_repr z pins s σ H _ us Q I r ⟨a, d, rfl, hd, f.sh, f.nd, Nat.le_trans f.dp h1, f.fits h2, q⟩
end
def spSameR (K : PySem.W.Frag) : Sp := fun vs H Q _ => ∃ (x y : V) (d : PyData), vs = [x, y] ∧ Shown K H x d ∧ Shown K H y d ∧ ∀ H', Same H H' → Q (.bl true) H'
theorem dpAll_map {α : Type} {K : PySem.W.Frag} {H : Hp} (f : α → V) (g : α → PyData) : ∀ {xs : List α}, (∀ x ∈ xs, Dp K H (f x) (g x)) → DpAll K H (xs.map f) (xs.map g)
  | [], _ => .nil
  | x :: xs, h => .cons (h x List.mem_cons_self) (dpAll_map f g fun y hy => h y (List.mem_cons_of_mem _ hy))
/-- friends, as they are written -/
def palsD (ps : List (Str × Str)) : PyData := .tuple (ps.map fun p => .tuple [.str p.1, .str p.2])
theorem PalsAt.dp {K : PySem.W.Frag} {H : Hp} {a : Addr} {ps : List (Str × Str)} (h : PalsAt H a ps) : Dp K H (.ref a) (palsD ps) := by
  obtain ⟨bs, h1, h2, rfl⟩ := h
  unfold palsD
  rw [List.map_map]
  refine .tup (.inl (.inl h1)) (dpAll_map _ _ fun b hb => ?_)
  exact .tup (.inl (.inl (h2 b hb))) (.cons (.str _) (.cons (.str _) .nil))
theorem fitl_nil {n w : Nat} : ∀ d ∈ ([] : List PyData), Fit n w d := fun _ h => nomatch h
theorem fitl_cons {n w : Nat} {e : PyData} {es : List PyData} (h : Fit n w e) (t : ∀ d ∈ es, Fit n w d) : ∀ d ∈ e :: es, Fit n w d := fun d hd => (List.mem_cons.mp hd).elim (fun z => z ▸ h) (t d)
end Lk
set_option maxRecDepth 100000
set_option maxHeartbeats 4000000
namespace Lk
open PySem PySem.Spec PyProof.Rows L2

/-! ### neighbours exchanged -/
def swapL (l : List Str) (i : Nat) (x y : Str) : List Str := l.take i ++ [y, x] ++ l.drop (i + 2)
theorem split2 {l : List Str} {i : Nat} {x y : Str} (hx : l[i]? = some x) (hy : l[i + 1]? = some y) : l = l.take i ++ [x, y] ++ l.drop (i + 2) := by
  have hi : i + 1 < l.length := (List.getElem?_eq_some_iff.mp hy).1
  have e1 : l.drop i = x :: l.drop (i + 1) := by
    rw [List.drop_eq_getElem_cons (by omega)]
    congr 1
    exact (List.getElem?_eq_some_iff.mp hx).2
  have e2 : l.drop (i + 1) = y :: l.drop (i + 2) := by
    rw [List.drop_eq_getElem_cons hi]
    congr 1
    exact (List.getElem?_eq_some_iff.mp hy).2
  have e3 := (List.take_append_drop i l).symm
  rw [e1, e2] at e3
  rw [List.append_assoc]
  exact e3
theorem swap_perm {l : List Str} {i : Nat} {x y : Str} (hx : l[i]? = some x) (hy : l[i + 1]? = some y) : (swapL l i x y).Perm l := by
  have e := split2 hx hy
  have p : (swapL l i x y).Perm (l.take i ++ [x, y] ++ l.drop (i + 2)) := by
    unfold swapL
    refine List.Perm.append_right _ (List.Perm.append_left _ ?_)
    exact List.Perm.swap x y []
  rw [← e] at p
  exact p
theorem cut2 {l : List Str} {i : Nat} {x y : Str} (hx : l[i]? = some x) (hy : l[i + 1]? = some y) : cutL l (some (i : Int)) (some ((i : Int) + 2)) = [x, y] := by
  have hi : i + 1 < l.length := (List.getElem?_eq_some_iff.mp hy).1
  unfold cutL
  rw [HT.sIx_nat, show ((i : Int) + 2) = ((i + 2 : Nat) : Int) by omega, HT.sIx_nat, Nat.min_eq_left (by omega), Nat.min_eq_left (by omega), show i + 2 - i = 2 by omega]
  have e1 : l.drop i = x :: l.drop (i + 1) := by
    rw [List.drop_eq_getElem_cons (by omega)]
    congr 1
    exact (List.getElem?_eq_some_iff.mp hx).2
  have e2 : l.drop (i + 1) = y :: l.drop (i + 2) := by
    rw [List.drop_eq_getElem_cons hi]
    congr 1
    exact (List.getElem?_eq_some_iff.mp hy).2
  rw [e1, e2]
  rfl

/-! ### how many pairs stand the other way about -/
theorem idxOf_ne {x y : Str} {l : List Str} (h : x ≠ y) : (x :: l).idxOf y = l.idxOf y + 1 := by
  rw [List.idxOf_cons]
  have : (x == y) = false := beq_eq_false_iff_ne.mpr h
  rw [this]
  rfl
theorem nodup_rev {l : List Str} (h : l.Nodup) : l.reverse.Nodup := (List.reverse_perm l).nodup_iff.mpr h
def cntL (f : Str → Nat) : List Str → Nat
  | [] => 0
  | x :: l => (l.filter fun y => decide (f y < f x)).length + cntL f l
theorem cntL_app (f : Str → Nat) (x : Str) : ∀ l : List Str, cntL f (l ++ [x]) = cntL f l + (l.filter fun y => decide (f x < f y)).length
  | [] => rfl
  | a :: l => by
    show ((l ++ [x]).filter _).length + cntL f (l ++ [x]) = (l.filter _).length + cntL f l + ((a :: l).filter _).length
    rw [cntL_app f x l, List.filter_append, List.length_append, List.filter_cons (xs := l)]
    by_cases c : f x < f a
    · simp [c]
      omega
    · simp [c]
      omega
theorem cntL_take {f : Str → Nat} {l : List Str} {i : Nat} {x : Str} (h : l[i]? = some x) : cntL f (l.take (i + 1)) = cntL f (l.take i) + ((l.take i).filter fun y => decide (f x < f y)).length := by
  rw [List.take_add_one, h]
  exact cntL_app f x (l.take i)
theorem cntL_drop {f : Str → Nat} {l : List Str} {i : Nat} {x : Str} (h : l[i]? = some x) : cntL f (l.drop i) = ((l.drop (i + 1)).filter fun y => decide (f y < f x)).length + cntL f (l.drop (i + 1)) := by
  have hi : i < l.length := (List.getElem?_eq_some_iff.mp h).1
  rw [List.drop_eq_getElem_cons hi, (List.getElem?_eq_some_iff.mp h).2]
  rfl
/-- all pairs, each with the first one ahead -/
def prs : List Str → List (Str × Str)
  | [] => []
  | x :: l => l.map (fun y => (x, y)) ++ prs l
theorem cntL_prs (f : Str → Nat) : ∀ l : List Str, cntL f l = ((prs l).filter fun p => decide (f p.2 < f p.1)).length
  | [] => rfl
  | x :: l => by
    show (l.filter _).length + cntL f l = ((l.map (fun y => (x, y)) ++ prs l).filter _).length
    rw [List.filter_append, List.length_append, cntL_prs f l, List.filter_map, List.length_map]
    rfl
theorem prs_mem : ∀ {l : List Str} {x y : Str}, l.Nodup → ((x, y) ∈ prs l ↔ x ∈ l ∧ y ∈ l ∧ l.idxOf x < l.idxOf y)
  | [], x, y, _ => by simp [prs]
  | a :: l, x, y, hd => by
    obtain ⟨na, hl⟩ := List.nodup_cons.mp hd
    have ih := prs_mem (x := x) (y := y) hl
    show (x, y) ∈ l.map (fun y => (a, y)) ++ prs l ↔ _
    rw [List.mem_append, ih]
    by_cases ex : x = a
    · subst ex
      have e0 : (x :: l).idxOf x = 0 := by simp
      rw [e0]
      constructor
      · rintro (h | h)
        · obtain ⟨z, hz, e⟩ := List.mem_map.mp h
          cases e
          have ne : x ≠ y := fun z => na (z ▸ hz)
          refine ⟨by simp, List.mem_cons_of_mem _ hz, ?_⟩
          rw [idxOf_ne ne]
          omega
        · exact absurd h.1 na
      · rintro ⟨_, h2, h3⟩
        refine .inl (List.mem_map.mpr ⟨y, ?_, rfl⟩)
        rcases List.mem_cons.mp h2 with z | z
        · subst z
          rw [e0] at h3
          omega
        · exact z
    · have n1 : ¬ (x, y) ∈ l.map (fun y => (a, y)) := fun h => by
        obtain ⟨z, _, e⟩ := List.mem_map.mp h
        exact ex (Prod.mk.inj e).1.symm
      constructor
      · rintro (h | ⟨h1, h2, h3⟩)
        · exact absurd h n1
        · have ey : a ≠ y := fun z => na (z ▸ h2)
          refine ⟨List.mem_cons_of_mem _ h1, List.mem_cons_of_mem _ h2, ?_⟩
          rw [idxOf_ne (Ne.symm ex), idxOf_ne ey]
          omega
      · rintro ⟨h1, h2, h3⟩
        have h1' : x ∈ l := (List.mem_cons.mp h1).resolve_left ex
        rw [idxOf_ne (Ne.symm ex)] at h3
        have ey : a ≠ y := fun z => by
          subst z
          simp at h3
        rw [idxOf_ne ey] at h3
        exact .inr ⟨h1', (List.mem_cons.mp h2).resolve_left (Ne.symm ey), by omega⟩
theorem prs_nodup : ∀ {l : List Str}, l.Nodup → (prs l).Nodup
  | [], _ => List.nodup_nil
  | a :: l, hd => by
    obtain ⟨na, hl⟩ := List.nodup_cons.mp hd
    show (l.map (fun y => (a, y)) ++ prs l).Nodup
    refine List.nodup_append.mpr ⟨?_, prs_nodup hl, ?_⟩
    · exact List.Pairwise.map _ (fun _ _ h e => h (Prod.mk.inj e).2) hl
    · rintro p hp q hq rfl
      obtain ⟨z, hz, e⟩ := List.mem_map.mp hp
      subst e
      exact na ((prs_mem hl).mp hq).1
theorem prs_len : ∀ l : List Str, 2 * (prs l).length = l.length * (l.length - 1)
  | [] => rfl
  | a :: l => by
    show 2 * (l.map (fun y => (a, y)) ++ prs l).length = _
    have ih := prs_len l
    rw [List.length_append, List.length_map, List.length_cons, Nat.mul_add, ih]
    show 2 * l.length + l.length * (l.length - 1) = (l.length + 1) * l.length
    cases l.length with
    | zero => rfl
    | succ n =>
      show 2 * (n + 1) + (n + 1) * n = (n + 1 + 1) * (n + 1)
      simp only [Nat.add_mul, Nat.mul_add, Nat.one_mul, Nat.mul_one]
      omega
theorem cnt_swap {one other : List Str} (h1 : one.Nodup) (pm : one.Perm other) : cntL (other.idxOf ·) one = cntL (one.idxOf ·) other := by
  have h2 : other.Nodup := pm.nodup_iff.mp h1
  rw [cntL_prs, cntL_prs]
  have n1 : ((prs one).filter fun p => decide (other.idxOf p.2 < other.idxOf p.1)).Nodup := (prs_nodup h1).sublist List.filter_sublist
  have n2 : ((prs other).filter fun p => decide (one.idxOf p.2 < one.idxOf p.1)).Nodup := (prs_nodup h2).sublist List.filter_sublist
  have p : (((prs one).filter fun p => decide (other.idxOf p.2 < other.idxOf p.1)).map Prod.swap).Perm ((prs other).filter fun p => decide (one.idxOf p.2 < one.idxOf p.1)) := by
    refine (List.perm_ext_iff_of_nodup ?_ n2).mpr ?_
    · refine List.Pairwise.map _ (fun a b h e => h ?_) n1
      have := congrArg Prod.swap e
      simpa using this
    · rintro ⟨x, y⟩
      rw [List.mem_map, List.mem_filter, prs_mem h2, decide_eq_true_eq]
      constructor
      · rintro ⟨⟨u, v⟩, h, e⟩
        have eu : v = x := (Prod.mk.inj e).1
        have ev : u = y := (Prod.mk.inj e).2
        subst eu ev
        obtain ⟨ha, hb⟩ := List.mem_filter.mp h
        obtain ⟨c1, c2, c3⟩ := (prs_mem h1).mp ha
        exact ⟨⟨pm.mem_iff.mp c2, pm.mem_iff.mp c1, of_decide_eq_true hb⟩, c3⟩
      · rintro ⟨⟨c1, c2, c3⟩, c4⟩
        refine ⟨(y, x), List.mem_filter.mpr ⟨(prs_mem h1).mpr ⟨pm.mem_iff.mpr c2, pm.mem_iff.mpr c1, c4⟩, decide_eq_true c3⟩, rfl⟩
  have := p.length_eq
  rw [List.length_map] at this
  exact this
theorem cnt_self {l : List Str} (h : l.Nodup) : cntL (l.idxOf ·) l = 0 := by
  rw [cntL_prs, List.length_eq_zero_iff, List.filter_eq_nil_iff]
  rintro ⟨x, y⟩ hm c
  have := ((prs_mem h).mp hm).2.2
  have c' := of_decide_eq_true c
  show False
  have c'' : l.idxOf y < l.idxOf x := c'
  omega
theorem cnt_rev {l : List Str} (h : l.Nodup) : 2 * cntL (l.reverse.idxOf ·) l = l.length * (l.length - 1) := by
  rw [cntL_prs, ← prs_len l]
  congr 2
  rw [List.filter_eq_self]
  rintro ⟨x, y⟩ hm
  obtain ⟨h1, h2, h3⟩ := (prs_mem h).mp hm
  have at_ : ∀ z ∈ l, l.reverse.idxOf z = l.length - 1 - l.idxOf z := by
    intro z hz
    have hl : l.idxOf z < l.length := List.idxOf_lt_length_iff.mpr hz
    refine idx_at (nodup_rev h) ?_
    rw [List.getElem?_reverse (by omega), show l.length - 1 - (l.length - 1 - l.idxOf z) = l.idxOf z by omega, List.getElem?_eq_getElem hl, List.getElem_idxOf]
  have lx : l.idxOf x < l.length := List.idxOf_lt_length_iff.mpr h1
  have ly : l.idxOf y < l.length := List.idxOf_lt_length_iff.mpr h2
  refine decide_eq_true ?_
  show l.reverse.idxOf y < l.reverse.idxOf x
  rw [at_ x h1, at_ y h2]
  omega
theorem cnt_le (f : Str → Nat) : ∀ l : List Str, cntL f l ≤ l.length * l.length
  | [] => Nat.le_refl _
  | x :: l => by
    have ih := cnt_le f l
    have q := List.length_filter_le (fun y => decide (f y < f x)) l
    show (l.filter _).length + cntL f l ≤ (l.length + 1) * (l.length + 1)
    simp only [Nat.add_mul, Nat.mul_add, Nat.one_mul, Nat.mul_one]
    omega

/-! ### promises -/
def spExch : Sp := fun vs H Q _ => ∃ (o : Addr) (order : List Str) (i : Nat) (x y : Str), vs = [.ref o, .int i] ∧ RowAt H o order ∧ order.length ≤ 100 ∧ order[i]? = some x ∧ order[i + 1]? = some y ∧
  ∀ p H', Same H H' → H p = none → H' p = some (.lst ((swapL order i x y).map V.str)) → Q (.ref p) H'
def spMayEx : Sp := fun vs H Q _ => ∃ (a o : Addr) (ps : List (Str × Str)) (order : List Str) (i : Nat) (x y : Str), vs = [.ref a, .ref o, .int i] ∧ FrAt H a ps ∧ ps.length ≤ 1000 ∧ RowAt H o order ∧ Goods order ∧ order.Nodup ∧ order.length ≤ 100 ∧ order[i]? = some x ∧ order[i + 1]? = some y ∧
  ∀ H', Same H H' → Q (.bl (decide (standOf ps order = standOf ps (swapL order i x y)))) H'
def spPlaces : Sp := fun vs H Q _ => ∃ (o : Addr) (order : List Str), vs = [.ref o] ∧ RowAt H o order ∧ order.Nodup ∧ order.length ≤ 100 ∧
  ∀ D kvs H', Same H H' → H D = none → H' D = some (.dK kvs) → CameTo order order.length kvs → Q (.ref D) H'
def spApart : Sp := fun vs H Q _ => ∃ (a o : Addr) (one other : List Str), vs = [.ref a, .ref o] ∧ RowAt H a one ∧ RowAt H o other ∧ other.Nodup ∧ one.Perm other ∧ one.length ≤ 100 ∧
  ∀ H', Same H H' → Q (.int (cntL (other.idxOf ·) one : Nat)) H'
/-- people, friends, an order, its row -/
def spWorld : Sp := fun vs H Q _ => ∃ (b : Addr) (least utmost : Nat), vs = [.ref b, .int least, .int utmost] ∧ IsBox H b ∧ least ≤ utmost ∧ utmost ≤ 26 ∧
  ∀ (T a l o t : Addr) (bs : List B3) (pool order : List Str) (H' : Hp), Oth b H H' → IsBox H' b → H' T = some (.tup [.ref a, .ref l, .ref o, .ref t]) → H a = none → H l = none → H o = none → H' a = some (.tup (refs bs)) → PairsAt H' bs → (∃ cs : List B3, bs = cs.mergeSort (PySem.W.dataLe false encP)) → H' l = some (.lst (pool.map V.str)) → H' o = some (.lst (order.map V.str)) →
    TupAt H' t ((standOf (bs.map (·.2)) order).map V.str) → l ≠ o → pool.Nodup → (∀ x ∈ pool, NameOk x) → order.Perm pool → OfPool pool (bs.map (·.2)) → bs.length ≤ 1000 → least ≤ pool.length → pool.length ≤ utmost → Q (.ref T) H'
end Lk
set_option maxRecDepth 100000
set_option maxHeartbeats 4000000
namespace Lk
open PySem PySem.Spec PyProof.Rows L2
def topS (i : Nat) : Stmt := PySem.Challenge.pw_letinrow_k18_neighbours_exchanged.main.body.getD i (.Pass ⟨0, 0, 0, 0⟩)
section
variable {P : Program} {w : World} {K : PySem.W.Frag} {mg : Str → Option Value} {base : Heap}
/-! ### _law_take -/
abbrev sTake : Stmt := topS 17
theorem scTake : FnScope ["_law_box_here", "_law_many", "_law_found", "_law_blend"] ["_law_box_here", "_law_many"] (defScope sTake) := ⟨rfl, rfl, rfl, by decide +kernel, rfl, by decide +kernel, by decide +kernel⟩
theorem ok_take {f : Addr} {fd : FuncData} (F : Fun K "_law_take" "_law_take" sTake f fd) : FnOk P w K mg base CX0 1 f fd ["_law_box_here", "_law_many"] spTake := by
  refine fok F scTake (fun vs H Q E h => ?_) (fun cdv A outer s H vs Q E hr h => ?_)
  · obtain ⟨b, many, rfl, _⟩ := h
    rfl
  obtain ⟨b, many, rfl, ⟨x, y, z, hb⟩, h0, h1, q⟩ := h
  refine ⟨_, pss_cons (ps_if (pt_cmpR op_gt (pe_ix ix_list (pv 0) pe_int (fun _ _ => rfl)) pe_int (nomark _))
      (pss_cons (ps_set (i := 2) scTake.nd rfl (.inl rfl) (pe_op op_mod (pe_ix ix_list (pv 0) pe_int (fun _ _ => rfl)) (pv 1)))
      (pss_cons (ps_asg (pe_op op_fdiv (pe_ix ix_list (pv 0) pe_int (fun _ _ => rfl)) (pv 1)) (pg_sub (pv 0) pe_int set_list))
      (pss_one (ps_ret (pv 2))))) pss_nil)
    (pss_cons (ps_asg (pe_op op_add (pe_ix ix_list (pv 0) pe_int (fun _ _ => rfl)) pe_int) (pg_sub (pv 0) pe_int set_list))
    (pss_cons (ps_set (i := 3) scTake.nd rfl (.inl rfl) (pe_op op_mod (pe_op op_add (pe_ix ix_list (pv 0) pe_int (fun _ _ => rfl)) (pe_op op_mul pe_int (pe_ix ix_list (pv 0) pe_int (fun _ _ => rfl)))) pe_int))
    (pss_cons (ps_set (i := 3) scTake.nd rfl (.inl rfl) (pe_op op_mod (pe_op op_add (pe_op op_add (pe_op op_mul (pv 3) (pv 3)) (pe_op op_mul pe_int (pe_ix ix_list (pv 0) pe_int (fun _ _ => rfl)))) pe_int) pe_int))
    (pss_cons (ps_set (i := 3) scTake.nd rfl (.inl rfl) (pe_op op_mod (pe_op op_add (pe_op op_mul (pv 3) (pe_op op_add (pe_op op_fdiv (pv 3) pe_int) pe_int)) (pe_ix ix_list (pv 0) pe_int (fun _ _ => rfl))) pe_int))
    (pss_one (ps_ret (pe_op op_mod (pe_op op_fdiv (pv 3) pe_int) (pv 1)))))))), ?_⟩
  have hL : SqL K H b [.int x, .int y, .int z] := .inl (.inl hb)
  refine ⟨.ref b, rfl, b, _, 0, _, rfl, rfl, hL, atI_nat (j := 0) rfl, _, _, rfl, rfl, _, rfl, ?_⟩
  refine ite2 (fun c => ?_) (fun c => ?_)
  · refine ⟨.ref b, rfl, b, _, 0, _, rfl, rfl, hL, atI_nat (j := 0) rfl, _, rfl, _, _, rfl, rfl, h0, ?_⟩
    refine ⟨.ref b, rfl, b, _, 0, _, rfl, rfl, hL, atI_nat (j := 0) rfl, _, rfl, _, _, rfl, rfl, ⟨h0, h1⟩, ?_⟩
    refine ⟨.ref b, rfl, b, _, 0, 0, rfl, rfl, hb, rfl, ?_⟩
    exact ⟨_, rfl, q _ _ Oth.upd ⟨_, _, _, upd_same⟩ (Int.emod_nonneg _ (by omega)) (Int.emod_lt_of_pos _ h0)⟩
  · refine ⟨.ref b, rfl, b, _, 2, _, rfl, rfl, hL, atI_nat (j := 2) rfl, _, _, rfl, rfl, ?_⟩
    refine ⟨.ref b, rfl, b, _, 2, 2, rfl, rfl, hb, rfl, ?_⟩
    have hU : upd H b (.lst ([.int x, .int y, .int z].set 2 (.int (z + 1)))) b = some (.lst [.int x, .int y, .int (z + 1)]) := upd_same
    have hL2 : SqL K (upd H b (.lst ([.int x, .int y, .int z].set 2 (.int (z + 1))))) b [.int x, .int y, .int (z + 1)] := .inl (.inl hU)
    refine ⟨.ref b, rfl, b, _, 1, _, rfl, rfl, hL2, atI_nat (j := 1) rfl, .ref b, rfl, b, _, 2, _, rfl, rfl, hL2, atI_nat (j := 2) rfl, _, _, rfl, rfl, .inl (by decide), _, _, rfl, rfl, _, _, rfl, rfl, (by show (0 : Int) < 2305843009213693951; decide), ?_⟩
    generalize hm1 : (y + 1442695040888963407 * (z + 1)) % 2305843009213693951 = m1
    have b1 : 0 ≤ m1 ∧ m1 < 2305843009213693951 := by
      rw [← hm1]
      exact ⟨Int.emod_nonneg _ (by decide), Int.emod_lt_of_pos _ (by decide)⟩
    refine ⟨_, rfl, _, rfl, _, _, rfl, rfl, .inl ⟨by omega, by omega⟩, .ref b, rfl, b, _, 2, _, rfl, rfl, hL2, atI_nat (j := 2) rfl, _, _, rfl, rfl, .inl (by decide), _, _, rfl, rfl, _, _, rfl, rfl, _, _, rfl, rfl, (by show (0 : Int) < 2305843009213693921; decide), ?_⟩
    generalize hm2 : (m1 * m1 + 39373 * (z + 1) + 7) % 2305843009213693921 = m2
    have b2 : 0 ≤ m2 ∧ m2 < 2305843009213693921 := by
      rw [← hm2]
      exact ⟨Int.emod_nonneg _ (by decide), Int.emod_lt_of_pos _ (by decide)⟩
    refine ⟨_, rfl, _, rfl, _, _, rfl, rfl, ⟨by decide, by decide⟩, _, _, rfl, rfl, _, _, rfl, rfl, .inl ⟨by omega, by omega⟩, .ref b, rfl, b, _, 2, _, rfl, rfl, hL2, atI_nat (j := 2) rfl, _, _, rfl, rfl, _, _, rfl, rfl, (by show (0 : Int) < 2305843009213693907; decide), ?_⟩
    generalize (m2 * (m2 / 65536 + 3) + (z + 1)) % 2305843009213693907 = m3
    refine ⟨_, rfl, _, _, rfl, rfl, ⟨by decide, by decide⟩, _, rfl, _, _, rfl, rfl, h0, ?_⟩
    exact q _ _ Oth.upd ⟨_, _, _, upd_same⟩ (Int.emod_nonneg _ (by omega)) (Int.emod_lt_of_pos _ h0)
/-! ### _law_box -/
abbrev sBox : Stmt := topS 16
theorem scBox : FnScope ["_law_cells_here", "_law_k", "_law_cell"] ["_law_cells_here", "_law_k"] (defScope sBox) := ⟨rfl, rfl, rfl, by decide +kernel, rfl, by decide +kernel, by decide +kernel⟩
theorem ok_box {f : Addr} {fd : FuncData} (B : Blt mg) (F : Fun K "_law_box" "_law_box" sBox f fd) : FnOk P w K mg base CX0 1 f fd ["_law_cells_here", "_law_k"] spBox := by
  refine fok F scBox (fun vs H Q E h => ?_) (fun cdv A outer s H vs Q E hr h => ?_)
  · obtain ⟨a, ns, k, rfl, _⟩ := h
    rfl
  obtain ⟨a, ns, k, rfl, ha, hk, hk2, q⟩ := h
  refine ⟨_, pss_cons (ps_set (i := 2) scBox.nd rfl (.inl rfl) (pe_ix ix_list (pv 0) (pv 1) (fun _ _ => rfl)))
    (pss_one (ps_ret (pe_lst (pa_cons (pe_op op_mul (pe_callB call_abs (by rfl) B.abs (by decide +kernel) (pa_cons (pv 2) pa_nil)) (pe_callTy call_int1 (by rfl) B.int (by decide +kernel) (pa_cons (pe_cmpR op_ge (pe_callB call_abs (by rfl) B.abs (by decide +kernel) (pa_cons (pv 2) pa_nil)) (pe_op op_pow pe_int pe_int) (nomark _)) pa_nil)))
      (pa_cons (pe_op op_add (pe_op op_add (pe_op op_mod (pv 2) pe_int) (pe_op op_mul pe_int (pv 1))) pe_int) (pa_cons pe_int pa_nil)))))), ?_⟩
  obtain ⟨c, hc⟩ : ∃ c, ns[k]? = some c := ⟨ns[k], List.getElem?_eq_getElem hk⟩
  refine ⟨.ref a, rfl, .int k, rfl, a, _, k, .int c, rfl, rfl, .inl (.inl ha), atI_nat (ix_map hc), ?_⟩
  refine ⟨_, rfl, _, rfl, _, rfl, _, rfl, _, _, rfl, rfl, ⟨by decide, by decide, by decide⟩, _, _, rfl, rfl, .inr ⟨_, rfl, _, _, rfl, rfl, .inr (bit01 _), ?_⟩⟩
  refine ⟨_, rfl, _, _, rfl, rfl, (by show (0 : Int) < 2305843009213693951; decide), _, rfl, _, _, rfl, rfl, .inl (by decide), _, _, rfl, rfl, _, _, rfl, rfl, (by show 3 ≤ sizeLine; decide), fun p hp => ?_⟩
  exact q p _ (same_upd hp) hp ⟨_, _, _, upd_same⟩
/-! ### _law_cells -/
abbrev sCells : Stmt := topS 18
theorem scCells : FnScope ["_law_script", "_law_utmost", "_law_cells_here", "_law_k", "_law_cell"] ["_law_script", "_law_utmost"] (defScope sCells) := ⟨rfl, rfl, rfl, by decide +kernel, rfl, by decide +kernel, by decide +kernel⟩
theorem ok_cells {f : Addr} {fd : FuncData} (B : Blt mg) (F : Fun K "_law_cells" "_law_cells" sCells f fd) : FnOk P w K mg base CX0 1 f fd ["_law_script", "_law_utmost"] (spCells K) := by
  refine fok F scCells (fun vs H Q E h => ?_) (fun cdv A outer s H vs Q E hr h => ?_)
  · obtain ⟨a, ns, k, rfl, _⟩ := h
    rfl
  obtain ⟨a, ns, u, rfl, ha, hn, h0, h3, q⟩ := h
  refine ⟨_, pss_cons (ps_set (i := 2) scCells.nd rfl (.inl rfl) (pe_orT (pe_callTy call_list_of (by rfl) B.list (by decide +kernel) (pa_cons (pe_slice sl_list (pv 0) po_none (po_some (pv 1))) pa_nil)) (pe_one (pe_lst (pa_cons pe_int pa_nil)))))
    (pss_cons (ps_for PassesOwn.never rfl (pi_enum (by rfl) B.enumerate (pa_cons (pe_slice sl_list (pv 0) (po_some (pv 1)) (po_some pe_int)) pa_nil))
        (pg_tup rfl (pgs_cons (pg_name (i := 3) scCells.nd rfl (.inl rfl)) (pgs_cons (pg_name (i := 4) scCells.nd rfl (.inl rfl)) pgs_nil)))
      (pss_one (ps_asg (pe_op op_add (pe_ix ix_list (pv 2) (pe_op op_mod (pv 3) (pv 1)) (fun _ _ => rfl)) (pe_op op_mul (pv 4) (pe_op op_add (pv 3) pe_int))) (pg_sub (pv 2) (pe_op op_mod (pv 3) (pv 1)) set_list))))
    (pss_one (ps_ret (pv 2)))), ?_⟩
  -- what follows once cells stand at c
  have rest : ∀ (c : Addr) (ms : List Int) (H1 : Hp), Same H H1 → H c = none → H1 c = some (.lst (ms.map V.int)) → 0 < ms.length → ms.length ≤ 3 → (u < ns.length → ms.length = u) → ∀ (D : Ends) , D.rt = Q → 
      (tSeq (tFor (iEnum K (tCons (tSl (rSlL K) (tVar 0) (tPart (tVar 1)) (tPart (tC (.int 63)))) tNil)) (gTup K 2 (gCons (gName 3) (gCons (gName 4) gNil))) (tAsg (tOp (rI0 fun i j => .int (i + j)) (tOp (rIxL K) (tVar 2) (tOp (rI (fun _ j => 0 < j) fun i j => .int (i % j)) (tVar 3) (tVar 1))) (tOp (rI CMul fun i j => .int (i * j)) (tVar 4) (tOp (rI0 fun i j => .int (i + j)) (tVar 3) (tC (.int 2))))) (gSub (tVar 2) (tOp (rI (fun _ j => 0 < j) fun i j => .int (i % j)) (tVar 3) (tVar 1)) rSetL))) (tRet (tVar 2))) D [some (.ref a), some (.int u), some (.ref c), none, none] H1 := by
    intro c ms H1 s1 nc hc m0 m3 mu D hD
    refine ⟨.ref a, rfl, _, rfl, u, rfl, 63, rfl, a, _, rfl, s1.seq ha, fun p hp => ?_⟩
    have s2 : Same H1 (upd H1 p (.lst (cutV (ns.map V.int) (some u) (some 63)))) := same_upd hp
    have npc : c ≠ p := ne_of_none hc hp
    rw [cutV_map]
    generalize hr2 : cutL ns (some (u : Int)) (some 63) = r2
    refine ⟨p, r2.map V.int, rfl, .inl (.inl upd_same), ?_⟩
    refine for_it (walk_enum (xs := r2.map V.int)) (fun i σ H3 => ∃ (y3 y4 : Option V) (ms' : List Int), σ = [some (.ref a), some (.int u), some (.ref c), y3, y4] ∧ Same H H3 ∧ H3 p = some (.lst (r2.map V.int)) ∧ H3 c = some (.lst (ms'.map V.int)) ∧ ms'.length = ms.length) ?_ ?_ ?_ ?_
    · exact ⟨none, none, ms, rfl, s1.trans (same_upd hp), upd_same, (upd_ne npc).trans hc, rfl⟩
    · rintro i σ H3 _ ⟨y3, y4, ms', rfl, e1, e2, e3, e4⟩
      exact .inl (.inl e2)
    · rintro i x σ H3 H4 hi ⟨y3, y4, ms', rfl, e1, e2, e3, e4⟩ ⟨T, x1, x2, rfl, nT, rfl, f1, f2⟩
      cases f1
      obtain ⟨z, hz, rfl⟩ := at_map f2
      rw [List.length_map] at hi
      have hun : u < ns.length := cutL_has (k := u) (hi := some 63) (by rw [hr2]; omega)
      have hml := mu hun
      have nTc : c ≠ T := ne_of_none e3 nT
      have nTp : p ≠ T := ne_of_none e2 nT
      refine ⟨T, _, rfl, .inl (.inl upd_same), rfl, _, _, rfl, _, _, rfl, rfl, ?_⟩
      have hlt : i % u < ms'.length := by
        rw [e4, hml]
        exact Nat.mod_lt _ h0
      have e3' : upd H3 T (.tup [.int (i : Nat), .int z]) c = some (.lst (ms'.map V.int)) := (upd_ne nTc).trans e3
      have eim : ((i : Int) % (u : Int)) = ((i % u : Nat) : Int) := (Int.natCast_emod i u).symm
      have hi2 : i < 63 := by
        have q1 := cutL_le ns (some (u : Int)) (some 63)
        rw [hr2] at q1
        omega
      refine ⟨.ref c, rfl, _, rfl, _, rfl, _, _, rfl, rfl, (by show (0 : Int) < u; omega), c, _, _, .int ms'[i % u], rfl, rfl, .inl (.inl e3'), (by rw [eim]; exact atI_nat (ix_map (List.getElem?_eq_getElem hlt))), ?_⟩
      refine ⟨_, rfl, _, rfl, _, _, rfl, rfl, _, _, rfl, rfl, .inr ⟨by omega, by omega⟩, _, _, rfl, rfl, ?_⟩
      refine ⟨.ref c, rfl, _, rfl, _, rfl, _, _, rfl, rfl, (by show (0 : Int) < u; omega), c, _, _, i % u, rfl, rfl, e3', ?_, ?_⟩
      · rw [eim, List.length_map]
        unfold ixN
        rw [if_pos (by omega), if_pos (by omega), Int.toNat_natCast]
      · refine ⟨_, _, ms'.set (i % u) (ms'[i % u] + z * ((i : Int) + 2)), rfl, fun b o e => ?_, ?_, ?_, ?_⟩
        · rw [upd_ne (ne_of_none e nc)]
          exact same_upd nT _ _ (e1 b o e)
        · rw [upd_ne (Ne.symm npc), upd_ne nTp]
          exact e2
        · rw [upd_same, ← set_map]
        · rw [List.length_set]
          exact e4
    · rintro σ H3 ⟨y3, y4, ms', rfl, e1, e2, e3, e4⟩
      refine ⟨.ref c, rfl, ?_⟩
      rw [hD]
      exact q c ms' H3 e1 nc e3 (by omega) (by omega)
  -- cells = list(script[:u]) or [0]
  refine ⟨.ref a, rfl, .int u, rfl, u, rfl, a, _, rfl, ha, fun p hp => ?_⟩
  rw [cutV_map, cutL_to]
  refine ⟨p, _, rfl, .inl (.inl (.inl upd_same)), fun l hl => ?_⟩
  have s2 : Same H (upd H p (.lst ((ns.take u).map V.int))) := same_upd hp
  have s3 := s2.trans (same_upd (o := .lst ((ns.take u).map V.int)) hl)
  refine ⟨_, .inl ⟨_, .inl (.inl upd_same), rfl⟩, ?_⟩
  refine ite2 (fun z => ?_) (fun z => ?_)
  · have hne : 0 < ns.length := by
      cases ns with
      | nil => rw [List.take_nil] at z; cases z
      | cons n r => exact Nat.succ_pos _
    refine rest l (ns.take u) _ s3 (s2.free hl) upd_same ?_ ?_ ?_ _ rfl
    · rw [List.length_take]
      omega
    · rw [List.length_take]
      omega
    · intro z
      rw [List.length_take]
      omega
  · have hne : ns.length = 0 := by
      cases ns with
      | nil => rfl
      | cons n r =>
        have e : u = (u - 1) + 1 := by omega
        rw [e, List.take_succ_cons] at z
        exact absurd rfl z
    refine ⟨(by show 1 ≤ sizeLine; decide), fun c hc => ?_⟩
    exact rest c [0] _ (s3.trans (same_upd hc)) (s3.free hc) upd_same (by decide) (by decide) (fun z => absurd z (by omega)) _ rfl
/-! ### _law_names -/
abbrev sNames : Stmt := topS 19
abbrev nNames : List Str := ["_law_box_here", "_law_many", "_law_letters", "_law_first", "_law_found", "_law_stem", "_law_step", "_law_few", "_law_k", "_law_cut", "_law_name", "_law_turn"]
theorem scNames : FnScope nNames ["_law_box_here", "_law_many"] (defScope sNames) := ⟨rfl, rfl, rfl, by decide +kernel, rfl, by decide +kernel, by decide +kernel⟩
theorem ok_names {f : Addr} {fd : FuncData} (B : Blt mg) (CT : Cal P w K mg base 1 "_law_take" ["_law_box_here", "_law_many"] spTake) (F : Fun K "_law_names" "_law_names" sNames f fd) : FnOk P w K mg base CX0 2 f fd ["_law_box_here", "_law_many"] spNames := by
  refine fok F scNames (fun vs H Q E h => ?_) (fun cdv A outer s H vs Q E hr h => ?_)
  · obtain ⟨b, many, rfl, _⟩ := h
    rfl
  obtain ⟨b, many, rfl, hb, hm, q⟩ := h
  refine ⟨_, pss_cons (ps_asg (pe_tup (pa_cons pe_str (pa_cons (pe_cal CT hr (pa_cons (pv 0) (pa_cons pe_int pa_nil))) (pa_cons (pe_lst pa_nil) pa_nil)))) (pg_tup rfl (pgs_cons (pg_name (i := 2) scNames.nd rfl (.inr rfl)) (pgs_cons (pg_name (i := 3) scNames.nd rfl (.inl rfl)) (pgs_cons (pg_name (i := 4) scNames.nd rfl (.inl rfl)) pgs_nil)))))
    (pss_cons (ps_set (i := 5) scNames.nd rfl (.inl rfl) (pe_join pe_str
      (pe_lc (own := [("_law_turn", 11)]) (g := gName 11) (tt := tYes) rfl scNames.nd (pi_range1 (by rfl) B.range (pa_cons (pe_cal CT hr (pa_cons (pv 0) (pa_cons pe_int pa_nil))) pa_nil)) (blkOk_by (N := nNames) (sc := defScope sNames) (by decide +kernel)) (fun _ _ _ _ _ => pg_name (i := 11) scNames.nd rfl (Or.inl rfl)) (fun _ _ _ _ _ => pts_nil)
        (fun _ _ _ _ _ => pe_ix ix_str (pv 2) (pe_cal CT hr (pa_cons (pv 0) (pa_cons pe_int pa_nil))) (fun _ _ => rfl)))))
    (pss_cons (ps_par (i := 6) (j := 7) (by rfl) scNames.nd rfl rfl (by decide) rfl rfl (pa_cons (pe_ix ix_list (pe_lst (pa_cons pe_int (pa_cons pe_int (pa_cons pe_int (pa_cons pe_int pa_nil))))) (pe_cal CT hr (pa_cons (pv 0) (pa_cons pe_int pa_nil))) (fun _ _ => rfl)) (pa_cons (pe_callTy call_int1 (by rfl) B.int (by decide +kernel) (pa_cons (pe_cmpR op_eq (pe_op op_mod (pv 3) pe_int) pe_int (nomark _)) pa_nil)) pa_nil)) (by rfl))
    (pss_cons (ps_for PassesOwn.never rfl (pi_range1 (by rfl) B.range (pa_cons (pv 1) pa_nil)) (pg_name (i := 8) scNames.nd rfl (.inl rfl))
      (pss_cons (ps_set (i := 9) scNames.nd rfl (.inl rfl) (pe_op op_sub (pe_callB call_len_str (by rfl) B.len PySem.boot_len (pa_cons (pv 5) pa_nil)) (pe_op op_mul (pv 7) (pe_op op_mod (pv 8) pe_int))))
      (pss_cons (ps_set (i := 10) scNames.nd rfl (.inl rfl) (pe_op op_add_str (pe_slice sl_str (pv 5) po_none (po_some (pv 9))) (pe_ix ix_str (pv 2) (pe_op op_mod (pe_op op_add (pv 3) (pe_op op_mul (pv 6) (pv 8))) pe_int) (fun _ _ => rfl))))
      (pss_one (ps_expr (pe_bm PySem.F.plainAttrs_list PySem.F.slot_list_insert PySem.F.type_list_insert mt_insert (pv 4) (pa_cons (pe_cal CT hr (pa_cons (pv 0) (pa_cons (pe_op op_add (pe_callB call_len_seq (by rfl) B.len PySem.boot_len (pa_cons (pv 4) pa_nil)) pe_int) pa_nil))) (pa_cons (pv 10) pa_nil))))))))
    (pss_one (ps_ret (pv 4)))))), ?_⟩
  -- letters, first, found
  refine ⟨.ref b, rfl, b, 26, rfl, hb, by decide, by decide, fun first H1 o1 b1 f0 f1 => ⟨(by show 0 ≤ sizeLine; decide), fun l hl => ?_⟩⟩
  refine ⟨(by show 3 ≤ sizeLine; decide), fun t ht => ?_⟩
  have nlb : l ≠ b := b1.ne_none hl
  have ntl : t ≠ l := fun z => by rw [z, upd_same] at ht; cases ht
  have ntb : t ≠ b := fun z => by
    rw [z, upd_ne (Ne.symm nlb)] at ht
    exact b1.ne_none ht rfl
  have nl : H l = none := o1.free nlb hl
  refine ⟨t, _, rfl, .inl (.inl upd_same), rfl, _, _, rfl, _, _, rfl, _, _, rfl, rfl, ?_⟩
  dsimp only
  generalize hH2 : upd (upd H1 l (.lst [])) t (.tup [.str (Str.ofString "abcdefghijklmnopqrstuvwxyz"), .int first, .ref l]) = H2
  have o2 : Oth b H H2 := o1.trans (fun a o n e => by
    rw [← hH2]
    exact same_upd ht _ _ (same_upd hl _ _ e))
  have b2 : IsBox H2 b := by
    rw [← hH2]
    exact (b1.same (same_upd hl)).same (same_upd ht)
  have l2 : H2 l = some (.lst []) := by
    rw [← hH2, upd_ne (Ne.symm ntl), upd_same]
  -- stem
  refine ⟨⟨_, rfl⟩, .ref b, rfl, b, 8, rfl, b2, by decide, by decide, fun n H3 o3 b3 n0 n1 => ⟨n, rfl, by omega, by omega, fun D hD => ?_⟩⟩
  have nDb : D ≠ b := b3.ne_none hD
  have l3 : H3 l = some (.lst []) := o3 _ _ nlb l2
  have nDl : l ≠ D := ne_of_none l3 hD
  refine lc_it (walk_range (lo := 0) (n := n.toNat)) (fun i H' => ∃ ys : List Str, Oth b H H' ∧ IsBox H' b ∧ H' l = some (.lst []) ∧ H' D = some (.lst (ys.map V.str)) ∧ ys.length = i ∧ ∀ y ∈ ys, IsOne y) ?_ (fun _ _ _ _ => trivial) ?_ ?_
  · refine ⟨[], fun a o na e => ?_, b3.same (same_upd hD), (upd_ne nDl).trans l3, upd_same, rfl, fun _ h => nomatch h⟩
    exact same_upd hD _ _ (o3 _ _ na (o2 _ _ na e))
  · rintro i x H4 H5 hi ⟨ys, o4, b4, l4, d4, y1, y2⟩ ⟨rfl, rfl⟩
    refine ⟨rfl, ⟨.str abc, rfl, .ref b, rfl, b, 26, rfl, b4, by decide, by decide, fun v H6 o6 b6 v0 v1 => ⟨abc, v, 97 + v.toNat, rfl, rfl, (by rw [abc_len]; decide), abc_ix v0 v1, ys.map V.str, o6 _ _ nDb d4, ?_, ?_⟩⟩⟩
    · rw [List.length_map]
      exact small1000 (by omega)
    · have s6 : ∀ a o, a ≠ D → H6 a = some o → upd H6 D (.lst (ys.map V.str ++ [.str ⟨#[97 + v.toNat]⟩])) a = some o := fun a o na e => by rw [upd_ne na]; exact e
      refine ⟨ys ++ [⟨#[97 + v.toNat]⟩], fun a o na e => ?_, ?_, s6 _ _ nDl (o6 _ _ nlb l4), ?_, ?_, ?_⟩
      · have q6 := o6 _ _ na (o4 _ _ na e)
        by_cases z : a = D
        · subst z
          have q3 := o3.free nDb hD
          rw [o2 _ _ na e] at q3
          cases q3
        · exact s6 _ _ z q6
      · obtain ⟨i1, i2, i3, e⟩ := b6
        exact ⟨i1, i2, i3, s6 _ _ (Ne.symm nDb) e⟩
      · rw [upd_same, List.map_append]
        rfl
      · rw [List.length_append, y1]
        rfl
      · intro y hy
        rcases List.mem_append.mp hy with z | z
        · exact y2 y z
        · have e : y = ⟨#[97 + v.toNat]⟩ := by simpa using z
          exact ⟨v.toNat, by omega, e⟩
  · rintro H4 ⟨ys, o4, b4, l4, d4, y1, y2⟩
    have z1 := ones_len y2
    refine ⟨_, D, ys, rfl, rfl, .inl (.inl (.inl d4)), ?_, ?_⟩
    · rw [z1]
      have z2 : (Str.ofString "").length = 0 := by decide +kernel
      rw [z2]
      omega
    have w1 := ones_flat y2
    rw [← join0] at w1
    generalize Txt.join (Str.ofString "") ys = stem at w1
    have w2 : (tlx stem).length ≤ 7 := by rw [w1.1]; omega
    have w3 : Low (tlx stem) := w1.2
    clear w1 z1
    -- step, few
    refine ⟨(by show 4 ≤ sizeLine; decide), fun p hp => ⟨.ref b, rfl, b, 4, rfl, b4.same (same_upd hp), by decide, by decide, fun v H5 o5 b5 v0 v1 => ?_⟩⟩
    obtain ⟨step, hst, hat⟩ := menu4 v0 v1
    have npb : p ≠ b := b4.ne_none hp
    have o5' : Oth b H H5 := fun a o na e => o5 _ _ na (same_upd hp _ _ (o4 _ _ na e))
    have l5 : H5 l = some (.lst []) := o5 _ _ nlb (same_upd hp _ _ l4)
    refine ⟨p, _, v, .int step, rfl, rfl, .inl (.inl (o5 _ _ npb upd_same)), hat, ?_⟩
    refine ⟨.int first, rfl, _, _, rfl, rfl, (by show (0 : Int) < 4; decide), rfl, .inr ⟨_, rfl, _, _, rfl, ?_⟩⟩
    generalize hk : (decide (V.int (first % 4) = V.int 3)) = kf
    have hf := bit2 kf
    generalize (if kf = true then 1 else 0 : Int) = few at hf
    -- the loop
    refine ⟨.int many, rfl, many, rfl, by omega, by omega, ?_⟩
    refine for_it (walk_range (lo := 0) (n := (many : Int).toNat)) (fun i σ H' => ∃ (y8 y9 y10 y11 : Option V) (names : List Str), σ = [some (.ref b), some (.int many), some (.str abc), some (.int first), some (.ref l), some (.str stem), some (.int step), some (.int few), y8, y9, y10, y11] ∧ Oth b H H' ∧ IsBox H' b ∧ H' l = some (.lst (names.map V.str)) ∧ names.length = i ∧ names.Nodup ∧ ∀ x ∈ names, NameOk x ∧ ∃ j : Nat, j < i ∧ lastC x = some (97 + ((first + step * (j : Int)) % 26).toNat)) ?_ (fun _ _ _ _ _ => trivial) ?_ ?_
    · exact ⟨_, _, _, _, [], rfl, o5', b5, l5, rfl, List.nodup_nil, fun _ h => nomatch h⟩
    · rintro i x σ H7 H6 hi ⟨y8, y9, y10, y11, names, rfl, o6, b6, l6, m1, m2, m3⟩ ⟨rfl, rfl⟩
      have hi2 : i < 26 := by omega
      have hsl : stem.length ≤ sizeLine := by rw [len_tlx]; exact small_le (by omega)
      refine ⟨_, rfl, _, rfl, hsl, _, rfl, _, rfl, _, _, rfl, rfl, (by show (0 : Int) < 3; decide), _, _, rfl, rfl, .inl ⟨by omega, by omega⟩, _, _, rfl, rfl, ?_⟩
      dsimp only
      generalize (stem.length : Int) - few * ((0 + (i : Int)) % 3) = cut
      have c0 : 0 ≤ (first + step * (0 + (i : Int))) % 26 := Int.emod_nonneg _ (by decide)
      have c1 : (first + step * (0 + (i : Int))) % 26 < 26 := Int.emod_lt_of_pos _ (by decide)
      refine ⟨_, rfl, _, rfl, cut, rfl, stem, rfl, hsl, _, rfl, _, rfl, _, rfl, _, rfl, _, _, rfl, rfl, ?_, _, _, rfl, rfl, _, _, rfl, rfl, (by show (0 : Int) < 26; decide), abc, _, _, rfl, rfl, (by rw [abc_len]; decide), abc_ix c0 c1, _, _, rfl, rfl, ?_, ?_⟩
      · rcases hst with rfl | rfl | rfl | rfl <;> exact .inl (by decide)
      · rw [len_tlx, cutS_tlx]
        have z := cutL_le (tlx stem) none (some cut)
        exact small_le (by show _ + 1 ≤ 1000; omega)
      rw [Int.zero_add] at c0 c1 ⊢
      have nok : NameOk (cutS stem none (some cut) ++ ⟨#[97 + ((first + step * (i : Int)) % 26).toNat]⟩) := name_ok w2 w3 (by omega)
      have nla := lastC_app (cutS stem none (some cut)) (97 + ((first + step * (i : Int)) % 26).toNat)
      generalize (cutS stem none (some cut) ++ ⟨#[97 + ((first + step * (i : Int)) % 26).toNat]⟩ : Str) = nm at nok nla
      have hnew : nm ∉ names := fun hm2 => by
        obtain ⟨_, j, hj, ej⟩ := m3 nm hm2
        rw [nla] at ej
        have q1 := Option.some.inj ej
        have q2 := apart hst hj hi2 first
        have q3 : 0 ≤ (first + step * (j : Int)) % 26 := Int.emod_nonneg _ (by decide)
        omega
      -- found.insert(take(box, len(found) + 1), name)
      have L6 : SqL K H6 l (names.map V.str) := .inl (.inl l6)
      refine ⟨.ref l, rfl, .inl ⟨rfl, _, L6⟩, .ref b, rfl, .ref l, rfl, l, _, rfl, .inl L6, _, _, rfl, rfl, b, _, rfl, b6, by omega, ?_, fun v H8 o8 b8 v0 v1 => ?_⟩
      · rw [List.length_map]
        omega
      have l8 : H8 l = some (.lst (names.map V.str)) := o8 _ _ nlb l6
      refine ⟨_, rfl, l, _, v, _, rfl, rfl, l8, ?_, v0, ?_, ?_⟩
      · rw [List.length_map]
        exact small1000 (by omega)
      · rw [List.length_map] at v1
        omega
      have pm := ins_perm names v.toNat nm
      refine ⟨_, _, _, _, names.take v.toNat ++ [nm] ++ names.drop v.toNat, rfl, fun a o na e => ?_, ?_, ?_, ?_, ?_, ?_⟩
      · have e8 := o8 _ _ na (o6 _ _ na e)
        rw [upd_ne (ne_of_none e nl)]
        exact e8
      · obtain ⟨i1, i2, i3, e⟩ := b8
        exact ⟨i1, i2, i3, (upd_ne (Ne.symm nlb)).trans e⟩
      · rw [upd_same, ins_map]
      · rw [pm.length_eq, List.length_cons, m1]
      · exact pm.nodup_iff.mpr (List.nodup_cons.mpr ⟨hnew, m2⟩)
      · intro x hx
        rcases List.mem_cons.mp (pm.mem_iff.mp hx) with rfl | hx
        · exact ⟨nok, i, Nat.lt_succ_self _, nla⟩
        · obtain ⟨z1, j, z2, z3⟩ := m3 x hx
          exact ⟨z1, j, Nat.lt_succ_of_lt z2, z3⟩
    · rintro σ H6 ⟨y8, y9, y10, y11, names, rfl, o6, b6, l6, m1, m2, m3⟩
      exact ⟨.ref l, rfl, q l names H6 o6 b6 nl l6 (by omega) m2 fun x hx => (m3 x hx).1⟩
/-! ### _law_pals -/
abbrev sPals : Stmt := topS 20
abbrev nPals : List Str := ["_law_box_here", "_law_pool", "_law_way", "_law_found", "_law_side", "_law_k", "_law_mine", "_law_j", "_law_fine", "_law_name"]
theorem scPals : FnScope nPals ["_law_box_here", "_law_pool"] (defScope sPals) := ⟨rfl, rfl, rfl, by decide +kernel, rfl, by decide +kernel, by decide +kernel⟩
theorem ok_pals {f : Addr} {fd : FuncData} (B : Blt mg) (CT : Cal P w K mg base 1 "_law_take" ["_law_box_here", "_law_many"] spTake) (F : Fun K "_law_pals" "_law_pals" sPals f fd) : FnOk P w K mg base CX0 2 f fd ["_law_box_here", "_law_pool"] spPals := by
  refine fok F scPals (fun vs H Q E h => ?_) (fun cdv A outer s H vs Q E hr h => ?_)
  · obtain ⟨b, l, pool, rfl, _⟩ := h
    rfl
  obtain ⟨b, l, pool, rfl, hb, hl, hnd, hn, q⟩ := h
  refine ⟨_, pss_cons (ps_par (i := 2) (j := 3) (by rfl) scPals.nd rfl rfl (by decide) rfl rfl (pa_cons (pe_cal CT hr (pa_cons (pv 0) (pa_cons pe_int pa_nil))) (pa_cons (pe_lst pa_nil) pa_nil)) (by rfl))
    (pss_cons (ps_setLc (i := 4) (own := [("_law_name", 9)]) (g := gName 9) (tt := tYes) rfl scPals.nd rfl rfl (sw_true rfl rfl rfl (by decide +kernel)) (pi_list (pv 1)) (blkOk_by (N := nPals) (sc := defScope sPals) (by decide +kernel)) (fun _ _ _ _ _ => pg_name (i := 9) scPals.nd rfl (Or.inl rfl)) (fun _ _ _ _ _ => pts_nil)
        (fun _ _ _ _ _ => pe_cal CT hr (pa_cons (pv 0) (pa_cons pe_int pa_nil))))
    (pss_cons (ps_for PassesOwn.never rfl (pi_enum (by rfl) B.enumerate (pa_cons (pv 1) pa_nil)) (pg_tup rfl (pgs_cons (pg_name (i := 5) scPals.nd rfl (.inl rfl)) (pgs_cons (pg_name (i := 6) scPals.nd rfl (.inl rfl)) pgs_nil)))
      (pss_one (ps_for PassesOwn.never rfl (pi_range1 (by rfl) B.range (pa_cons (pv 5) pa_nil)) (pg_name (i := 7) scPals.nd rfl (.inl rfl))
        (pss_cons (ps_set (i := 8) scPals.nd rfl (.inl rfl) (pe_mid (pe_ix ix_list (pe_lst (pa_cons (pe_cmpR op_eq (pe_cal CT hr (pa_cons (pv 0) (pa_cons pe_int pa_nil))) pe_int (nomark _)) (pa_cons (pe_cmpR op_eq (pe_cal CT hr (pa_cons (pv 0) (pa_cons pe_int pa_nil))) pe_int (nomark _)) (pa_cons (pe_cmpR op_gt (pe_cal CT hr (pa_cons (pv 0) (pa_cons pe_int pa_nil))) pe_int (nomark _)) pa_nil)))) (pe_op op_mod (pv 2) pe_int) (fun _ _ => rfl))))
        (pss_cons (ps_set (i := 8) scPals.nd rfl (.inl rfl) (pe_mid (pe_ifExp (pt_cmpR op_eq (pv 2) pe_int (nomark _)) (pe_cmpR op_eq (pe_ix ix_list (pv 4) (pv 5) (fun _ _ => rfl)) (pe_ix ix_list (pv 4) (pv 7) (fun _ _ => rfl)) (nomark _)) (pv 8))))
        (pss_one (ps_if (pt_val (pv 8)) (pss_one (ps_expr (pe_bm PySem.F.plainAttrs_list PySem.F.slot_list_append PySem.F.type_list_append mt_append (pv 3) (pa_cons (pe_tup (pa_cons (pe_callB (call_minS rfl) (by rfl) B.min (by decide +kernel) (pa_cons (pv 6) (pa_cons (pe_ix ix_list (pv 1) (pv 7) (fun _ _ => rfl)) pa_nil))) (pa_cons (pe_callB (call_maxS rfl) (by rfl) B.max (by decide +kernel) (pa_cons (pv 6) (pa_cons (pe_ix ix_list (pv 1) (pv 7) (fun _ _ => rfl)) pa_nil))) pa_nil))) pa_nil)))) pss_nil)))))))
    (pss_one (ps_ret (pe_callTy call_tuple_of (by rfl) B.tuple (by decide +kernel) (pa_cons (pe_callB (cr_sortedTT hr.units) (by rfl) B.sorted (by decide +kernel) (pa_cons (pv 3) pa_nil)) pa_nil)))))), ?_⟩
  have nlb : l ≠ b := hb.ne_strs hl
  -- way, found
  refine ⟨.ref b, rfl, b, 6, rfl, hb, by decide, by decide, fun way H1 o1 b1 w0 w1 => ⟨(by show 0 ≤ sizeLine; decide), fun fa hfa => ⟨_, _, rfl, ?_⟩⟩⟩
  have nfb : fa ≠ b := b1.ne_none hfa
  have nf : H fa = none := o1.free nfb hfa
  have l1 : H1 l = some (.lst (pool.map V.str)) := o1 _ _ nlb hl
  have nlf : l ≠ fa := ne_of_none l1 hfa
  have l2 : upd H1 fa (.lst []) l = some (.lst (pool.map V.str)) := (upd_ne nlf).trans l1
  have b2 : IsBox (upd H1 fa (.lst [])) b := b1.same (same_upd hfa)
  have o2 : Oth b H (upd H1 fa (.lst [])) := o1.trans (Oth.of (same_upd hfa))
  have f2 : upd H1 fa (.lst []) fa = some (.lst []) := upd_same
  dsimp only
  generalize upd H1 fa (.lst []) = H2 at *
  -- side
  refine ⟨.ref l, rfl, l, rfl, ⟨_, .inl (.inl l2)⟩, fun sa hsa => ?_⟩
  have nsb : sa ≠ b := b2.ne_none hsa
  have nsl : l ≠ sa := ne_of_none l2 hsa
  have nsf : fa ≠ sa := ne_of_none f2 hsa
  have ns : H sa = none := o2.free nsb hsa
  refine lc_it (walk_list (xs := pool.map V.str)) (fun i H' => ∃ sd : List Int, Oth b H H' ∧ IsBox H' b ∧ H' l = some (.lst (pool.map V.str)) ∧ H' fa = some (.lst []) ∧ H' sa = some (.lst (sd.map V.int)) ∧ sd.length = i) ?_ ?_ ?_ ?_
  · exact ⟨[], o2.trans (Oth.of (same_upd hsa)), b2.same (same_upd hsa), (upd_ne nsl).trans l2, (upd_ne nsf).trans f2, upd_same, rfl⟩
  · rintro i H' _ ⟨sd, _, _, e, _⟩
    exact .inl (.inl e)
  · rintro i x H4 H3 hi ⟨sd, o3, b3, l3, f3, s3, m3⟩ ⟨rfl, _⟩
    rw [List.length_map] at hi
    refine ⟨rfl, ⟨.ref b, rfl, b, 3, rfl, b3, by decide, by decide, fun v H5 o5 b5 v0 v1 => ⟨sd.map V.int, o5 _ _ nsb s3, ?_, ?_⟩⟩⟩
    · rw [List.length_map]
      exact small1000 (by omega)
    · refine ⟨sd ++ [v], fun a o na e => ?_, ?_, (upd_ne nsl).trans (o5 _ _ nlb l3), (upd_ne nsf).trans (o5 _ _ nfb f3), ?_, ?_⟩
      · rw [upd_ne (ne_of_none e ns)]
        exact o5 _ _ na (o3 _ _ na e)
      · obtain ⟨i1, i2, i3, e⟩ := b5
        exact ⟨i1, i2, i3, (upd_ne (Ne.symm nsb)).trans e⟩
      · rw [upd_same, List.map_append]
        rfl
      · rw [List.length_append, m3]
        rfl
  rintro H3 ⟨sd, o3, b3, l3, f3, s3, m3⟩
  rw [List.length_map] at m3
  -- the loops
  have hw : way = 0 ∨ way = 1 ∨ way = 2 ∨ way = 3 ∨ way = 4 ∨ way = 5 := by omega
  refine ⟨.ref l, rfl, l, _, rfl, .inl (.inl l3), ?_⟩
  refine for_it (walk_enum (xs := pool.map V.str)) (fun i σ H' => ∃ (y5 y6 y7 y8 y9 : Option V) (bs : List B3), σ = [some (.ref b), some (.ref l), some (.int way), some (.ref fa), some (.ref sa), y5, y6, y7, y8, y9] ∧ Oth b H H' ∧ IsBox H' b ∧ H' l = some (.lst (pool.map V.str)) ∧ H' fa = some (.lst (refs bs)) ∧ H' sa = some (.lst (sd.map V.int)) ∧ PairsAt H' bs ∧ OfPool pool (bs.map (·.2)) ∧ bs.length ≤ 26 * i) ?_ ?_ ?_ ?_
  · exact ⟨_, _, _, _, _, [], rfl, o3, b3, l3, f3, s3, (fun _ h => nomatch h), (fun _ h => nomatch h), Nat.zero_le _⟩
  · rintro i σ H' _ ⟨y5, y6, y7, y8, y9, bs, _, _, _, e, _⟩
    exact .inl (.inl e)
  · rintro i x σ H4 H5 hi ⟨y5, y6, y7, y8, y9, bs, rfl, o4, b4, l4, f4, s4, p4, g4, c4⟩ ⟨T, x1, x2, rfl, nT, rfl, e1, e2⟩
    rw [List.length_map] at hi
    cases e1
    obtain ⟨mine, hmine, rfl⟩ := at_map e2
    have sT : Same H4 (upd H4 T (.tup [.int (i : Nat), .str mine])) := same_upd nT
    refine ⟨T, _, rfl, .inl (.inl upd_same), rfl, _, _, rfl, _, _, rfl, rfl, ?_⟩
    refine ⟨_, rfl, i, rfl, by omega, by omega, ?_⟩
    refine for_it (walk_range (lo := 0) (n := (i : Int).toNat)) (fun j σ H' => ∃ (y7 y8 y9 : Option V) (bs : List B3), σ = [some (.ref b), some (.ref l), some (.int way), some (.ref fa), some (.ref sa), some (.int i), some (.str mine), y7, y8, y9] ∧ Oth b H H' ∧ IsBox H' b ∧ H' l = some (.lst (pool.map V.str)) ∧ H' fa = some (.lst (refs bs)) ∧ H' sa = some (.lst (sd.map V.int)) ∧ PairsAt H' bs ∧ OfPool pool (bs.map (·.2)) ∧ bs.length ≤ 26 * i + j) ?_ (fun _ _ _ _ _ => trivial) ?_ ?_
    · exact ⟨_, _, _, bs, rfl, o4.trans (Oth.of sT), b4.same sT, sT _ _ l4, sT _ _ f4, sT _ _ s4, p4.same sT, g4, by omega⟩
    · rintro j x σ H7 H6 hj ⟨y7, y8, y9, bs, rfl, o6, b6, l6, f6, s6, p6, g6, c6⟩ ⟨rfl, rfl⟩
      have hj2 : j < i := by omega
      obtain ⟨sj, hsj⟩ : ∃ v, sd[j]? = some v := ⟨sd[j]'(by omega), List.getElem?_eq_getElem _⟩
      obtain ⟨si, hsi⟩ : ∃ v, sd[i]? = some v := ⟨sd[i]'(by omega), List.getElem?_eq_getElem _⟩
      obtain ⟨pj, hpj⟩ : ∃ v, pool[j]? = some v := ⟨pool[j]'(by omega), List.getElem?_eq_getElem _⟩
      -- fine, by a draw
      refine ⟨fun v H8 => (∃ fb : Bool, v = .bl fb) ∧ Oth b H6 H8 ∧ IsBox H8 b, ?_, ?_⟩
      · refine ⟨.ref b, rfl, b, 4, rfl, b6, by decide, by decide, fun v1 h1 q1 c1 _ _ => ⟨rfl, .ref b, rfl, b, 2, rfl, c1, by decide, by decide, fun v2 h2 q2 c2 _ _ => ⟨rfl, .ref b, rfl, b, 4, rfl, c2, by decide, by decide, fun v3 h3 q3 c3 _ _ => ⟨_, _, rfl, rfl, (by show 3 ≤ sizeLine; decide), fun p hp => ?_⟩⟩⟩⟩
        have k0 : 0 ≤ way % 3 := Int.emod_nonneg _ (by decide)
        have k1 : way % 3 < 3 := Int.emod_lt_of_pos _ (by decide)
        have ox : Oth b H6 (upd h3 p (.lst [.bl (decide (V.int v1 = V.int 0)), .bl (decide (V.int v2 = V.int 0)), .bl (decide (v3 > 0))])) := ((q1.trans q2).trans q3).trans (Oth.of (same_upd hp))
        have bx : IsBox (upd h3 p (.lst [.bl (decide (V.int v1 = V.int 0)), .bl (decide (V.int v2 = V.int 0)), .bl (decide (v3 > 0))])) b := c3.same (same_upd hp)
        have km : way % 3 = ((0 : Nat) : Int) ∨ way % 3 = ((1 : Nat) : Int) ∨ way % 3 = ((2 : Nat) : Int) := by omega
        rcases km with km | km | km
        · exact ⟨_, rfl, _, _, rfl, rfl, (by show (0 : Int) < 3; decide), p, _, _, _, rfl, rfl, .inl (.inl upd_same), (by rw [km]; exact atI_nat (j := 0) rfl), ⟨_, rfl⟩, ox, bx⟩
        · exact ⟨_, rfl, _, _, rfl, rfl, (by show (0 : Int) < 3; decide), p, _, _, _, rfl, rfl, .inl (.inl upd_same), (by rw [km]; exact atI_nat (j := 1) rfl), ⟨_, rfl⟩, ox, bx⟩
        · exact ⟨_, rfl, _, _, rfl, rfl, (by show (0 : Int) < 3; decide), p, _, _, _, rfl, rfl, .inl (.inl upd_same), (by rw [km]; exact atI_nat (j := 2) rfl), ⟨_, rfl⟩, ox, bx⟩
      rintro v H8 ⟨⟨fb, rfl⟩, o8, b8⟩
      have l8 := o8 _ _ nlb l6
      have f8 := o8 _ _ nfb f6
      have s8 := o8 _ _ nsb s6
      have p8 := p6.oth o8 b6
      have o8' := o6.trans o8
      -- fine, by sides
      refine ⟨fun v H9 => (∃ fb : Bool, v = .bl fb) ∧ H9 = H8, ?_, ?_⟩
      · refine ⟨_, rfl, rfl, _, rfl, ite2 (fun _ => ?_) (fun _ => ?_)⟩
        · exact ⟨_, rfl, _, rfl, sa, _, _, _, rfl, rfl, .inl (.inl s8), atI_nat (ix_map hsi), _, rfl, _, rfl, sa, _, _, _, rfl, rfl, .inl (.inl s8), (by rw [Int.zero_add]; exact atI_nat (ix_map hsj)), rfl, ⟨_, rfl⟩, rfl⟩
        · exact ⟨_, rfl, ⟨_, rfl⟩, rfl⟩
      rintro v H9 ⟨⟨fb2, rfl⟩, rfl⟩
      refine ⟨_, rfl, fb2, rfl, ite2 (fun _ => ?_) (fun _ => ?_)⟩
      · refine ⟨.ref fa, rfl, .inl ⟨rfl, _, .inl (.inl f8)⟩, _, rfl, _, rfl, _, rfl, l, _, _, _, rfl, rfl, .inl (.inl l8), (by rw [Int.zero_add]; exact atI_nat (ix_map hpj)), _, _, rfl, _, rfl, _, rfl, _, rfl, l, _, _, _, rfl, rfl, .inl (.inl l8), (by rw [Int.zero_add]; exact atI_nat (ix_map hpj)), _, _, rfl, (by show 2 ≤ sizeLine; decide), fun t ht => ?_⟩
        have st : Same H9 (upd H9 t (.tup [.str (lmin mine pj), .str (lmax mine pj)])) := same_upd ht
        have f9 := st _ _ f8
        have ntf : t ≠ fa := (ne_of_none f8 ht).symm
        refine ⟨fa, _, _, rfl, rfl, f9, ?_, ?_⟩
        · show (bs.map _).length < _
          rw [List.length_map]
          exact small1000 (by omega)
        · refine ⟨_, _, _, bs ++ [(t, lmin mine pj, lmax mine pj)], rfl, fun a o na e => ?_, ?_, ?_, ?_, ?_, ?_, ?_, ?_⟩
          · rw [upd_ne (ne_of_none e nf)]
            exact st _ _ (o8' _ _ na e)
          · obtain ⟨i1, i2, i3, e⟩ := b8
            exact ⟨i1, i2, i3, (upd_ne (Ne.symm nfb)).trans (st _ _ e)⟩
          · exact (upd_ne nlf).trans (st _ _ l8)
          · rw [upd_same]
            show _ = some (HO.lst ((bs ++ [_]).map _))
            rw [List.map_append]
            rfl
          · exact (upd_ne (Ne.symm nsf)).trans (st _ _ s8)
          · intro c hc
            rcases List.mem_append.mp hc with z | z
            · have e := st _ _ (p8 c z)
              rw [upd_ne (ne_of e f9 (fun z => nomatch z))]
              exact e
            · have ec : c = (t, lmin mine pj, lmax mine pj) := by simpa using z
              rw [ec]
              exact (upd_ne ntf).trans upd_same
          · rw [List.map_append]
            intro p hp
            rcases List.mem_append.mp hp with z | z
            · exact g6 p z
            · have ep : p = (lmin mine pj, lmax mine pj) := by simpa using z
              refine ⟨mine, pj, List.mem_of_getElem? hmine, List.mem_of_getElem? hpj, fun z => ?_, ep⟩
              rw [← z] at hpj
              have := nd_ix hnd hmine hpj
              omega
          · rw [List.length_append]
            show bs.length + 1 ≤ _
            omega
      · exact ⟨_, _, _, bs, rfl, o8', b8, l8, f8, s8, p8, g6, by omega⟩
    · rintro σ H6 ⟨y7, y8, y9, bs, rfl, o6, b6, l6, f6, s6, p6, g6, c6⟩
      exact ⟨_, _, _, _, _, bs, rfl, o6, b6, l6, f6, s6, p6, g6, by omega⟩
  · rintro σ H4 ⟨y5, y6, y7, y8, y9, bs, rfl, o4, b4, l4, f4, s4, p4, g4, c4⟩
    rw [List.length_map] at c4
    refine ⟨_, rfl, fa, bs, rfl, .inl (.inl f4), p4, fun p hp => ?_⟩
    have s5 : Same H4 (upd H4 p (.lst ((bs.mergeSort (PySem.W.dataLe false encP)).map fun b => V.ref b.1))) := same_upd hp
    refine ⟨p, _, rfl, .inl ⟨.inl (.inl upd_same), fun a ha => ?_⟩⟩
    have s6 := s5.trans (same_upd (o := .tup ((bs.mergeSort (PySem.W.dataLe false encP)).map fun b => V.ref b.1)) ha)
    have nab : a ≠ b := (b4.same s5).ne_none ha
    have pm := List.mergeSort_perm bs (PySem.W.dataLe false encP)
    refine q a (bs.mergeSort (PySem.W.dataLe false encP)) _ (o4.trans (Oth.of s6)) (b4.same s6) (o4.free nab (s5.free ha)) upd_same (fun c hc => s6 _ _ (p4 c (pm.mem_iff.mp hc))) (fun p' hp' => g4 p' ((pm.map _).mem_iff.mp hp')) ?_ ⟨bs, rfl⟩
    rw [pm.length_eq]
    omega
/-! ### _law_are -/
abbrev sAre : Stmt := topS 21
theorem scAre : FnScope ["_law_pals_here", "_law_mine", "_law_its"] ["_law_pals_here", "_law_mine", "_law_its"] (defScope sAre) := ⟨rfl, rfl, rfl, by decide +kernel, rfl, by decide +kernel, by decide +kernel⟩
theorem ok_are {f : Addr} {fd : FuncData} (B : Blt mg) (F : Fun K "_law_are" "_law_are" sAre f fd) : FnOk P w K mg base CX0 1 f fd ["_law_pals_here", "_law_mine", "_law_its"] spAre := by
  refine fok F scAre (fun vs H Q E h => ?_) (fun cdv A outer s H vs Q E hr h => ?_)
  · obtain ⟨a, ps, x, y, rfl, _⟩ := h
    rfl
  obtain ⟨a, ps, x, y, rfl, ha, ho, gx, gy, q⟩ := h
  refine ⟨_, pss_one (ps_ret (pe_cmpR (op_inT (u65 hr)) (pe_tup (pa_cons (pe_callB (call_minS rfl) (by rfl) B.min (by decide +kernel) (pa_cons (pv 1) (pa_cons (pv 2) pa_nil))) (pa_cons (pe_callB (call_maxS rfl) (by rfl) B.max (by decide +kernel) (pa_cons (pv 1) (pa_cons (pv 2) pa_nil))) pa_nil))) (pv 0) (by rfl))), ?_⟩
  refine ⟨_, rfl, _, rfl, _, _, rfl, _, rfl, _, rfl, _, _, rfl, (by show 2 ≤ sizeLine; decide), fun t ht => ?_⟩
  have st : Same H (upd H t (.tup [.str (lmin x y), .str (lmax x y)])) := same_upd ht
  refine ⟨_, rfl, _, _, dp_tuple (xs := [lmin x y, lmax x y]) upd_same, dp_pals (ha.same st), sh_pair (p := (lmin x y, lmax x y)) ⟨lmin_good gx gy, lmax_good gx gy⟩, sh_pals ho.good, ?_⟩
  have e := any_pair ps (lmin x y, lmax x y)
  rw [frd_pair ho] at e
  have e2 : ((ps.map encQ).any fun z => PyData.eqv z (.tuple ([lmin x y, lmax x y].map .str))) = frd ps x y := e
  rw [e2]
  exact q _ st
/-! ### _law_come -/
abbrev sCome : Stmt := topS 22
abbrev nCome : List Str := ["_law_pals_here", "_law_stand", "_law_name", "_law_spot", "_law_k", "_law_its", "_law_known"]
theorem scCome : FnScope nCome ["_law_pals_here", "_law_stand", "_law_name"] (defScope sCome) := ⟨rfl, rfl, rfl, by decide +kernel, rfl, by decide +kernel, by decide +kernel⟩
theorem ok_come {f : Addr} {fd : FuncData} (B : Blt mg) (CA : Cal P w K mg base 1 "_law_are" ["_law_pals_here", "_law_mine", "_law_its"] spAre) (F : Fun K "_law_come" "_law_come" sCome f fd) : FnOk P w K mg base CX0 2 f fd ["_law_pals_here", "_law_stand", "_law_name"] spCome := by
  refine fok F scCome (fun vs H Q E h => ?_) (fun cdv A outer s H vs Q E hr h => ?_)
  · obtain ⟨a, t, ps, stand, x, rfl, _⟩ := h
    rfl
  obtain ⟨a, t, ps, stand, x, rfl, ha, ho, ht, gs, gx, hn, q⟩ := h
  refine ⟨_, pss_cons (ps_set (i := 3) scCome.nd rfl (.inl rfl) (pe_callB call_len_seq (by rfl) B.len PySem.boot_len (pa_cons (pv 1) pa_nil)))
    (pss_cons (ps_for PassesOwn.never rfl (pi_enumT (by rfl) B.enumerate (pa_cons (pv 1) pa_nil)) (pg_tup rfl (pgs_cons (pg_name (i := 4) scCome.nd rfl (.inl rfl)) (pgs_cons (pg_name (i := 5) scCome.nd rfl (.inl rfl)) pgs_nil)))
      (pss_one (ps_if (pt_val (pe_cal CA hr (pa_cons (pv 0) (pa_cons (pv 2) (pa_cons (pv 5) pa_nil))))) (pss_one (ps_set (i := 3) scCome.nd rfl (.inl rfl) (pe_op op_add (pv 4) pe_int))) pss_nil)))
    (pss_cons (ps_setLc (i := 6) (own := [("_law_its", 5)]) (g := gName 5) (tt := tB (tCall spAre [] E0 (tCons (tVar 0) (tCons (tVar 2) (tCons (tVar 5) tNil))))) rfl scCome.nd rfl rfl (sw_true rfl rfl rfl (by decide +kernel)) (pi_tup (pv 1)) (blkOk_by (N := nCome) (sc := defScope sCome) (by decide +kernel)) (fun _ _ _ _ _ => pg_name (i := 5) scCome.nd rfl (Or.inl rfl))
        (fun _ _ _ _ _ => pts_one (pt_val (pe_cal CA hr (pa_cons (pv 0) (pa_cons (pv 2) (pa_cons (pv 5) pa_nil)))))) (fun _ _ _ _ _ => pv 5))
    (pss_cons (ps_set (i := 3) scCome.nd rfl (.inl rfl) (pe_mid (pe_ifExp (pt_cmpR (op_neNil hr.units) (pv 6) (pe_lst pa_nil) (nomark _)) (pv 3) (pe_callB call_len_seq (by rfl) B.len PySem.boot_len (pa_cons (pv 1) pa_nil)))))
    (pss_one (ps_ret (pe_op op_catM (pe_op op_catM (pe_slice sl_tupM (pv 1) po_none (po_some (pv 3))) (pe_tupF (pa_cons (pv 2) pa_nil))) (pe_slice sl_tupM (pv 1) (po_some (pv 3)) po_none))))))), ?_⟩
  -- spot = len(stand)
  refine ⟨.ref t, rfl, t, _, rfl, .inr ht.sq, ?_⟩
  rw [List.length_map]
  -- the loop
  refine ⟨.ref t, rfl, t, _, rfl, ht.sq, ?_⟩
  refine for_it (walk_enumT (xs := stand.map V.str)) (fun i σ H' => ∃ (y4 y5 y6 : Option V), σ = [some (.ref a), some (.ref t), some (.str x), some (.int (match lastP (frd ps x) (stand.take i) with | some k => ((k + 1 : Nat) : Int) | none => (stand.length : Int))), y4, y5, y6] ∧ Same H H') ?_ ?_ ?_ ?_
  · exact ⟨_, _, _, rfl, Same.refl H⟩
  · rintro i σ H' _ ⟨y4, y5, y6, _, s1⟩
    exact (ht.same s1).sq
  · rintro i v σ H1 H2 hi ⟨y4, y5, y6, rfl, s1⟩ ⟨T, x1, x2, rfl, nT, rfl, e1, e2⟩
    cases e1
    obtain ⟨its, hits, rfl⟩ := at_map e2
    have s2 := s1.trans (same_upd (o := .tup [.int (i : Nat), .str its]) nT)
    refine ⟨T, _, rfl, .inl (.inl upd_same), rfl, _, _, rfl, _, _, rfl, rfl, ?_⟩
    refine ⟨_, rfl, _, rfl, _, rfl, a, ps, x, its, rfl, ha.same s2, ho, gx, gs.at_ hits, fun H3 s3 => ⟨_, rfl, ?_⟩⟩
    have lt := lastP_take (frd ps x) hits
    refine ite2 (fun c => ?_) (fun c => ?_)
    · rw [if_pos c] at lt
      refine ⟨_, rfl, _, _, rfl, rfl, some (.int (i : Nat)), some (.str its), y6, ?_, s2.trans s3⟩
      rw [lt]
      rfl
    · rw [if_neg c] at lt
      refine ⟨some (.int (i : Nat)), some (.str its), y6, ?_, s2.trans s3⟩
      rw [lt]
      rfl
  rintro σ H1 ⟨y4, y5, y6, rfl, s1⟩
  rw [List.length_map, List.take_of_length_le (Nat.le_refl _)]
  -- known
  refine ⟨.ref t, rfl, t, rfl, ⟨_, (ht.same s1).sq⟩, fun D hD => ?_⟩
  have nD : H D = none := s1.free hD
  refine lc_it (walk_tup (xs := stand.map V.str)) (fun i H' => Same H H' ∧ H' D = some (.lst (((stand.take i).filter (frd ps x)).map V.str))) ?_ ?_ ?_ ?_
  · exact ⟨s1.trans (same_upd hD), upd_same⟩
  · rintro i H' _ ⟨s2, _⟩
    exact (ht.same s2).sq
  · rintro i v H3 H2 hi ⟨s2, d2⟩ ⟨rfl, e2⟩
    obtain ⟨its, hits, rfl⟩ := at_map e2
    rw [List.length_map] at hi
    have ft : (stand.take (i + 1)).filter (frd ps x) = (stand.take i).filter (frd ps x) ++ if frd ps x its = true then [its] else [] := by
      rw [List.take_add_one, hits, List.filter_append]
      show _ ++ List.filter (frd ps x) [its] = _
      rw [List.filter_cons, List.filter_nil]
    refine ⟨rfl, _, rfl, _, rfl, _, rfl, a, ps, x, its, rfl, ha.same s2, ho, gx, gs.at_ hits, fun H4 s4 => ⟨_, rfl, ?_⟩⟩
    refine ite2 (fun c => ?_) (fun c => ?_)
    · rw [if_pos c] at ft
      refine ⟨_, rfl, _, s4 _ _ d2, ?_, fun b o e => ?_, ?_⟩
      · rw [List.length_map]
        exact small1000 (Nat.le_trans (List.length_filter_le _ _) (by rw [List.length_take]; omega))
      · rw [upd_ne (ne_of_none e nD)]
        exact s4 _ _ (s2 _ _ e)
      · rw [upd_same, ft, List.map_append]
        rfl
    · rw [if_neg c, List.append_nil] at ft
      exact ⟨s2.trans s4, by rw [ft]; exact s4 _ _ d2⟩
  rintro H2 ⟨s2, d2⟩
  rw [List.length_map, List.take_of_length_le (Nat.le_refl _)] at d2
  have t2 := ht.same s2
  -- spot
  refine ⟨fun v H' => v = .int (spotOf ps stand x : Nat) ∧ Same H H', ?_, ?_⟩
  · refine ⟨_, rfl, (by show 0 ≤ sizeLine; decide), fun p hp => ⟨D, p, _, rfl, rfl, same_upd hp _ _ d2, upd_same, gs.filter, _, rfl, ?_⟩⟩
    have s3 := s2.trans (same_upd (o := .lst []) hp)
    unfold spotOf
    refine ite2 (fun c => ?_) (fun c => ?_)
    · refine ⟨_, rfl, ?_, s3⟩
      cases e : lastP (frd ps x) stand with
      | none =>
        exact absurd (lastP_nil.mp e) (of_decide_eq_false (by simpa using c))
      | some k => rfl
    · refine ⟨.ref t, rfl, t, _, rfl, .inr (t2.same (same_upd hp)).sq, ?_, s3⟩
      rw [List.length_map]
      cases e : lastP (frd ps x) stand with
      | none => rfl
      | some k =>
        have z : ¬ stand.filter (frd ps x) = [] := fun z => by rw [lastP_nil.mpr z] at e; cases e
        rw [decide_eq_false z] at c
        first | exact absurd rfl c | exact c.elim rfl | skip
  rintro v H3 ⟨rfl, s3⟩
  have t3 := ht.same s3
  refine ⟨.ref t, rfl, _, rfl, _, rfl, t, _, rfl, t3, fun t1 H4 s4 e4 => ?_⟩
  rw [cutV_map, cutL_to] at e4
  refine ⟨_, rfl, (by show 1 ≤ sizeLine; decide), fun p Hp sp hp tp => ?_⟩
  refine ⟨t1, p, _, _, rfl, rfl, e4.same sp, tp, ?_, fun t5 H5 s5 e5 => ?_⟩
  · rw [List.length_map, List.length_take]
    exact small_le (by show _ + 1 ≤ 1000; omega)
  have s35 := (s4.trans sp).trans s5
  refine ⟨.ref t, rfl, _, rfl, _, rfl, t, _, rfl, t3.same s35, fun t6 H6 s6 e6 => ?_⟩
  rw [cutV_map, cutL_from] at e6
  refine ⟨t5, t6, _, _, rfl, rfl, e5.same s6, e6, ?_, fun t7 H7 s7 e7 => ?_⟩
  · rw [List.length_append, List.length_map, List.length_map, List.length_take, List.length_drop]
    exact small_le (by show _ + 1 + _ ≤ 1000; omega)
  refine q t7 H7 ((s3.trans s35).trans (s6.trans s7)) ?_
  unfold comeTo
  rw [List.map_append, List.map_append]
  exact e7
/-! ### _law_stand_of, _law_strewn, _law_thinned, _law_fine_stand, _law_any_stand -/
abbrev sStandOf : Stmt := topS 23
abbrev nStandOf : List Str := ["_law_pals_here", "_law_some", "_law_stand", "_law_name"]
theorem scStandOf : FnScope nStandOf ["_law_pals_here", "_law_some"] (defScope sStandOf) := ⟨rfl, rfl, rfl, by decide +kernel, rfl, by decide +kernel, by decide +kernel⟩
theorem ok_standOf {f : Addr} {fd : FuncData} (CC : Cal P w K mg base 2 "_law_come" ["_law_pals_here", "_law_stand", "_law_name"] spCome) (F : Fun K "_law_stand_of" "_law_stand_of" sStandOf f fd) : FnOk P w K mg base CX0 3 f fd ["_law_pals_here", "_law_some"] spStandOf := by
  refine fok F scStandOf (fun vs H Q E h => ?_) (fun cdv A outer s H vs Q E hr h => ?_)
  · obtain ⟨a, l, ps, so, rfl, _⟩ := h
    rfl
  obtain ⟨a, l, ps, so, rfl, ha, ho, hl, gs, hn, q⟩ := h
  refine ⟨_, pss_cons (ps_set (i := 2) scStandOf.nd rfl (.inl rfl) (pe_tupF pa_nil))
    (pss_cons (ps_for PassesOwn.never rfl (pi_list (pv 1)) (pg_name (i := 3) scStandOf.nd rfl (.inl rfl))
      (pss_one (ps_set (i := 2) scStandOf.nd rfl (.inl rfl) (pe_cal CC hr (pa_cons (pv 0) (pa_cons (pv 2) (pa_cons (pv 3) pa_nil)))))))
    (pss_one (ps_ret (pv 2)))), ?_⟩
  refine ⟨(by show 0 ≤ sizeLine; decide), fun p Hp sp hp tp => ?_⟩
  refine ⟨.ref l, rfl, l, rfl, ⟨_, .inl (.inl (sp _ _ hl))⟩, ?_⟩
  refine for_it (walk_list (xs := so.map V.str)) (fun i σ H' => ∃ (t : Addr) (y3 : Option V), σ = [some (.ref a), some (.ref l), some (.ref t), y3] ∧ Same H H' ∧ TupAt H' t ((standOf ps (so.take i)).map V.str)) ?_ ?_ ?_ ?_
  · exact ⟨p, _, rfl, sp, tp⟩
  · rintro i σ H' _ ⟨t, y3, _, s1, _⟩
    exact .inl (.inl (s1 _ _ hl))
  · rintro i v σ H2 H1 hi ⟨t, y3, rfl, s1, e1⟩ ⟨rfl, e2⟩
    rw [List.length_map] at hi
    obtain ⟨x, hx, rfl⟩ := at_map e2
    have pm := stand_perm ps (so.take i)
    have gst : Goods (standOf ps (so.take i)) := Goods.perm (fun y hy => gs y (List.mem_of_mem_take hy)) pm
    refine ⟨_, rfl, _, rfl, _, rfl, a, t, ps, _, x, rfl, ha.same s1, ho, e1, gst, gs.at_ hx, ?_, fun t' H3 s3 e3 => ?_⟩
    · rw [pm.length_eq, List.length_take]
      omega
    · refine ⟨t', _, rfl, s1.trans s3, ?_⟩
      rw [List.take_add_one, hx]
      show TupAt H3 t' ((standOf ps (so.take i ++ [x])).map V.str)
      rw [standOf_app]
      exact e3
  · rintro σ H1 ⟨t, y3, rfl, s1, e1⟩
    rw [List.length_map, List.take_of_length_le (Nat.le_refl _)] at e1
    exact ⟨.ref t, rfl, q t H1 s1 e1⟩
abbrev sStrewn : Stmt := topS 24
abbrev nStrewn : List Str := ["_law_box_here", "_law_some", "_law_found", "_law_name"]
theorem scStrewn : FnScope nStrewn ["_law_box_here", "_law_some"] (defScope sStrewn) := ⟨rfl, rfl, rfl, by decide +kernel, rfl, by decide +kernel, by decide +kernel⟩
theorem ok_strewn {f : Addr} {fd : FuncData} (B : Blt mg) (CT : Cal P w K mg base 1 "_law_take" ["_law_box_here", "_law_many"] spTake) (F : Fun K "_law_strewn" "_law_strewn" sStrewn f fd) : FnOk P w K mg base CX0 2 f fd ["_law_box_here", "_law_some"] spStrewn := by
  refine fok F scStrewn (fun vs H Q E h => ?_) (fun cdv A outer s H vs Q E hr h => ?_)
  · obtain ⟨b, l, pool, rfl, _⟩ := h
    rfl
  obtain ⟨b, l, pool, rfl, hb, hl, hn, q⟩ := h
  have nlb : l ≠ b := hl.elim (fun e => e.ne hb) (fun e => hb.ne_strs e)
  refine ⟨_, pss_cons (ps_set (i := 2) scStrewn.nd rfl (.inl rfl) (pe_lst pa_nil))
    (pss_cons (ps_for PassesOwn.never rfl (pi_or2 (pi_list (pv 1)) (pi_tup (pv 1))) (pg_name (i := 3) scStrewn.nd rfl (.inl rfl))
      (pss_one (ps_expr (pe_bm PySem.F.plainAttrs_list PySem.F.slot_list_insert PySem.F.type_list_insert mt_insert (pv 2) (pa_cons (pe_cal CT hr (pa_cons (pv 0) (pa_cons (pe_op op_add (pe_callB call_len_seq (by rfl) B.len PySem.boot_len (pa_cons (pv 2) pa_nil)) pe_int) pa_nil))) (pa_cons (pv 3) pa_nil))))))
    (pss_one (ps_ret (pv 2)))), ?_⟩
  refine ⟨(by show 0 ≤ sizeLine; decide), fun fa hfa => ?_⟩
  have s0 : Same H (upd H fa (.lst [])) := same_upd hfa
  have nfb : fa ≠ b := hb.ne_none hfa
  have nlf : l ≠ fa := hl.elim (fun e => e.ne_new hfa) (fun e => ne_of_none e hfa)
  have turn : ∀ (i : Nat) (x : Str) (σ : L2.St) (H1 : Hp), pool[i]? = some x → (∃ (order : List Str) (y3 : Option V), σ = [some (.ref b), some (.ref l), some (.ref fa), y3] ∧ Oth b H H1 ∧ IsBox H1 b ∧ RowAt H1 l pool ∧ H1 fa = some (.lst (order.map V.str)) ∧ order.Perm (pool.take i)) → ∀ (D : Ends), D.nx = (fun σ H1 => ∃ (order : List Str) (y3 : Option V), σ = [some (.ref b), some (.ref l), some (.ref fa), y3] ∧ Oth b H H1 ∧ IsBox H1 b ∧ RowAt H1 l pool ∧ H1 fa = some (.lst (order.map V.str)) ∧ order.Perm (pool.take (i + 1))) →
      (tDrop (tBM K "list" (fun x vs H Q => ∃ l xs i y, x = .ref l ∧ vs = [.int i, y] ∧ H l = some (.lst xs) ∧ xs.length < sizeLine ∧ 0 ≤ i ∧ i < 2 ^ 63 ∧ Q .non (upd H l (.lst (xs.take i.toNat ++ [y] ++ xs.drop i.toNat)))) (tVar 2) (tCons (tCall spTake [] E0 (tCons (tVar 0) (tCons (tOp (rI0 fun i j => .int (i + j)) (tCB (fun xs H Q => ∃ p ys, xs = [.ref p] ∧ (SqL K H p ys ∨ SqT K H p ys) ∧ Q (.int ys.length) H) (tCons (tVar 2) tNil)) (tC (.int 1))) tNil))) (tCons (tVar 3) tNil)))) D (σ.set 3 (some (.str x))) H1 := by
    rintro i x σ H1 hx ⟨order, y3, rfl, o1, b1, l1, f1, p1⟩ D hD
    have hi : i < pool.length := (List.getElem?_eq_some_iff.mp hx).1
    have ol : order.length = i := by
      rw [p1.length_eq, List.length_take]
      omega
    have L1 : SqL K H1 fa (order.map V.str) := .inl (.inl f1)
    refine ⟨.ref fa, rfl, .inl ⟨rfl, _, L1⟩, .ref b, rfl, .ref fa, rfl, fa, _, rfl, .inl L1, _, _, rfl, rfl, b, _, rfl, b1, by omega, ?_, fun v H2 o2 b2 v0 v1 => ?_⟩
    · rw [List.length_map]
      omega
    have f2 : H2 fa = some (.lst (order.map V.str)) := o2 _ _ nfb f1
    refine ⟨_, rfl, fa, _, v, _, rfl, rfl, f2, ?_, v0, ?_, ?_⟩
    · rw [List.length_map]
      exact small1000 (by omega)
    · rw [List.length_map] at v1
      omega
    rw [hD]
    have pm := ins_perm order v.toNat x
    refine ⟨order.take v.toNat ++ [x] ++ order.drop v.toNat, _, rfl, fun a o na e => ?_, ?_, ?_, ?_, ?_⟩
    · rw [upd_ne (ne_of_none e hfa)]
      exact o2 _ _ na (o1 _ _ na e)
    · obtain ⟨i1, i2, i3, e⟩ := b2
      exact ⟨i1, i2, i3, (upd_ne (Ne.symm nfb)).trans e⟩
    · exact l1.elim (fun e => .inl ((e.oth o2 b1).upd_ f2)) (fun e => .inr ((upd_ne nlf).trans (o2 _ _ nlb e)))
    · rw [upd_same, ins_map]
    · refine pm.trans ((p1.cons x).trans ?_)
      rw [List.take_add_one, hx]
      exact (List.perm_append_singleton x (pool.take i)).symm
  have fin : ∀ (σ : L2.St) (H1 : Hp), (∃ (order : List Str) (y3 : Option V), σ = [some (.ref b), some (.ref l), some (.ref fa), y3] ∧ Oth b H H1 ∧ IsBox H1 b ∧ RowAt H1 l pool ∧ H1 fa = some (.lst (order.map V.str)) ∧ order.Perm (pool.take (pool.map V.str).length)) → ∃ v, σ[2]? = some (some v) ∧ Q v H1 := by
    rintro σ H1 ⟨order, y3, rfl, o1, b1, l1, f1, p1⟩
    rw [List.length_map, List.take_of_length_le (Nat.le_refl _)] at p1
    exact ⟨.ref fa, rfl, q fa order H1 o1 b1 hfa f1 p1⟩
  rcases hl with e | e
  · refine .inr ⟨.ref l, rfl, l, rfl, ⟨_, (e.same s0).sq⟩, ?_⟩
    refine for_it (walk_tup (xs := pool.map V.str)) (fun i σ H1 => ∃ (order : List Str) (y3 : Option V), σ = [some (.ref b), some (.ref l), some (.ref fa), y3] ∧ Oth b H H1 ∧ IsBox H1 b ∧ RowAt H1 l pool ∧ H1 fa = some (.lst (order.map V.str)) ∧ order.Perm (pool.take i)) ?_ ?_ ?_ ?_
    · exact ⟨[], _, rfl, Oth.of s0, hb.same s0, .inl (e.same s0), upd_same, List.Perm.refl _⟩
    · rintro i σ H1 _ ⟨order, y3, _, o1, _⟩
      exact (e.oth o1 hb).sq
    · rintro i v σ H2 H1 hi pv ⟨rfl, e2⟩
      obtain ⟨x, hx, rfl⟩ := at_map e2
      exact turn i x σ _ hx pv _ rfl
    · exact fin
  · refine .inl ⟨.ref l, rfl, l, rfl, ⟨_, .inl (.inl (s0 _ _ e))⟩, ?_⟩
    refine for_it (walk_list (xs := pool.map V.str)) (fun i σ H1 => ∃ (order : List Str) (y3 : Option V), σ = [some (.ref b), some (.ref l), some (.ref fa), y3] ∧ Oth b H H1 ∧ IsBox H1 b ∧ RowAt H1 l pool ∧ H1 fa = some (.lst (order.map V.str)) ∧ order.Perm (pool.take i)) ?_ ?_ ?_ ?_
    · exact ⟨[], _, rfl, Oth.of s0, hb.same s0, .inr (s0 _ _ e), upd_same, List.Perm.refl _⟩
    · rintro i σ H1 _ ⟨order, y3, _, o1, _⟩
      exact .inl (.inl (o1 _ _ nlb e))
    · rintro i v σ H2 H1 hi pv ⟨rfl, e2⟩
      obtain ⟨x, hx, rfl⟩ := at_map e2
      exact turn i x σ _ hx pv _ rfl
    · exact fin
/-! ### both_ways -/
abbrev sBoth : Stmt := topS 3
abbrev nBoth : List Str := ["friends", "known", "one", "other"]
theorem scBoth : FnScope nBoth ["friends"] (defScope sBoth) := ⟨rfl, rfl, rfl, by decide +kernel, rfl, by decide +kernel, by decide +kernel⟩
theorem ok_both {f : Addr} {fd : FuncData} (F : Fun K "both_ways" "both_ways" sBoth f fd) : FnOk P w K mg base CX0 1 f fd ["friends"] spBoth := by
  refine fok F scBoth (fun vs H Q E h => ?_) (fun cdv A outer s H vs Q E hr h => ?_)
  · obtain ⟨a, ps, rfl, _⟩ := h
    rfl
  obtain ⟨a, ps, rfl, ⟨bs, ha, hp, rfl⟩, hn, q⟩ := h
  rw [List.length_map] at hn
  have hu := hu_of hr
  refine ⟨_, pss_cons (ps_set (i := 1) scBoth.nd rfl (.inl rfl) pe_dnewT)
    (pss_cons (ps_for PassesOwn.never rfl (pi_or2 (pi_list (pv 0)) (pi_tup (pv 0))) (pg_tup rfl (pgs_cons (pg_name (i := 2) scBoth.nd rfl (.inl rfl)) (pgs_cons (pg_name (i := 3) scBoth.nd rfl (.inl rfl)) pgs_nil)))
      (pss_cons (ps_dput hu (pv 1) (pe_tup (pa_cons (pv 2) (pa_cons (pv 3) pa_nil))) pe_bl rfl)
      (pss_one (ps_dput hu (pv 1) (pe_tup (pa_cons (pv 3) (pa_cons (pv 2) pa_nil))) pe_bl rfl))))
    (pss_one (ps_ret (pv 1)))), ?_⟩
  refine fun d hd => ?_
  have s0 : Same H (upd H d (.dT [])) := same_upd hd
  have Pv : ∃ Pv : Nat → L2.St → Hp → Prop, Pv = fun i σ H' => ∃ (y2 y3 : Option V) (kvs : List (List Key × V)), σ = [some (.ref a), some (.ref d), y2, y3] ∧ Same H H' ∧ H' d = some (.dT kvs) ∧ kvs.length ≤ 2 * i ∧ ∀ x y, (valV kvs (k2 x y)).isSome = frd ((bs.map (·.2)).take i) x y := ⟨_, rfl⟩
  obtain ⟨Pv, hPv⟩ := Pv
  have start : Pv 0 [some (.ref a), some (.ref d), none, none] (upd H d (.dT [])) := by
    rw [hPv]
    exact ⟨_, _, [], rfl, s0, upd_same, Nat.zero_le _, fun x y => rfl⟩
  have turn : ∀ (i : Nat) (c : B3) (σ : L2.St) (H1 : Hp), bs[i]? = some c → Pv i σ H1 → ∀ (D : Ends), D.nx = Pv (i + 1) →
      (tSeq (sDPut (tVar 1) (tTup (tCons (tVar 2) (tCons (tVar 3) tNil))) (tC (.bl true))) (sDPut (tVar 1) (tTup (tCons (tVar 3) (tCons (tVar 2) tNil))) (tC (.bl true)))) D ((σ.set 2 (some (.str c.2.1))).set 3 (some (.str c.2.2))) H1 := by
    intro i c σ H1 hc pv D hD
    rw [hPv] at pv
    obtain ⟨y2, y3, kvs, rfl, s1, e1, l1, v1⟩ := pv
    have hi : i < bs.length := (List.getElem?_eq_some_iff.mp hc).1
    refine ⟨_, rfl, _, rfl, _, rfl, (by show 2 ≤ sizeLine; decide), fun p hp' => ?_⟩
    have n1 : d ≠ p := ne_of_none e1 hp'
    have e2 : upd H1 p (.tup [.str c.2.1, .str c.2.2]) d = some (.dT kvs) := (upd_ne n1).trans e1
    refine ⟨d, _, rfl, DPut.t (k := k2 c.2.1 c.2.2) e2 upd_same (small9 (by omega)), ?_⟩
    have pl := putK_len (kvs := kvs) (k := k2 c.2.1 c.2.2) (v := V.bl true)
    refine ⟨_, rfl, _, rfl, _, rfl, (by show 2 ≤ sizeLine; decide), fun p2 hp2 => ?_⟩
    have n2 : d ≠ p2 := fun z => by rw [← z, upd_same] at hp2; cases hp2
    refine ⟨d, _, rfl, DPut.t (k := k2 c.2.2 c.2.1) ((upd_ne n2).trans upd_same) upd_same (small9 (by omega)), ?_⟩
    have pl2 := putK_len (kvs := putK kvs (k2 c.2.1 c.2.2) (V.bl true)) (k := k2 c.2.2 c.2.1) (v := V.bl true)
    rw [hD, hPv]
    refine ⟨_, _, _, rfl, fun b o e => ?_, upd_same, by omega, fun x y => ?_⟩
    · have nb : b ≠ d := ne_of_none e hd
      rw [upd_ne nb]
      refine same_upd hp2 _ _ ?_
      rw [upd_ne nb]
      exact same_upd hp' _ _ (s1 _ _ e)
    · rw [both_put v1, List.take_add_one, List.getElem?_map, hc]
      rfl
  have fin : ∀ (σ : L2.St) (H1 : Hp), Pv (refs bs).length σ H1 → ∃ v, σ[1]? = some (some v) ∧ Q v H1 := by
    intro σ H1 pv
    rw [hPv] at pv
    obtain ⟨y2, y3, kvs, rfl, s1, e1, l1, v1⟩ := pv
    refine ⟨.ref d, rfl, q d H1 s1 hd ⟨kvs, e1, fun x y => ?_⟩⟩
    rw [v1, List.take_of_length_le (by show (bs.map _).length ≤ (bs.map _).length; rw [List.length_map, List.length_map]; exact Nat.le_refl _)]
  have item : ∀ (i : Nat) (v : V) (σ : L2.St) (H1 : Hp), (refs bs)[i]? = some v → Pv i σ H1 → ∃ c : B3, bs[i]? = some c ∧ v = .ref c.1 ∧ H1 c.1 = some (.tup [.str c.2.1, .str c.2.2]) := by
    intro i v σ H1 e pv
    rw [hPv] at pv
    obtain ⟨y2, y3, kvs, rfl, s1, e1, l1, v1⟩ := pv
    obtain ⟨c, hc, rfl⟩ := at_map e
    exact ⟨c, hc, rfl, s1 _ _ (hp c (List.mem_of_getElem? hc))⟩
  have stay : ∀ (i : Nat) (σ : L2.St) (H1 : Hp), Pv i σ H1 → Same H H1 := by
    intro i σ H1 pv
    rw [hPv] at pv
    obtain ⟨y2, y3, kvs, rfl, s1, _⟩ := pv
    exact s1
  rcases ha with e | e
  · refine .inr ⟨.ref a, rfl, a, rfl, ⟨_, .inl (.inl (s0 _ _ e))⟩, ?_⟩
    refine for_it (walk_tup (xs := refs bs)) Pv start (fun i σ H1 _ pv => .inl (.inl (stay i σ H1 pv _ _ e))) ?_ fin
    rintro i v σ H2 H1 hi pv ⟨rfl, e2⟩
    obtain ⟨c, hc, rfl, h3⟩ := item i v σ _ e2 pv
    exact ⟨c.1, _, rfl, .inl (.inl h3), rfl, _, _, rfl, _, _, rfl, rfl, turn i c σ _ hc pv _ rfl⟩
  · refine .inl ⟨.ref a, rfl, a, rfl, ⟨_, .inl (.inl (s0 _ _ e))⟩, ?_⟩
    refine for_it (walk_list (xs := refs bs)) Pv start (fun i σ H1 _ pv => .inl (.inl (stay i σ H1 pv _ _ e))) ?_ fin
    rintro i v σ H2 H1 hi pv ⟨rfl, e2⟩
    obtain ⟨c, hc, rfl, h3⟩ := item i v σ _ e2 pv
    exact ⟨c.1, _, rfl, .inl (.inl h3), rfl, _, _, rfl, _, _, rfl, rfl, turn i c σ _ hc pv _ rfl⟩
/-! ### last_friend_place -/
abbrev sLfp : Stmt := topS 4
abbrev nLfp : List Str := ["known", "row", "who", "places", "place", "other"]
theorem scLfp : FnScope nLfp ["known", "row", "who"] (defScope sLfp) := ⟨rfl, rfl, rfl, by decide +kernel, rfl, by decide +kernel, by decide +kernel⟩
theorem ok_lfp {f : Addr} {fd : FuncData} (B : Blt mg) (F : Fun K "last_friend_place" "last_friend_place" sLfp f fd) : FnOk P w K mg base CX0 1 f fd ["known", "row", "who"] spLfp := by
  refine fok F scLfp (fun vs H Q E h => ?_) (fun cdv A outer s H vs Q E hr h => ?_)
  · obtain ⟨d, r, ps, row, who, rfl, _⟩ := h
    rfl
  obtain ⟨d, r, ps, row, who, rfl, hd, hrow, hn, q⟩ := h
  have hu := hu_of hr
  refine ⟨_, pss_cons (ps_setLc (i := 3) (own := [("place", 4), ("other", 5)]) (g := gTup K 2 (gCons (gName 4) (gCons (gName 5) gNil))) (tt := tB (tDIn (tTup (tCons (tVar 2) (tCons (tVar 5) tNil))) (tVar 0))) rfl scLfp.nd rfl rfl (sw_true rfl rfl rfl (by decide +kernel)) (pi_or2 (pi_enum (by rfl) B.enumerate (pa_cons (pv 1) pa_nil)) (pi_enumT (by rfl) B.enumerate (pa_cons (pv 1) pa_nil))) (blkOk_by (N := nLfp) (sc := defScope sLfp) (by decide +kernel))
        (fun _ _ _ _ _ => pg_tup rfl (pgs_cons (pg_name (i := 4) scLfp.nd rfl (Or.inl rfl)) (pgs_cons (pg_name (i := 5) scLfp.nd rfl (Or.inl rfl)) pgs_nil)))
        (fun _ _ _ _ _ => pts_one (pt_cmp (pc_din hu (pe_tup (pa_cons (pv 2) (pa_cons (pv 5) pa_nil))) (pv 0)))) (fun _ _ _ _ _ => pv 4))
    (pss_one (ps_ret (pe_ifExp (pt_truth (pv 3) (by intro _; rfl)) (pe_ix ix_list (pv 3) (pe_un un_neg pe_int) (fun _ _ => rfl)) pe_non))), ?_⟩
  have key : ∀ (J : It) (G : Hp → Prop), Walk J (row.map V.str).length G (YPair (fun i => some (.int (i : Nat))) (fun i => (row.map V.str)[i]?)) → (∀ H', Same H H' → G H') → ∀ D, H D = none → ∀ (Qd : Hp → Prop), (∀ H' (ls : List Int), Same H H' → H' D = some (.lst (ls.map V.int)) → ls.getLast? = (lastP (frd ps who) row).map (fun k => (k : Int)) → Qd H') →
      ∃ W : Nat → Nat → Hp → Prop, (∃ m, W 0 m (upd H D (.lst []))) ∧ ∀ i m H, W i m H →
      (J.stop i H ∧ Qd H) ∨ (J.go i H ∧ ∃ Nx : Hp → Prop, (∀ H', Nx H' → ∃ m', m' < m ∧ W (i + 1) m' H') ∧ ∀ x H', J.yld i H x H' → (gTup K 2 (gCons (gName 4) (gCons (gName 5) gNil))) x (wipe [some (.ref d), some (.ref r), some (.str who), none, none, none] [4, 5]) H' fun σ2 H2 => wipe σ2 [4, 5] = wipe [some (.ref d), some (.ref r), some (.str who), none, none, none] [4, 5] ∧ (tB (tDIn (tTup (tCons (tVar 2) (tCons (tVar 5) tNil))) (tVar 0))) σ2 H2 fun b H3 =>
        if b = true then (tVar 4) σ2 H3 fun y H4 => ∃ acc, H4 D = some (.lst acc) ∧ acc.length < sizeLine ∧ Nx (upd H4 D (.lst (acc ++ [y]))) else Nx H3) := by
    intro J G wk hG D hD Qd fin
    refine lc_it wk (fun i H' => ∃ ls : List Int, Same H H' ∧ H' D = some (.lst (ls.map V.int)) ∧ ls.length ≤ i ∧ ls.getLast? = (lastP (frd ps who) (row.take i)).map (fun k => (k : Int))) ?_ ?_ ?_ ?_
    · exact ⟨[], same_upd hD, upd_same, Nat.zero_le _, rfl⟩
    · rintro i H' _ ⟨ls, s1, _⟩
      exact hG H' s1
    · rintro i v H1 H2 hi ⟨ls, s1, d1, m1, g1⟩ ⟨T, x1, x2, rfl, nT, rfl, e1, e2⟩
      cases e1
      obtain ⟨o, ho, rfl⟩ := at_map e2
      rw [List.length_map] at hi
      have s2 := s1.trans (same_upd (o := .tup [.int (i : Nat), .str o]) nT)
      refine ⟨T, _, rfl, .inl (.inl upd_same), rfl, _, _, rfl, _, _, rfl, rfl, rfl, ?_⟩
      refine ⟨_, rfl, _, rfl, (by show 2 ≤ sizeLine; decide), fun p hp => ?_⟩
      have s3 := s2.trans (same_upd (o := .tup [.str who, .str o]) hp)
      obtain ⟨kvs, k1, k3⟩ := hd.same s3
      have nDT : D ≠ T := ne_of_none d1 nT
      have d2 : upd H1 T (.tup [.int (i : Nat), .str o]) D = some (.lst (ls.map V.int)) := (upd_ne nDT).trans d1
      have nDp : D ≠ p := ne_of_none d2 hp
      have d3 := (upd_ne (o := .tup [.str who, .str o]) nDp).trans d2
      refine ⟨.ref d, rfl, d, _, rfl, DGet.t (k := k2 who o) k1 upd_same, _, rfl, ?_⟩
      rw [k3]
      have lt := lastP_take (frd ps who) ho
      refine ite2 (fun c => ?_) (fun c => ?_)
      · rw [if_pos c] at lt
        refine ⟨_, rfl, _, d3, ?_, ls ++ [(i : Int)], fun b o' e => ?_, ?_, ?_, ?_⟩
        · rw [List.length_map]
          exact small1000 (by omega)
        · rw [upd_ne (ne_of_none e hD)]
          exact s3 _ _ e
        · rw [upd_same, List.map_append]
          rfl
        · rw [List.length_append]
          show ls.length + 1 ≤ i + 1
          omega
        · rw [lt, List.getLast?_append]
          rfl
      · rw [if_neg c] at lt
        exact ⟨ls, s3, d3, by omega, by rw [lt]; exact g1⟩
    · rintro H1 ⟨ls, s1, d1, m1, g1⟩
      rw [List.length_map, List.take_of_length_le (Nat.le_refl _)] at g1
      exact fin H1 ls s1 d1 g1
  have last : ∀ (D : Addr) (H' : Hp) (ls : List Int), Same H H' → H' D = some (.lst (ls.map V.int)) → ls.getLast? = (lastP (frd ps who) row).map (fun k => (k : Int)) →
      (tRet (tIf (fun σ H Q => tVar 3 σ H fun x H1 => ∃ k, TruV K x H1 k ∧ Q k H1) (tOp (rIxL K) (tVar 3) (tUn (rU fun i => .int (-i)) (tC (.int 1)))) (tC .non))) { nx := fun _ H' => Q .non H', rt := Q } [some (.ref d), some (.ref r), some (.str who), some (.ref D), none, none] H' := by
    intro D H' ls s1 d1 g1
    refine ⟨.ref D, rfl, _, .inl ⟨_, .inl (.inl d1), rfl⟩, ite2 (fun c => ?_) (fun c => ?_)⟩
    · obtain ⟨z, hz⟩ : ∃ z, ls.getLast? = some z := by
        cases h : ls.getLast? with
        | some z => exact ⟨z, rfl⟩
        | none =>
          rw [List.getLast?_eq_none_iff.mp h] at c
          cases c
      obtain ⟨ys, hz'⟩ := List.getLast?_eq_some_iff.mp hz
      have ev : lfpV (lastP (frd ps who) row) = .int z := by
        rw [hz] at g1
        cases e : lastP (frd ps who) row with
        | none => rw [e] at g1; cases g1
        | some k =>
          rw [e] at g1
          have : z = (k : Int) := Option.some.inj g1
          rw [this]
          rfl
      refine ⟨.ref D, rfl, 1, rfl, D, _, -1, .int z, rfl, rfl, .inl (.inl d1), ?_, ?_⟩
      · rw [hz', List.map_append]
        exact atI_last _ _
      · rw [← ev]
        exact q H' s1
    · have e : lfpV (lastP (frd ps who) row) = .non := by
        cases h : lastP (frd ps who) row with
        | none => rfl
        | some k =>
          rw [h] at g1
          cases ls with
          | nil => cases g1
          | cons x r => exact absurd rfl c
      show Q .non H'
      rw [← e]
      exact q H' s1
  rcases hrow with e | e
  · refine .inr ⟨.ref r, rfl, r, _, rfl, e.sq, fun D hD => ?_⟩
    exact key _ _ walk_enumT (fun H' s => (e.same s).sq) D hD _ (fun H' ls s1 d1 g1 => last D H' ls s1 d1 g1)
  · refine .inl ⟨.ref r, rfl, r, _, rfl, .inl (.inl e), fun D hD => ?_⟩
    exact key _ _ walk_enum (fun H' s => .inl (.inl (s _ _ e))) D hD _ (fun H' ls s1 d1 g1 => last D H' ls s1 d1 g1)
/-! ### host_place, stood_in, let_in -/
abbrev sHostP : Stmt := topS 6
abbrev nHostP : List Str := ["known", "row", "who"]
theorem scHostP : FnScope nHostP nHostP (defScope sHostP) := ⟨rfl, rfl, rfl, by decide +kernel, rfl, by decide +kernel, by decide +kernel⟩
theorem ok_hostP {f : Addr} {fd : FuncData} (CL : Cal P w K mg base 1 "last_friend_place" ["known", "row", "who"] spLfp) (F : Fun K "host_place" "host_place" sHostP f fd) : FnOk P w K mg base CX0 2 f fd nHostP spHostP := by
  refine fok F scHostP (fun vs H Q E h => ?_) (fun cdv A outer s H vs Q E hr h => ?_)
  · obtain ⟨a, r, ps, row, who, rfl, _⟩ := h
    rfl
  obtain ⟨d, r, ps, row, who, rfl, hd, hrow, hn, nw, q⟩ := h
  refine ⟨_, pss_cons (ps_if (pt_cmpR op_in_seq (pv 2) (pv 1) (by rfl)) (pss_one ps_never) pss_nil)
    (pss_one (ps_ret (pe_cal CL hr (pa_cons (pv 0) (pa_cons (pv 1) (pa_cons (pv 2) pa_nil)))))), ?_⟩
  have sq : SqL K H r (row.map V.str) ∨ SqT K H r (row.map V.str) := hrow.elim (fun e => .inr e.sq) (fun e => .inl (.inl (.inl e)))
  refine ⟨_, rfl, .ref r, rfl, r, _, rfl, sq, rfl, flat_strs row, _, rfl, ?_⟩
  rw [inV_strs, decide_eq_false nw]
  exact ⟨_, rfl, _, rfl, _, rfl, d, r, ps, row, who, rfl, hd, hrow, hn, fun H2 s2 => q H2 s2⟩
def spComingP : Sp := fun vs H Q _ => ∃ (d r : Addr) (ps : List (Str × Str)) (row : List Str) (who : Str), vs = [.ref d, .ref r, .str who] ∧ KnAt H d ps ∧ RowAt H r row ∧ row.length ≤ 100 ∧ who ∉ row ∧
  ∀ H', Same H H' → Q (.int (spotOf ps row who : Nat)) H'
theorem spot_le (ps : List (Str × Str)) (row : List Str) (who : Str) : spotOf ps row who ≤ row.length := by
  unfold spotOf
  split
  · rename_i k ek
    exact lastP_lt ek
  · exact Nat.le_refl _
abbrev sComingP : Stmt := topS 7
abbrev nComingP : List Str := ["known", "row", "who", "place"]
theorem scComingP : FnScope nComingP nHostP (defScope sComingP) := ⟨rfl, rfl, rfl, by decide +kernel, rfl, by decide +kernel, by decide +kernel⟩
theorem ok_comingP {f : Addr} {fd : FuncData} (B : Blt mg) (CH : Cal P w K mg base 2 "host_place" nHostP spHostP) (F : Fun K "coming_place" "coming_place" sComingP f fd) : FnOk P w K mg base CX0 3 f fd nHostP spComingP := by
  refine fok F scComingP (fun vs H Q E h => ?_) (fun cdv A outer s H vs Q E hr h => ?_)
  · obtain ⟨a, r, ps, row, who, rfl, _⟩ := h
    rfl
  obtain ⟨a, r, ps, row, who, rfl, ha, hrow, hn, nw, q⟩ := h
  refine ⟨_, pss_cons (ps_set (i := 3) scComingP.nd rfl (.inl rfl) (pe_cal CH hr (pa_cons (pv 0) (pa_cons (pv 1) (pa_cons (pv 2) pa_nil)))))
    (pss_one (ps_ret (pe_ifExp (pt_cmp (pc_isN (pv 3))) (pe_callB call_len_seq (by rfl) B.len PySem.boot_len (pa_cons (pv 1) pa_nil)) (pe_op op_add (pv 3) pe_int)))), ?_⟩
  refine ⟨_, rfl, _, rfl, _, rfl, a, r, ps, row, who, rfl, ha, hrow, hn, nw, fun H1 s1 => ?_⟩
  have row1 := hrow.same s1
  refine ⟨_, rfl, _, rfl, ?_⟩
  have q1 := q H1 s1
  unfold spotOf at q1
  cases e : lastP (frd ps who) row with
  | none =>
    have sq : SqL K H1 r (row.map V.str) ∨ SqT K H1 r (row.map V.str) := row1.elim (fun e => .inr e.sq) (fun e => .inl (.inl (.inl e)))
    refine ⟨.ref r, rfl, r, _, rfl, sq, ?_⟩
    rw [List.length_map]
    rw [e] at q1
    exact q1
  | some k =>
    rw [e] at q1
    exact ⟨_, rfl, _, _, rfl, rfl, q1⟩
abbrev sStood : Stmt := topS 8
abbrev nStood : List Str := ["known", "row", "who", "at"]
theorem scStood : FnScope nStood nHostP (defScope sStood) := ⟨rfl, rfl, rfl, by decide +kernel, rfl, by decide +kernel, by decide +kernel⟩
theorem ok_stood {f : Addr} {fd : FuncData} (B : Blt mg) (CH : Cal P w K mg base 3 "coming_place" nHostP spComingP) (F : Fun K "stood_in" "stood_in" sStood f fd) : FnOk P w K mg base CX0 4 f fd nHostP spStood := by
  refine fok F scStood (fun vs H Q E h => ?_) (fun cdv A outer s H vs Q E hr h => ?_)
  · obtain ⟨a, r, ps, row, who, rfl, _⟩ := h
    rfl
  obtain ⟨a, r, ps, row, who, rfl, ha, hrow, hn, nw, q⟩ := h
  refine ⟨_, pss_cons (ps_set (i := 3) scStood.nd rfl (.inl rfl) (pe_cal CH hr (pa_cons (pv 0) (pa_cons (pv 1) (pa_cons (pv 2) pa_nil)))))
    (pss_one (ps_ret (pe_op op_catM (pe_op op_catM (pe_mid (pe_callTy call_tupleF (by rfl) B.tuple (by decide +kernel) (pa_cons (pe_slice (sl_or2 sl_list sl_tupM) (pv 1) po_none (po_some (pv 3))) pa_nil))) (pe_tupF (pa_cons (pv 2) pa_nil))) (pe_mid (pe_callTy call_tupleF (by rfl) B.tuple (by decide +kernel) (pa_cons (pe_slice (sl_or2 sl_list sl_tupM) (pv 1) (po_some (pv 3)) po_none) pa_nil)))))), ?_⟩
  refine ⟨_, rfl, _, rfl, _, rfl, a, r, ps, row, who, rfl, ha, hrow, hn, nw, fun H1 s1 => ?_⟩
  have row1 := hrow.same s1
  have hspot := spot_le ps row who
  refine ⟨fun v H2 => ∃ t, v = .ref t ∧ Same H1 H2 ∧ TupAt H2 t ((row.take (spotOf ps row who)).map V.str), ?_, ?_⟩
  · rcases row1 with e | e
    · refine ⟨.ref r, rfl, _, rfl, _, rfl, .inr ⟨r, _, rfl, e, fun t H2 s2 e2 => ?_⟩⟩
      rw [cutV_map, cutL_to] at e2
      exact ⟨t, _, rfl, .inr ⟨e2.sq, t, rfl, s2, e2⟩⟩
    · refine ⟨.ref r, rfl, _, rfl, _, rfl, .inl ⟨r, _, rfl, .inl (.inl e), fun p hp => ?_⟩⟩
      rw [cutV_map, cutL_to]
      exact ⟨p, _, rfl, .inl ⟨.inl (.inl upd_same), fun t H2 s2 n2 t2 => ⟨t, rfl, (same_upd hp).trans s2, t2⟩⟩⟩
  rintro v H2 ⟨t1, rfl, s2, e2⟩
  refine ⟨_, rfl, (by show 1 ≤ sizeLine; decide), fun p H3 s3 hp3 t3 => ?_⟩
  refine ⟨t1, p, _, _, rfl, rfl, e2.same s3, t3, ?_, fun t4 H4 s4 e4 => ?_⟩
  · rw [List.length_map, List.length_take]
    exact small_le (by show _ + 1 ≤ 1000; omega)
  have s24 := (s2.trans s3).trans s4
  have row4 := row1.same s24
  refine ⟨fun v H5 => ∃ t, v = .ref t ∧ Same H4 H5 ∧ TupAt H5 t ((row.drop (spotOf ps row who)).map V.str), ?_, ?_⟩
  · rcases row4 with e | e
    · refine ⟨.ref r, rfl, _, rfl, _, rfl, .inr ⟨r, _, rfl, e, fun t H5 s5 e5 => ?_⟩⟩
      rw [cutV_map, cutL_from] at e5
      exact ⟨t, _, rfl, .inr ⟨e5.sq, t, rfl, s5, e5⟩⟩
    · refine ⟨.ref r, rfl, _, rfl, _, rfl, .inl ⟨r, _, rfl, .inl (.inl e), fun p hp => ?_⟩⟩
      rw [cutV_map, cutL_from]
      exact ⟨p, _, rfl, .inl ⟨.inl (.inl upd_same), fun t H2 s2 n2 t2 => ⟨t, rfl, (same_upd hp).trans s2, t2⟩⟩⟩
  rintro v H5 ⟨t5, rfl, s5, e5⟩
  refine ⟨t4, t5, _, _, rfl, rfl, e4.same s5, e5, ?_, fun t6 H6 s6 e6 => ?_⟩
  · rw [List.length_append, List.length_map, List.length_map, List.length_take, List.length_drop]
    exact small_le (by show _ + 1 + _ ≤ 1000; omega)
  refine q t6 H6 ((s1.trans s24).trans (s5.trans s6)) ?_
  unfold comeTo
  rw [List.map_append, List.map_append]
  exact e6
/-! ### row_of, put_back -/
abbrev sRowOf : Stmt := topS 9
abbrev nRowOf : List Str := ["friends", "order", "known", "row", "who"]
theorem scRowOf : FnScope nRowOf ["friends", "order"] (defScope sRowOf) := ⟨rfl, rfl, rfl, by decide +kernel, rfl, by decide +kernel, by decide +kernel⟩
theorem ok_rowOf {f : Addr} {fd : FuncData} (CB : Cal P w K mg base 1 "both_ways" ["friends"] spBoth) (CE : Cal P w K mg base 4 "stood_in" ["known", "row", "who"] spStood) (F : Fun K "row_of" "row_of" sRowOf f fd) : FnOk P w K mg base CX0 5 f fd ["friends", "order"] spRowOf := by
  refine fok F scRowOf (fun vs H Q E h => ?_) (fun cdv A outer s H vs Q E hr h => ?_)
  · obtain ⟨a, o, ps, order, rfl, _⟩ := h
    rfl
  obtain ⟨a, o, ps, order, rfl, ha, hp, ho, hd, hn, q⟩ := h
  refine ⟨_, pss_cons (ps_set (i := 2) scRowOf.nd rfl (.inl rfl) (pe_cal CB hr (pa_cons (pv 0) pa_nil)))
    (pss_cons (ps_set (i := 3) scRowOf.nd rfl (.inl rfl) (pe_tupF pa_nil))
    (pss_cons (ps_for PassesOwn.never rfl (pi_or2 (pi_list (pv 1)) (pi_tup (pv 1))) (pg_name (i := 4) scRowOf.nd rfl (.inl rfl))
      (pss_one (ps_set (i := 3) scRowOf.nd rfl (.inl rfl) (pe_cal CE hr (pa_cons (pv 2) (pa_cons (pv 3) (pa_cons (pv 4) pa_nil)))))))
    (pss_one (ps_ret (pv 3))))), ?_⟩
  refine ⟨_, rfl, a, ps, rfl, ha, hp, fun dd Hk sk ndk kk => ?_⟩
  refine ⟨(by show 0 ≤ sizeLine; decide), fun p H0 s0' hp0 t0 => ?_⟩
  have s0 := sk.trans s0'
  have turn : ∀ (i : Nat) (x : Str) (σ : L2.St) (H1 : Hp), order[i]? = some x → (∃ (t : Addr) (y3 : Option V), σ = [some (.ref a), some (.ref o), some (.ref dd), some (.ref t), y3] ∧ Same H H1 ∧ KnAt H1 dd ps ∧ TupAt H1 t ((standOf ps (order.take i)).map V.str)) → ∀ (D : Ends), D.nx = (fun σ H1 => ∃ (t : Addr) (y3 : Option V), σ = [some (.ref a), some (.ref o), some (.ref dd), some (.ref t), y3] ∧ Same H H1 ∧ KnAt H1 dd ps ∧ TupAt H1 t ((standOf ps (order.take (i + 1))).map V.str)) →
      (tAsg (tCall spStood [] E0 (tCons (tVar 2) (tCons (tVar 3) (tCons (tVar 4) tNil)))) (gName 3)) D (σ.set 4 (some (.str x))) H1 := by
    rintro i x σ H1 hx ⟨t, y3, rfl, s1, k1, e1⟩ D hD
    have pm := stand_perm ps (order.take i)
    have nx : x ∉ standOf ps (order.take i) := fun z => by
      have z := pm.mem_iff.mp z
      obtain ⟨j, hj⟩ := List.mem_iff_getElem?.mp z
      rw [List.getElem?_take] at hj
      split at hj
      · rename_i c
        have := nd_ix hd hj hx
        omega
      · cases hj
    refine ⟨_, rfl, _, rfl, _, rfl, dd, t, ps, _, x, rfl, k1, .inl e1, ?_, nx, fun t' H3 s3 e3 => ?_⟩
    · rw [pm.length_eq, List.length_take]
      omega
    · rw [hD]
      refine ⟨t', _, rfl, s1.trans s3, k1.same s3, ?_⟩
      rw [List.take_add_one, hx]
      show TupAt H3 t' ((standOf ps (order.take i ++ [x])).map V.str)
      rw [standOf_app]
      exact e3
  have fin : ∀ (σ : L2.St) (H1 : Hp), (∃ (t : Addr) (y3 : Option V), σ = [some (.ref a), some (.ref o), some (.ref dd), some (.ref t), y3] ∧ Same H H1 ∧ KnAt H1 dd ps ∧ TupAt H1 t ((standOf ps (order.take (order.map V.str).length)).map V.str)) → ∃ v, σ[3]? = some (some v) ∧ Q v H1 := by
    rintro σ H1 ⟨t, y3, rfl, s1, _, e1⟩
    rw [List.length_map, List.take_of_length_le (Nat.le_refl _)] at e1
    exact ⟨.ref t, rfl, q t H1 s1 e1⟩
  rcases ho with e | e
  · refine .inr ⟨.ref o, rfl, o, rfl, ⟨_, (e.same s0).sq⟩, ?_⟩
    refine for_it (walk_tup (xs := order.map V.str)) (fun i σ H1 => ∃ (t : Addr) (y3 : Option V), σ = [some (.ref a), some (.ref o), some (.ref dd), some (.ref t), y3] ∧ Same H H1 ∧ KnAt H1 dd ps ∧ TupAt H1 t ((standOf ps (order.take i)).map V.str)) ?_ ?_ ?_ ?_
    · exact ⟨p, _, rfl, s0, kk.same s0', t0⟩
    · rintro i σ H1 _ ⟨t, y3, _, s1, _, _⟩
      exact (e.same s1).sq
    · rintro i v σ H2 H1 hi pv ⟨rfl, e2⟩
      obtain ⟨x, hx, rfl⟩ := at_map e2
      exact turn i x σ _ hx pv _ rfl
    · exact fin
  · refine .inl ⟨.ref o, rfl, o, rfl, ⟨_, .inl (.inl (s0 _ _ e))⟩, ?_⟩
    refine for_it (walk_list (xs := order.map V.str)) (fun i σ H1 => ∃ (t : Addr) (y3 : Option V), σ = [some (.ref a), some (.ref o), some (.ref dd), some (.ref t), y3] ∧ Same H H1 ∧ KnAt H1 dd ps ∧ TupAt H1 t ((standOf ps (order.take i)).map V.str)) ?_ ?_ ?_ ?_
    · exact ⟨p, _, rfl, s0, kk.same s0', t0⟩
    · rintro i σ H1 _ ⟨t, y3, _, s1, _, _⟩
      exact .inl (.inl (s1 _ _ e))
    · rintro i v σ H2 H1 hi pv ⟨rfl, e2⟩
      obtain ⟨x, hx, rfl⟩ := at_map e2
      exact turn i x σ _ hx pv _ rfl
    · exact fin
/-! ### _law_same -/
abbrev sSame : Stmt := topS 26
abbrev nSame : List Str := ["_law_found", "_law_due"]
theorem scSame : FnScope nSame nSame (defScope sSame) := ⟨rfl, rfl, rfl, by decide +kernel, rfl, by decide +kernel, by decide +kernel⟩
theorem ok_sameR {f : Addr} {fd : FuncData} (B : Blt mg) (F : Fun K "_law_same" "_law_same" sSame f fd) : FnOk P w K mg base CX0 1 f fd nSame (spSameR K) := by
  refine fok F scSame (fun vs H Q E h => ?_) (fun cdv A outer s H vs Q E hr h => ?_)
  · obtain ⟨x, y, d, rfl, _⟩ := h
    rfl
  obtain ⟨x, y, d, rfl, h1, h2, q⟩ := h
  refine ⟨_, pss_one (ps_ret (pe_cmpR op_eq (pe_callB (call_reprS hr) (by rfl) B.repr (by decide +kernel) (pa_cons (pv 0) pa_nil)) (pe_callB (call_reprS hr) (by rfl) B.repr (by decide +kernel) (pa_cons (pv 1) pa_nil)) (nomark _))), ?_⟩
  refine ⟨x, rfl, x, d, rfl, h1, y, rfl, y, d, rfl, h2, rfl, ?_⟩
  rw [decide_eq_true rfl]
  exact q H (Same.refl H)
/-! ### _law_world -/
abbrev sWorld : Stmt := topS 25
abbrev nWorld : List Str := ["_law_box_here", "_law_least", "_law_utmost", "_law_pool", "_law_pals_here", "_law_some"]
theorem scWorld : FnScope nWorld ["_law_box_here", "_law_least", "_law_utmost"] (defScope sWorld) := ⟨rfl, rfl, rfl, by decide +kernel, rfl, by decide +kernel, by decide +kernel⟩
theorem ok_world {f : Addr} {fd : FuncData} (CT : Cal P w K mg base 1 "_law_take" ["_law_box_here", "_law_many"] spTake) (CN : Cal P w K mg base 2 "_law_names" ["_law_box_here", "_law_many"] spNames) (CP : Cal P w K mg base 2 "_law_pals" ["_law_box_here", "_law_pool"] spPals)
    (CSt : Cal P w K mg base 3 "_law_stand_of" ["_law_pals_here", "_law_some"] spStandOf) (CW : Cal P w K mg base 2 "_law_strewn" ["_law_box_here", "_law_some"] spStrewn) (F : Fun K "_law_world" "_law_world" sWorld f fd) : FnOk P w K mg base CX0 4 f fd ["_law_box_here", "_law_least", "_law_utmost"] spWorld := by
  refine fok F scWorld (fun vs H Q E h => ?_) (fun cdv A outer s H vs Q E hr h => ?_)
  · obtain ⟨b, least, utmost, rfl, _⟩ := h
    rfl
  obtain ⟨b, least, utmost, rfl, hb, h1, h2, q⟩ := h
  refine ⟨_, pss_cons (ps_set (i := 3) scWorld.nd rfl (.inl rfl) (pe_cal CN hr (pa_cons (pv 0) (pa_cons (pe_op op_add (pv 1) (pe_cal CT hr (pa_cons (pv 0) (pa_cons (pe_op op_add (pe_op op_sub (pv 2) (pv 1)) pe_int) pa_nil)))) pa_nil))))
    (pss_cons (ps_set (i := 4) scWorld.nd rfl (.inl rfl) (pe_cal CP hr (pa_cons (pv 0) (pa_cons (pv 3) pa_nil))))
    (pss_cons (ps_set (i := 5) scWorld.nd rfl (.inl rfl) (pe_cal CW hr (pa_cons (pv 0) (pa_cons (pv 3) pa_nil))))
    (pss_one (ps_ret (pe_tup (pa_cons (pv 4) (pa_cons (pv 3) (pa_cons (pv 5) (pa_cons (pe_cal CSt hr (pa_cons (pv 4) (pa_cons (pv 5) pa_nil))) pa_nil))))))))), ?_⟩
  refine ⟨_, rfl, _, rfl, .ref b, rfl, _, rfl, _, rfl, _, _, rfl, rfl, _, _, rfl, rfl, b, _, rfl, hb, by omega, by omega, fun v H1 o1 b1 v0 v1 => ⟨_, _, rfl, rfl, ?_⟩⟩
  refine ⟨b, ((least : Int) + v).toNat, ?_, b1, by omega, fun l pool H2 o2 b2 nl e2 n2 nd2 ok2 => ?_⟩
  · rw [Int.toNat_of_nonneg (by omega)]
    rfl
  have gp : Goods pool := fun x hx => (ok2 x hx).good
  refine ⟨_, rfl, _, rfl, b, l, pool, rfl, b2, e2, nd2, by omega, fun a bs H3 o3 b3 na e3 p3 g3 c3 srt => ?_⟩
  have hpa : PalsAt H3 a (bs.map (·.2)) := ⟨bs, e3, p3, rfl⟩
  have hpo : PalsOk (bs.map (·.2)) := g3.ok gp
  have l3 : H3 l = some (.lst (pool.map V.str)) := o3 _ _ (b2.ne_strs e2) e2
  refine ⟨_, rfl, _, rfl, b, l, pool, rfl, b3, .inr l3, by omega, fun o order H4 o4 b4 no e4 pm => ?_⟩
  have l4 := o4 _ _ (b3.ne_strs l3) l3
  have a4 := o4 _ _ (b3.ne_tup e3) e3
  have p4 := p3.oth o4 b3
  have go : Goods order := gp.perm pm
  refine ⟨_, rfl, _, rfl, _, rfl, _, rfl, _, rfl, a, o, _, order, rfl, ⟨bs, a4, p4, rfl⟩, hpo, e4, go, by rw [pm.length_eq]; omega, fun t H5 s5 t5 => ?_⟩
  refine ⟨(by show 4 ≤ sizeLine; decide), fun T hT => ?_⟩
  have sT := same_upd (o := .tup [.ref a, .ref l, .ref o, .ref t]) hT
  have s6 := s5.trans sT
  have o12 := o1.trans o2
  have o13 := o12.trans o3
  exact q T a l o t bs pool order _ ((o13.trans o4).trans (Oth.of s6)) (b4.same s6) upd_same (o12.free (b2.ne_none na) na) (o1.free (b1.ne_none nl) nl) (o13.free (b3.ne_none no) no) (s6 _ _ a4) (p4.same s6) srt (s6 _ _ l4) (s6 _ _ e4) (t5.same sT) (ne_of_none l3 no) nd2 ok2 pm g3 c3 (by omega) (by omega)
/-! ### exchanged, may_exchange -/
abbrev sExch : Stmt := topS 11
abbrev nExch : List Str := ["order", "place"]
theorem scExch : FnScope nExch nExch (defScope sExch) := ⟨rfl, rfl, rfl, by decide +kernel, rfl, by decide +kernel, by decide +kernel⟩
theorem ok_exch {f : Addr} {fd : FuncData} (B : Blt mg) (F : Fun K "exchanged" "exchanged" sExch f fd) : FnOk P w K mg base CX0 1 f fd nExch spExch := by
  refine fok F scExch (fun vs H Q E h => ?_) (fun cdv A outer s H vs Q E hr h => ?_)
  · obtain ⟨o, order, i, x, y, rfl, _⟩ := h
    rfl
  obtain ⟨o, order, i, x, y, rfl, ho, hn, hx, hy, q⟩ := h
  refine ⟨_, pss_one (ps_ret (pe_op op_cat (pe_op op_cat (pe_callTy call_listRow (by rfl) B.list (by decide +kernel) (pa_cons (pe_slice sl_row (pv 0) po_none (po_some (pv 1))) pa_nil))
      (pe_lst (pa_cons (pe_ix ix_row (pv 0) (pe_op op_add (pv 1) pe_int) (fun _ _ => rfl)) (pa_cons (pe_ix ix_row (pv 0) (pv 1) (fun _ _ => rfl)) pa_nil))))
      (pe_callTy call_listRow (by rfl) B.list (by decide +kernel) (pa_cons (pe_slice sl_row (pv 0) (po_some (pe_op op_add (pv 1) pe_int)) po_none) pa_nil)))), ?_⟩
  refine ⟨.ref o, rfl, _, rfl, _, rfl, o, order, rfl, ho, fun p1 H1 s1 r1 => ?_⟩
  rw [cutL_to] at r1
  refine ⟨p1, _, rfl, r1, fun l1 hl1 => ?_⟩
  have s2 := same_upd (o := .lst ((order.take i).map V.str)) hl1
  have s02 := s1.trans s2
  have ho2 := ho.same s02
  refine ⟨.ref o, rfl, _, rfl, _, _, rfl, rfl, o, order, ((i : Int) + 1), y, rfl, rfl, ho2, ?_, .ref o, rfl, _, rfl, o, order, (i : Int), x, rfl, rfl, ho2, atI_nat (ix_map hx), (by show 2 ≤ sizeLine; decide), fun p2 hp2 => ?_⟩
  · rw [show ((i : Int) + 1) = ((i + 1 : Nat) : Int) from rfl]
    exact atI_nat (ix_map hy)
  have s3 := same_upd (o := .lst [.str y, .str x]) hp2
  refine ⟨l1, p2, _, _, rfl, rfl, s3 _ _ upd_same, upd_same, ?_, fun p3 hp3 => ?_⟩
  · rw [List.length_map, List.length_take]
    exact small_le (by show _ + 2 ≤ 1000; omega)
  have s4 := same_upd (o := .lst ((order.take i).map V.str ++ [.str y, .str x])) hp3
  have s04 := (s02.trans s3).trans s4
  refine ⟨.ref o, rfl, _, rfl, _, _, rfl, rfl, _, rfl, o, order, rfl, ho.same s04, fun p5 H5 s5 r5 => ?_⟩
  rw [show ((i : Int) + 2) = ((i + 2 : Nat) : Int) from rfl, cutL_from] at r5
  refine ⟨p5, _, rfl, r5, fun l6 hl6 => ?_⟩
  have s6 := same_upd (o := .lst ((order.drop (i + 2)).map V.str)) hl6
  refine ⟨p3, l6, _, _, rfl, rfl, s6 _ _ (s5 _ _ upd_same), upd_same, ?_, fun p7 hp7 => ?_⟩
  · rw [List.length_append, List.length_map, List.length_map, List.length_take, List.length_drop]
    exact small_le (by show _ + 2 + _ ≤ 1000; omega)
  have s06 := (s04.trans s5).trans s6
  refine q p7 _ (s06.trans (same_upd hp7)) (s06.free hp7) ?_
  rw [upd_same]
  unfold swapL
  rw [List.map_append, List.map_append]
  rfl
abbrev sMayEx : Stmt := topS 12
abbrev nMayEx : List Str := ["friends", "order", "place"]
theorem scMayEx : FnScope nMayEx nMayEx (defScope sMayEx) := ⟨rfl, rfl, rfl, by decide +kernel, rfl, by decide +kernel, by decide +kernel⟩
theorem ok_mayEx {f : Addr} {fd : FuncData} (CR : Cal P w K mg base 5 "row_of" ["friends", "order"] spRowOf) (CE : Cal P w K mg base 1 "exchanged" nExch spExch) (F : Fun K "may_exchange" "may_exchange" sMayEx f fd) : FnOk P w K mg base CX0 6 f fd nMayEx spMayEx := by
  refine fok F scMayEx (fun vs H Q E h => ?_) (fun cdv A outer s H vs Q E hr h => ?_)
  · obtain ⟨a, o, ps, order, i, x, y, rfl, _⟩ := h
    rfl
  obtain ⟨a, o, ps, order, i, x, y, rfl, ha, hp, ho, go, nd, hn, hx, hy, q⟩ := h
  refine ⟨_, pss_one (ps_ret (pe_cmpR (op_eqT hr.units) (pe_cal CR hr (pa_cons (pv 0) (pa_cons (pv 1) pa_nil))) (pe_cal CR hr (pa_cons (pv 0) (pa_cons (pe_cal CE hr (pa_cons (pv 1) (pa_cons (pv 2) pa_nil))) pa_nil))) (nomark _))), ?_⟩
  have pm := swap_perm hx hy
  refine ⟨_, rfl, _, rfl, a, o, ps, order, rfl, ha, hp, ho, nd, hn, fun t1 H1 s1 e1 => ?_⟩
  refine ⟨_, rfl, _, rfl, _, rfl, o, order, i, x, y, rfl, ho.same s1, hn, hx, hy, fun p H2 s2 n2 e2 => ?_⟩
  have s12 := s1.trans s2
  refine ⟨a, p, ps, _, rfl, ha.same s12, hp, .inr e2, pm.nodup_iff.mpr nd, by rw [pm.length_eq]; exact hn, fun t3 H3 s3 e3 => ?_⟩
  exact ⟨t1, t3, _, _, rfl, rfl, (e1.same s2).same s3, e3, go.perm (stand_perm ps order), (go.perm pm).perm (stand_perm ps _), q H3 (s12.trans s3)⟩
/-! ### places_in, pairs_apart -/
abbrev sPlaces : Stmt := topS 13
abbrev nPlaces : List Str := ["order", "place", "who"]
theorem scPlaces : FnScope nPlaces ["order"] (defScope sPlaces) := ⟨rfl, rfl, rfl, by decide +kernel, rfl, by decide +kernel, by decide +kernel⟩
theorem ok_places {f : Addr} {fd : FuncData} (B : Blt mg) (F : Fun K "places_in" "places_in" sPlaces f fd) : FnOk P w K mg base CX0 1 f fd ["order"] spPlaces := by
  refine fok F scPlaces (fun vs H Q E h => ?_) (fun cdv A outer s H vs Q E hr h => ?_)
  · obtain ⟨o, order, rfl, _⟩ := h
    rfl
  obtain ⟨o, order, rfl, ho, hd, hn, q⟩ := h
  refine ⟨_, pss_one (ps_ret (pe_dc (own := [("place", 1), ("who", 2)]) (g := gTup K 2 (gCons (gName 1) (gCons (gName 2) gNil))) (tt := tYes) (tk := tVar 2) (tv := tVar 1) rfl scPlaces.nd (pi_rowE (by rfl) B.enumerate (pv 0)) (blkOk_by (N := nPlaces) (sc := defScope sPlaces) (by decide +kernel))
        (fun _ _ _ _ _ => pg_tup rfl (pgs_cons (pg_name (i := 1) scPlaces.nd rfl (Or.inl rfl)) (pgs_cons (pg_name (i := 2) scPlaces.nd rfl (Or.inl rfl)) pgs_nil))) (fun _ _ _ _ _ => pts_nil) (fun _ _ _ _ _ => pv 2) (fun _ _ _ _ _ => pv 1))), ?_⟩
  refine ⟨o, order, rfl, ho, fun J G wk hG D hD => ?_⟩
  refine dc_it wk (fun i H' => ∃ kvs, Same H H' ∧ H' D = some (.dK kvs) ∧ CameTo order i kvs) ?_ ?_ ?_ ?_
  · exact ⟨[], same_upd hD, upd_same, Nat.le_refl _, fun x hx => nomatch hx⟩
  · rintro i H' _ ⟨kvs, s2, _⟩
    exact hG H' (ho.kept s2)
  · rintro i v H2 H3 hi ⟨kvs, s2, d2, c2⟩ ⟨T, x1, x2, rfl, nT, rfl, e1, e2⟩
    cases e1
    obtain ⟨z, hz, rfl⟩ := at_map e2
    rw [List.length_map] at hi
    have sT := same_upd (o := .tup [.int (i : Nat), .str z]) nT
    refine ⟨T, _, rfl, .inl (.inl upd_same), rfl, _, _, rfl, _, _, rfl, rfl, rfl, ?_⟩
    refine ⟨_, rfl, _, rfl, kvs, .inr z, rfl, sT _ _ d2, small1000 (by have := c2.1; omega), _, fun b o' e => ?_, upd_same, came_step hd hz c2⟩
    rw [upd_ne (ne_of_none e hD)]
    exact sT _ _ (s2 _ _ e)
  · rintro H2 ⟨kvs, s2, d2, c2⟩
    rw [List.length_map] at c2
    exact q D kvs H2 s2 hD d2 c2
abbrev sApart : Stmt := topS 14
abbrev nApart : List Str := ["one", "other", "places", "turned", "place", "who", "later"]
theorem scApart : FnScope nApart ["one", "other"] (defScope sApart) := ⟨rfl, rfl, rfl, by decide +kernel, rfl, by decide +kernel, by decide +kernel⟩
theorem ok_apart {f : Addr} {fd : FuncData} (B : Blt mg) (CP : Cal P w K mg base 1 "places_in" ["order"] spPlaces) (F : Fun K "pairs_apart" "pairs_apart" sApart f fd) : FnOk P w K mg base CX0 2 f fd ["one", "other"] spApart := by
  refine fok F scApart (fun vs H Q E h => ?_) (fun cdv A outer s H vs Q E hr h => ?_)
  · obtain ⟨a, o, one, other, rfl, _⟩ := h
    rfl
  obtain ⟨a, o, one, other, rfl, ha, ho, hd, pm, hn, q⟩ := h
  have hu := hu_of hr
  refine ⟨_, pss_cons (ps_set (i := 2) scApart.nd rfl (.inr rfl) (pe_cal CP hr (pa_cons (pv 1) pa_nil)))
    (pss_cons (ps_set (i := 3) scApart.nd rfl (.inl rfl) pe_int)
    (pss_cons (ps_for PassesOwn.never rfl (pi_rowE (by rfl) B.enumerate (pv 0)) (pg_tup rfl (pgs_cons (pg_name (i := 4) scApart.nd rfl (.inl rfl)) (pgs_cons (pg_name (i := 5) scApart.nd rfl (.inr rfl)) pgs_nil)))
      (pss_one (ps_aug (i := 3) scApart.nd rfl (.inl rfl) (pe_callB call_len_seq (by rfl) B.len PySem.boot_len (pa_cons (pe_lc (own := [("later", 6)]) (g := gName 6) (tt := tTest (tOp (rI0 fun i j => .bl (decide (i < j))) (tDGet (tVar 2) (tVar 6)) (tDGet (tVar 2) (tVar 5)))) rfl scApart.nd (pi_row (pe_slice sl_row (pv 0) (po_some (pe_op op_add (pv 4) pe_int)) po_none)) (blkOk_by (N := nApart) (sc := defScope sApart) (by decide +kernel)) (fun _ _ _ _ _ => pg_name (i := 6) scApart.nd rfl (Or.inl rfl))
          (fun _ _ _ _ _ => pts_one (pt_cmpR op_lt (pe_dget hu (pv 2) (pv 6) (fun _ _ => rfl)) (pe_dget hu (pv 2) (pv 5) (fun _ _ => rfl)) (nomark _))) (fun _ _ _ _ _ => pv 6)) pa_nil)) ip_add)))
    (pss_one (ps_ret (pv 3))))), ?_⟩
  refine ⟨_, rfl, o, other, rfl, ho, hd, by rw [← pm.length_eq]; exact hn, fun D kvs H1 s1 nD d1 c1 => ?_⟩
  have came : ∀ y ∈ one, valV kvs (.inr y) = some (.int (other.idxOf y : Nat)) := fun y hy => c1.2 y (by rw [List.take_of_length_le (Nat.le_refl _)]; exact pm.mem_iff.mp hy)
  refine ⟨a, one, rfl, ha.same s1, fun J G wk hG => ?_⟩
  refine for_it wk (fun i σ H' => ∃ (n : Nat) (y4 y5 y6 : Option V), σ = [some (.ref a), some (.ref o), some (.ref D), some (.int (n : Nat)), y4, y5, y6] ∧ Same H1 H' ∧ n + cntL (other.idxOf ·) (one.drop i) = cntL (other.idxOf ·) one) ?_ ?_ ?_ ?_
  · exact ⟨0, _, _, _, rfl, Same.refl _, by rw [List.drop_zero, Nat.zero_add]⟩
  · rintro i σ H' _ ⟨n, y4, y5, y6, _, s2, _⟩
    exact hG H' ((ha.same s1).kept s2)
  · rintro i v σ H2 H3 hi ⟨n, y4, y5, y6, rfl, s2, m2⟩ ⟨T, x1, x2, rfl, nT, rfl, e1, e2⟩
    cases e1
    obtain ⟨z, hz, rfl⟩ := at_map e2
    have sT := same_upd (o := .tup [.int (i : Nat), .str z]) nT
    have s3 := s2.trans sT
    refine ⟨T, _, rfl, .inl (.inl upd_same), rfl, _, _, rfl, _, _, rfl, rfl, ?_⟩
    have mz : z ∈ one := List.mem_of_getElem? hz
    refine ⟨_, rfl, .ref a, rfl, _, rfl, _, _, rfl, rfl, _, rfl, a, one, rfl, (ha.same s1).same s3, fun p H4 s4 r4 => ?_⟩
    rw [show ((i : Int) + 1) = ((i + 1 : Nat) : Int) from rfl, cutL_from] at r4
    refine ⟨p, _, rfl, r4, fun J2 G2 wk2 hG2 L hL => ?_⟩
    have d4 := s4 _ _ (s3 _ _ d1)
    refine lc_filt wk2 (fun y => decide (other.idxOf y < other.idxOf z)) hL (fun H' s => hG2 H' (r4.kept s)) ?_ ?_ (by rw [List.length_drop]; omega) (fun v H A B h z => h _ _ z) ?_ (fun σ2 H A B h ⟨v, e, z⟩ => ⟨v, e, h _ _ z⟩)
    · rintro k y v H5 H5' hy s5 ⟨rfl, ex⟩
      rw [ix_map hy] at ex
      cases ex
      have my : y ∈ one := List.mem_of_mem_drop (List.mem_of_getElem? hy)
      have dd := s5 _ _ d4
      have g1 := DGet.k (k := .inr y) dd
      rw [came y my] at g1
      have g2 := DGet.k (k := .inr z) dd
      rw [came z mz] at g2
      refine ⟨Same.refl _, rfl, .ref D, rfl, .str y, rfl, D, _, rfl, g1, .ref D, rfl, .str z, rfl, D, _, rfl, g2, _, _, rfl, rfl, _, rfl, decide_eq_decide.mpr (by omega), Same.refl _, fun _ => ⟨_, rfl, rfl, Same.refl _⟩⟩
    · intro H5 s5 e5
      refine ⟨L, _, rfl, .inl (.inl (.inl e5)), _, _, rfl, rfl, n + ((one.drop (i + 1)).filter fun y => decide (other.idxOf y < other.idxOf z)).length, some (.int (i : Nat)), some (.str z), y6, ?_, s3.trans (s4.trans s5), ?_⟩
      · rw [List.length_map]
        rfl
      · rw [← m2, cntL_drop hz]
        omega
    · rintro σ2 H A B h ⟨v, e1, v2, e2, D', o', e3, g1, v3, e4, v4, e5, D2, o2, e6, g2, x1, x2, e7, e8, b, e9, z⟩
      exact ⟨v, e1, v2, e2, D', o', e3, g1, v3, e4, v4, e5, D2, o2, e6, g2, x1, x2, e7, e8, b, e9, h _ _ z⟩
  · rintro σ H2 ⟨n, y4, y5, y6, rfl, s2, m2⟩
    rw [List.length_map, List.drop_eq_nil_of_le (Nat.le_refl _)] at m2
    have m3 : n = cntL (other.idxOf ·) one := m2
    subst m3
    exact ⟨_, rfl, q H2 (s1.trans s2)⟩
/-! ### _law_right -/
abbrev sRight : Stmt := topS 27
abbrev nRight : List Str := ["_law_box_here", "_law_pals_here", "_law_pool", "_law_some", "_law_stand", "_law_place", "_law_made", "_law_due", "_law_last", "_law_many", "_law_k", "_law_mine", "_law_told", "_law_its"]
theorem scRight : FnScope nRight ["_law_box_here"] (defScope sRight) := ⟨rfl, rfl, rfl, by decide +kernel, rfl, by decide +kernel, by decide +kernel⟩
theorem ok_right {f : Addr} {fd : FuncData} (B : Blt mg) (CWd : Cal P w K mg base 4 "_law_world" ["_law_box_here", "_law_least", "_law_utmost"] spWorld) (CSt : Cal P w K mg base 3 "_law_stand_of" ["_law_pals_here", "_law_some"] spStandOf) (CW : Cal P w K mg base 2 "_law_strewn" ["_law_box_here", "_law_some"] spStrewn)
    (CM : Cal P w K mg base 6 "may_exchange" nMayEx spMayEx) (CA : Cal P w K mg base 2 "pairs_apart" ["one", "other"] spApart) (CS : Cal P w K mg base 1 "_law_same" nSame (spSameR K)) (F : Fun K "_law_right" "_law_right" sRight f fd) : FnOk P w K mg base CX0 7 f fd ["_law_box_here"] spRight := by
  refine fok F scRight (fun vs H Q E h => ?_) (fun cdv A outer s H vs Q E hr h => ?_)
  · obtain ⟨b, rfl, _⟩ := h
    rfl
  obtain ⟨b, rfl, hb, q⟩ := h
  refine ⟨_, pss_cons (ps_asg (pe_cal CWd hr (pa_cons (pv 0) (pa_cons pe_int (pa_cons pe_int pa_nil)))) (pg_tup rfl (pgs_cons (pg_name (i := 1) scRight.nd rfl (.inl rfl)) (pgs_cons (pg_name (i := 2) scRight.nd rfl (.inl rfl)) (pgs_cons (pg_name (i := 3) scRight.nd rfl (.inl rfl)) (pgs_cons (pg_name (i := 4) scRight.nd rfl (.inl rfl)) pgs_nil))))))
    (pss_cons (ps_for PassesOwn.never rfl (pi_range1 (by rfl) B.range (pa_cons (pe_op op_sub (pe_callB call_len_seq (by rfl) B.len PySem.boot_len (pa_cons (pv 3) pa_nil)) pe_int) pa_nil)) (pg_name (i := 5) scRight.nd rfl (.inl rfl))
      (pss_cons (ps_set (i := 6) scRight.nd rfl (.inl rfl) (pe_op op_cat (pe_op op_cat (pe_slice sl_list (pv 3) po_none (po_some (pv 5))) (pe_revL (pe_slice sl_list (pv 3) (po_some (pv 5)) (po_some (pe_op op_add (pv 5) pe_int))))) (pe_slice sl_list (pv 3) (po_some (pe_op op_add (pv 5) pe_int)) po_none)))
      (pss_cons (ps_set (i := 7) scRight.nd rfl (.inl rfl) (pe_cmpR (op_eqT hr.units) (pe_cal CSt hr (pa_cons (pv 1) (pa_cons (pv 6) pa_nil))) (pv 4) (nomark _)))
      (pss_one (ps_if (pt_not (pt_val (pe_cal CS hr (pa_cons (pe_lst (pa_cons (pe_cal CM hr (pa_cons (pv 1) (pa_cons (pv 3) (pa_cons (pv 5) pa_nil)))) (pa_cons (pe_cal CM hr (pa_cons (pe_callTy call_list_of (by rfl) B.list (by decide +kernel) (pa_cons (pv 1) pa_nil)) (pa_cons (pe_callTy call_tupleF (by rfl) B.tuple (by decide +kernel) (pa_cons (pv 3) pa_nil)) (pa_cons (pv 5) pa_nil)))) pa_nil))) (pa_cons (pe_lst (pa_cons (pv 7) (pa_cons (pv 7) pa_nil))) pa_nil))))) (pss_one (ps_ret pe_bl)) pss_nil)))))
    (pss_cons (ps_asg (pe_tup (pa_cons (pe_cal CW hr (pa_cons (pv 0) (pa_cons (pv 2) pa_nil))) (pa_cons (pe_mid (pe_op op_fdiv (pe_op op_mul (pe_callB call_len_seq (by rfl) B.len PySem.boot_len (pa_cons (pv 3) pa_nil)) (pe_op op_sub (pe_callB call_len_seq (by rfl) B.len PySem.boot_len (pa_cons (pv 3) pa_nil)) pe_int)) pe_int)) pa_nil))) (pg_tup rfl (pgs_cons (pg_name (i := 8) scRight.nd rfl (.inr rfl)) (pgs_cons (pg_name (i := 9) scRight.nd rfl (.inl rfl)) pgs_nil))))
    (pss_cons (ps_set (i := 7) scRight.nd rfl (.inl rfl) pe_int)
    (pss_cons (ps_for PassesOwn.never rfl (pi_enum (by rfl) B.enumerate (pa_cons (pv 3) pa_nil)) (pg_tup rfl (pgs_cons (pg_name (i := 10) scRight.nd rfl (.inl rfl)) (pgs_cons (pg_name (i := 11) scRight.nd rfl (.inr rfl)) pgs_nil)))
      (pss_one (ps_set (i := 7) scRight.nd rfl (.inl rfl) (pe_op op_add (pv 7) (pe_callB call_len_seq (by rfl) B.len PySem.boot_len (pa_cons (pe_lc (own := [("_law_its", 13)]) (g := gName 13) (tt := tTest (tOp (rI0 fun i j => .bl (decide (j < i))) (tBM K "list" rIdxL (tVar 8) (tCons (tVar 13) tNil)) (tBM K "list" rIdxL (tVar 8) (tCons (tVar 11) tNil)))) rfl scRight.nd (pi_list (pe_slice sl_list (pv 3) po_none (po_some (pv 10)))) (blkOk_by (N := nRight) (sc := defScope sRight) (by decide +kernel)) (fun _ _ _ _ _ => pg_name (i := 13) scRight.nd rfl (Or.inl rfl))
          (fun _ _ _ _ _ => pts_one (pt_cmpR op_gt (pe_bm PySem.F.plainAttrs_list PySem.F.slot_list_index PySem.F.type_list_index mt_idxL (pv 8) (pa_cons (pv 13) pa_nil)) (pe_bm PySem.F.plainAttrs_list PySem.F.slot_list_index PySem.F.type_list_index mt_idxL (pv 8) (pa_cons (pv 11) pa_nil)) (nomark _))) (fun _ _ _ _ _ => pv 13)) pa_nil))))))
    (pss_cons (ps_set (i := 12) scRight.nd rfl (.inl rfl) (pe_lst (pa_cons (pe_cal CA hr (pa_cons (pv 3) (pa_cons (pv 8) pa_nil))) (pa_cons (pe_cal CA hr (pa_cons (pe_callTy call_tupleF (by rfl) B.tuple (by decide +kernel) (pa_cons (pv 8) pa_nil)) (pa_cons (pv 3) pa_nil))) (pa_cons (pe_cal CA hr (pa_cons (pv 3) (pa_cons (pv 3) pa_nil))) pa_nil)))))
    (pss_cons (ps_expr (pe_bm PySem.F.plainAttrs_list PySem.F.slot_list_append PySem.F.type_list_append mt_append (pv 12) (pa_cons (pe_cal CA hr (pa_cons (pv 3) (pa_cons (pe_revL (pv 3)) pa_nil))) pa_nil)))
    (pss_one (ps_ret (pe_cal CS hr (pa_cons (pv 12) (pa_cons (pe_lst (pa_cons (pv 7) (pa_cons (pv 7) (pa_cons pe_int (pa_cons (pv 9) pa_nil))))) pa_nil))))))))))), ?_⟩
  -- the world
  refine ⟨.ref b, rfl, b, 2, 12, rfl, hb, by decide, by decide, fun T a l o t bs pool order H1 o1 b1 eT na nl no ea pa _ el eo et nlo ndp okp pm ofp bl0 pl0 pl1 => ?_⟩
  have gp : Goods pool := fun x hx => (okp x hx).good
  have hpa : PalsAt H1 a (bs.map (·.2)) := ⟨bs, ea, pa, rfl⟩
  have hpo : PalsOk (bs.map (·.2)) := ofp.ok gp
  have hpl : (bs.map (·.2)).length ≤ 1000 := by rw [List.length_map]; exact bl0
  generalize bs.map (·.2) = ps at hpa hpo hpl et
  have ndo : order.Nodup := pm.nodup_iff.mpr ndp
  have go : Goods order := gp.perm pm
  have ol : order.length = pool.length := pm.length_eq
  refine ⟨T, _, rfl, .inl (.inl eT), rfl, _, _, rfl, _, _, rfl, _, _, rfl, _, _, rfl, rfl, ?_⟩
  -- the places
  refine ⟨.ref o, rfl, o, _, rfl, .inl (.inl (.inl eo)), _, _, rfl, rfl, _, rfl, ?_, ?_, ?_⟩
  · rw [List.length_map]
    omega
  · rw [List.length_map]
    omega
  rw [List.length_map]
  refine for_it (walk_range (lo := 0) (n := ((order.length : Int) - 1).toNat)) (fun i σ H' => ∃ (y5 y6 y7 y8 y9 y10 y11 y12 y13 : Option V), σ = [some (.ref b), some (.ref a), some (.ref l), some (.ref o), some (.ref t), y5, y6, y7, y8, y9, y10, y11, y12, y13] ∧ Same H1 H') ?_ (fun _ _ _ _ _ => trivial) ?_ ?_
  · exact ⟨_, _, _, _, _, _, _, _, _, rfl, Same.refl _⟩
  · rintro i x σ H3 H2 hi ⟨y5, y6, y7, y8, y9, y10, y11, y12, y13, rfl, s2⟩ ⟨rfl, rfl⟩
    have ei : (0 : Int) + (i : Int) = (i : Int) := Int.zero_add _
    have hi' : i + 1 < order.length := by omega
    obtain ⟨x, hx⟩ : ∃ x, order[i]? = some x := ⟨order[i]'(by omega), List.getElem?_eq_getElem (by omega)⟩
    obtain ⟨y, hy⟩ : ∃ y, order[i + 1]? = some y := ⟨order[i + 1]'hi', List.getElem?_eq_getElem hi'⟩
    rw [show ((fun i : Nat => V.int ((0 : Int) + (i : Int))) i) = V.int (i : Int) from congrArg V.int ei]
    have o2 := s2 _ _ eo
    have spm := swap_perm hx hy
    -- made
    refine ⟨.ref o, rfl, _, rfl, _, rfl, o, _, rfl, .inl (.inl o2), fun p1 hp1 => ?_⟩
    rw [cutV_map, cutL_to]
    have s3 := same_upd (o := .lst ((order.take i).map V.str)) hp1
    refine ⟨.ref o, rfl, _, rfl, _, rfl, _, rfl, _, _, rfl, rfl, _, rfl, o, _, rfl, .inl (.inl (s3 _ _ o2)), fun p2 hp2 => ?_⟩
    rw [cutV_map, cut2 hx hy]
    have s4 := same_upd (o := .lst (([x, y] : List Str).map V.str)) hp2
    refine ⟨p2, _, rfl, .inl (.inl upd_same), fun p3 hp3 => ?_⟩
    have s5 := same_upd (o := .lst (([x, y] : List Str).map V.str).reverse) hp3
    have s25 := (s3.trans s4).trans s5
    refine ⟨p1, p3, _, _, rfl, rfl, s5 _ _ (s4 _ _ upd_same), upd_same, ?_, fun p4 hp4 => ?_⟩
    · rw [List.length_map, List.length_take]
      exact small_le (by show _ + 2 ≤ 1000; omega)
    have s6 := same_upd (o := .lst ((order.take i).map V.str ++ (([x, y] : List Str).map V.str).reverse)) hp4
    refine ⟨.ref o, rfl, _, rfl, _, _, rfl, rfl, _, rfl, o, _, rfl, .inl (.inl (s6 _ _ (s25 _ _ o2))), fun p5 hp5 => ?_⟩
    rw [cutV_map, show ((i : Int) + 2) = ((i + 2 : Nat) : Int) from rfl, cutL_from]
    have s7 := same_upd (o := .lst ((order.drop (i + 2)).map V.str)) hp5
    refine ⟨p4, p5, _, _, rfl, rfl, s7 _ _ upd_same, upd_same, ?_, fun p6 hp6 => ?_⟩
    · rw [List.length_append, List.length_map, List.length_map, List.length_take, List.length_drop]
      exact small_le (by show _ + 2 + _ ≤ 1000; omega)
    have em : (order.take i).map V.str ++ (([x, y] : List Str).map V.str).reverse ++ (order.drop (i + 2)).map V.str = (swapL order i x y).map V.str := by
      unfold swapL
      rw [List.map_append, List.map_append]
      rfl
    rw [em]
    have s8 := same_upd (o := .lst ((swapL order i x y).map V.str)) hp6
    have s28 := ((s25.trans s6).trans s7).trans s8
    have s18 := s2.trans s28
    -- due
    refine ⟨_, rfl, _, rfl, a, p6, ps, _, rfl, hpa.same s18, hpo, upd_same, go.perm spm, by rw [spm.length_eq]; omega, fun t9 H9 s9 e9 => ?_⟩
    have s19 := s18.trans s9
    refine ⟨_, rfl, t9, t, _, _, rfl, rfl, e9, et.same s19, (go.perm spm).perm (stand_perm ps _), go.perm (stand_perm ps order), ?_⟩
    -- told
    refine ⟨_, rfl, _, rfl, _, rfl, a, o, ps, order, i, x, y, rfl, (hpa.same s19).fr, hpl, .inr (s19 _ _ eo), go, ndo, by omega, hx, hy, fun H10 s10 => ?_⟩
    have s110 := s19.trans s10
    obtain ⟨bs', c1, c2, c3'⟩ := hpa.same s110
    refine ⟨.ref a, rfl, a, _, rfl, .inr (.inl (.inl c1)), fun p11 hp11 => ?_⟩
    have s11 := same_upd (o := .lst (refs bs')) hp11
    refine ⟨.ref o, rfl, o, _, rfl, .inl ⟨.inl (.inl (s11 _ _ (s110 _ _ eo))), fun t12 H12 s12 n12 e12 => ?_⟩⟩
    refine ⟨_, rfl, p11, t12, ps, order, i, x, y, rfl, ⟨bs', .inr (s12 _ _ upd_same), (c2.same s11).same s12, c3'⟩, hpl, .inl e12, go, ndo, by omega, hx, hy, fun H13 s13 => ?_⟩
    have ed : decide (standOf ps (swapL order i x y) = standOf ps order) = decide (standOf ps order = standOf ps (swapL order i x y)) := decide_eq_decide.mpr eq_comm
    rw [ed]
    generalize decide (standOf ps order = standOf ps (swapL order i x y)) = bb
    refine ⟨(by show 2 ≤ sizeLine; decide), fun p14 hp14 => ?_⟩
    refine ⟨_, rfl, _, rfl, (by show 2 ≤ sizeLine; decide), fun p15 hp15 => ?_⟩
    have s14 := same_upd (o := .lst [.bl bb, .bl bb]) hp14
    have s15 := same_upd (o := .lst [.bl bb, .bl bb]) hp15
    have ft : Fit 1 2 (.list [.bool bb, .bool bb]) := fit_list (n := 0) (w := 0) (m := 2) (fitl_cons (fit_bool bb) (fitl_cons (fit_bool bb) fitl_nil)) (by show 2 ≤ 2; decide)
    refine ⟨.ref p14, .ref p15, .list [.bool bb, .bool bb], rfl, Shown.mk_ (.lst (.inl (.inl (s15 _ _ upd_same))) (.cons (.bl bb) (.cons (.bl bb) .nil))) ft, Shown.mk_ (.lst (.inl (.inl upd_same)) (.cons (.bl bb) (.cons (.bl bb) .nil))) ft, fun H16 s16 => ⟨true, rfl, ?_⟩⟩
    exact ⟨_, _, _, _, _, _, _, _, _, rfl, ((((s110.trans s11).trans s12).trans s13).trans s14).trans (s15.trans s16)⟩
  rintro σ H2 ⟨y5, y6, y7, y8, y9, y10, y11, y12, y13, rfl, s2⟩
  have b2 := b1.same s2
  have o2 := s2 _ _ eo
  -- last, many
  refine ⟨_, rfl, _, rfl, b, l, pool, rfl, b2, .inr (s2 _ _ el), by omega, fun la last H3 o3 b3 nla e3 pml => ?_⟩
  have oo3 := o3 _ _ (b2.ne_strs o2) o2
  have ndl : last.Nodup := pml.nodup_iff.mpr ndp
  have pol : order.Perm last := pm.trans pml.symm
  have ll : last.length = order.length := pol.length_eq.symm
  have many : ((order.length : Int) * ((order.length : Int) - 1)) / 2 = (cntL (order.reverse.idxOf ·) order : Nat) := by
    have h := cnt_rev ndo
    have h' : ((2 * cntL (order.reverse.idxOf ·) order : Nat) : Int) = ((order.length * (order.length - 1) : Nat) : Int) := congrArg _ h
    have e : ((order.length * (order.length - 1) : Nat) : Int) = (order.length : Int) * ((order.length : Int) - 1) := by
      rw [Int.natCast_mul, Int.natCast_sub (by omega)]
      rfl
    rw [← e, ← h']
    omega
  refine ⟨fun v H' => v = .int (cntL (order.reverse.idxOf ·) order : Nat) ∧ H3 = H', ?_, ?_⟩
  · refine ⟨.ref o, rfl, o, _, rfl, .inl (.inl (.inl oo3)), .ref o, rfl, o, _, rfl, .inl (.inl (.inl oo3)), _, _, rfl, rfl, _, _, rfl, rfl, .inl ⟨?_, ?_⟩, _, _, rfl, rfl, ⟨by decide, by decide⟩, ?_, rfl⟩
    · rw [List.length_map]
      omega
    · rw [List.length_map]
      omega
    · rw [List.length_map]
      exact congrArg V.int many
  rintro v _ ⟨rfl, rfl⟩
  refine ⟨(by show 2 ≤ sizeLine; decide), fun T3 hT3 => ?_⟩
  have s4 := same_upd (o := .tup [.ref la, .int (cntL (order.reverse.idxOf ·) order : Nat)]) hT3
  refine ⟨T3, _, rfl, .inl (.inl upd_same), rfl, _, _, rfl, _, _, rfl, rfl, ?_⟩
  have o4 := s4 _ _ oo3
  have l4 := s4 _ _ e3
  refine ⟨.ref o, rfl, o, _, rfl, .inl (.inl o4), ?_⟩
  refine for_it (walk_enum (xs := order.map V.str)) (fun i σ H' => ∃ (y10 y11 y12 y13 : Option V), σ = [some (.ref b), some (.ref a), some (.ref l), some (.ref o), some (.ref t), y5, y6, some (.int (cntL (last.idxOf ·) (order.take i) : Nat)), some (.ref la), some (.int (cntL (order.reverse.idxOf ·) order : Nat)), y10, y11, y12, y13] ∧ Same (upd H3 T3 (.tup [.ref la, .int (cntL (order.reverse.idxOf ·) order : Nat)])) H') ?_ ?_ ?_ ?_
  · exact ⟨_, _, _, _, rfl, Same.refl _⟩
  · rintro i σ H' _ ⟨y10, y11, y12, y13, _, s5⟩
    exact .inl (.inl (s5 _ _ o4))
  · rintro i v σ H5 H6 hi ⟨y10, y11, y12, y13, rfl, s5⟩ ⟨T, x1, x2, rfl, nT, rfl, e1, e2⟩
    cases e1
    obtain ⟨z, hz, rfl⟩ := at_map e2
    rw [List.length_map] at hi
    have sT := same_upd (o := .tup [.int (i : Nat), .str z]) nT
    have s6 := s5.trans sT
    refine ⟨T, _, rfl, .inl (.inl upd_same), rfl, _, _, rfl, _, _, rfl, rfl, ?_⟩
    refine ⟨_, rfl, .ref o, rfl, _, rfl, _, rfl, o, _, rfl, .inl (.inl (s6 _ _ o4)), fun p7 hp7 => ?_⟩
    rw [cutV_map, cutL_to]
    have s7 := same_upd (o := .lst ((order.take i).map V.str)) hp7
    refine ⟨p7, rfl, ⟨_, .inl (.inl upd_same)⟩, fun L hL => ?_⟩
    have at_ : ∀ y ∈ order, ∃ j, last[j]? = some y ∧ last.idxOf y = j := fun y hy => by
      obtain ⟨j, hj⟩ := List.mem_iff_getElem?.mp (pol.mem_iff.mp hy)
      exact ⟨j, hj, idx_at ndl hj⟩
    obtain ⟨jz, hjz, ejz⟩ := at_ z (List.mem_of_getElem? hz)
    refine lc_filt (walk_list (K := K) (xs := (order.take i).map V.str)) (fun y => decide (last.idxOf z < last.idxOf y)) hL (fun H' s => .inl (.inl (s _ _ upd_same))) ?_ ?_ (by rw [List.length_take]; omega) (fun v H A B h z => h _ _ z) ?_ (fun σ2 H A B h ⟨v, e, z⟩ => ⟨v, e, h _ _ z⟩)
    · rintro k y v H8 H8' hy s8 ⟨rfl, ex⟩
      rw [ix_map hy] at ex
      cases ex
      obtain ⟨jy, hjy, ejy⟩ := at_ y (List.mem_of_mem_take (List.mem_of_getElem? hy))
      have l8 := s8 _ _ (s7 _ _ (s6 _ _ l4))
      refine ⟨Same.refl _, rfl, .ref la, rfl, .inl ⟨rfl, _, .inl (.inl l8)⟩, .str y, rfl, la, last, y, jy, rfl, rfl, l8, hjy, nd_first ndl hjy, .ref la, rfl, .inl ⟨rfl, _, .inl (.inl l8)⟩, .str z, rfl, la, last, z, jz, rfl, rfl, l8, hjz, nd_first ndl hjz, _, _, rfl, rfl, _, rfl, ?_, Same.refl _, fun _ => ⟨_, rfl, rfl, Same.refl _⟩⟩
      rw [ejz, ejy]
      exact decide_eq_decide.mpr (by omega)
    · intro H8 s8 e8
      refine ⟨L, _, rfl, .inl (.inl (.inl e8)), _, _, rfl, rfl, some (.int (i : Nat)), some (.str z), y12, y13, ?_, s6.trans (s7.trans s8)⟩
      rw [cntL_take hz, List.length_map]
      rfl
    · rintro σ2 H A B h ⟨v1, e1, c1, v2, e2, w1, w2, w3, w4, f1, f2, f3, f4, f5, v3, e3, c2, v4, e4, u1, u2, u3, u4, g1, g2, g3, g4, g5, i1, i2, j1, j2, bb, eb, zz⟩
      exact ⟨v1, e1, c1, v2, e2, w1, w2, w3, w4, f1, f2, f3, f4, f5, v3, e3, c2, v4, e4, u1, u2, u3, u4, g1, g2, g3, g4, g5, i1, i2, j1, j2, bb, eb, h _ _ zz⟩
  rintro σ H5 ⟨y10', y11', y12', y13', rfl, s5⟩
  rw [List.length_map, List.take_of_length_le (Nat.le_refl _)]
  have o5 := s5 _ _ o4
  have l5 := s5 _ _ l4
  have e1 : cntL (order.idxOf ·) last = cntL (last.idxOf ·) order := (cnt_swap ndo pol).symm
  -- told
  refine ⟨_, rfl, _, rfl, o, la, order, last, rfl, .inr o5, .inr l5, ndl, pol, by omega, fun H6 s6 => ?_⟩
  refine ⟨.ref la, rfl, la, _, rfl, .inl ⟨.inl (.inl (s6 _ _ l5)), fun t7 H7 s7 n7 e7 => ?_⟩⟩
  refine ⟨_, rfl, t7, o, last, order, rfl, .inl e7, .inr (s7 _ _ (s6 _ _ o5)), ndo, pol.symm, by omega, fun H8 s8 => ?_⟩
  have s58 := (s6.trans s7).trans s8
  refine ⟨_, rfl, _, rfl, o, o, order, order, rfl, .inr (s58 _ _ o5), .inr (s58 _ _ o5), ndo, List.Perm.refl _, by omega, fun H9 s9 => ?_⟩
  rw [e1, cnt_self ndo]
  refine ⟨(by show 3 ≤ sizeLine; decide), fun p10 hp10 => ?_⟩
  have s10 := same_upd (o := .lst [.int (cntL (last.idxOf ·) order : Nat), .int (cntL (last.idxOf ·) order : Nat), .int (0 : Nat)]) hp10
  have s510 := (s58.trans s9).trans s10
  refine ⟨.ref p10, rfl, .inl ⟨rfl, _, .inl (.inl upd_same)⟩, .ref o, rfl, .ref o, rfl, o, _, rfl, .inl (.inl (s510 _ _ o5)), fun p11 hp11 => ?_⟩
  rw [← List.map_reverse]
  have s11 := same_upd (o := .lst (order.reverse.map V.str)) hp11
  refine ⟨o, p11, order, order.reverse, rfl, .inr (s11 _ _ (s510 _ _ o5)), .inr upd_same, nodup_rev ndo, (List.reverse_perm order).symm, by omega, fun H12 s12 => ?_⟩
  have e12 := s12 _ _ (s11 _ _ (upd_same (H := H9) (a := p10) (o := .lst [.int (cntL (last.idxOf ·) order : Nat), .int (cntL (last.idxOf ·) order : Nat), .int (0 : Nat)])))
  refine ⟨p10, _, _, rfl, rfl, e12, (by show 3 < sizeLine; decide), ?_⟩
  refine ⟨_, rfl, _, rfl, _, rfl, _, rfl, (by show 4 ≤ sizeLine; decide), fun p13 hp13 => ?_⟩
  have s13 := same_upd (o := .lst [.int (cntL (last.idxOf ·) order : Nat), .int (cntL (last.idxOf ·) order : Nat), .int 0, .int (cntL (order.reverse.idxOf ·) order : Nat)]) hp13
  have sm : order.length * order.length ≤ 26 * 26 := Nat.mul_le_mul (by omega) (by omega)
  have c1 := cnt_le (last.idxOf ·) order
  have c2 := cnt_le (order.reverse.idxOf ·) order
  have i1 : Fit 0 40 (.int (cntL (last.idxOf ·) order : Nat)) := fit_int (by rw [Int.natAbs_natCast]; exact Nat.lt_of_le_of_lt (Nat.le_trans c1 sm) (by decide))
  have i2 : Fit 0 40 (.int (cntL (order.reverse.idxOf ·) order : Nat)) := fit_int (by rw [Int.natAbs_natCast]; exact Nat.lt_of_le_of_lt (Nat.le_trans c2 sm) (by decide))
  have i0 : Fit 0 40 (.int 0) := fit_int (by decide)
  have ft : Fit 1 164 (.list [.int (cntL (last.idxOf ·) order : Nat), .int (cntL (last.idxOf ·) order : Nat), .int 0, .int (cntL (order.reverse.idxOf ·) order : Nat)]) := fit_list (n := 0) (w := 40) (m := 4) (fitl_cons i1 (fitl_cons i1 (fitl_cons i0 (fitl_cons i2 fitl_nil)))) (by show 4 ≤ 4; decide)
  refine ⟨.ref p10, .ref p13, _, rfl, Shown.mk_ (.lst (.inl (.inl (s13 _ _ upd_same))) (.cons (.int _) (.cons (.int _) (.cons (.int _) (.cons (.int _) .nil))))) ft, Shown.mk_ (.lst (.inl (.inl upd_same)) (.cons (.int _) (.cons (.int _) (.cons (.int _) (.cons (.int _) .nil))))) ft, fun H14 s14 => ?_⟩
  refine q H14 ?_
  have n10 : p10 ≠ b := (b3.same ((s4.trans s5).trans (s58.trans s9))).ne_none hp10
  have oA : Oth b H H9 := ((o1.trans (Oth.of s2)).trans o3).trans (Oth.of ((s4.trans s5).trans (s58.trans s9)))
  have n0 : H p10 = none := oA.free n10 hp10
  intro c u nc hu
  have g9 := oA c u nc hu
  have ne : c ≠ p10 := ne_of_none hu n0
  refine s14 _ _ (s13 _ _ ?_)
  rw [upd_ne ne]
  exact s12 _ _ (s11 _ _ (s10 _ _ g9))
/-! ### law -/
abbrev sLaw : Stmt := topS 28
abbrev nLaw : List Str := ["_law_script", "_law_cells_here", "_law_k"]
theorem scLaw : FnScope nLaw ["_law_script"] (defScope sLaw) := ⟨rfl, rfl, rfl, by decide +kernel, rfl, by decide +kernel, by decide +kernel⟩
theorem ok_law {f : Addr} {fd : FuncData} {n : Nat} (B : Blt mg) (CC : Cal P w K mg base 1 "_law_cells" ["_law_script", "_law_utmost"] (spCells K)) (CX : Cal P w K mg base 1 "_law_box" ["_law_cells_here", "_law_k"] spBox) (CR : Cal P w K mg base (n + 1) "_law_right" ["_law_box_here"] spRight) (F : Fun K "law" "law" sLaw f fd) : FnOk P w K mg base CX0 (n + 2) f fd ["_law_script"] (spLaw K) := by
  refine fok F scLaw (fun vs H Q E h => ?_) (fun cdv A outer s H vs Q E hr h => ?_)
  · obtain ⟨a, ns, rfl, _⟩ := h
    rfl
  obtain ⟨a, ns, rfl, ha, hn, q⟩ := h
  have h1 : Room 1 _ := hr.mono (by omega)
  refine ⟨_, pss_cons (ps_set (i := 1) scLaw.nd rfl (.inl rfl) (pe_cal CC h1 (pa_cons (pv 0) (pa_cons pe_int pa_nil))))
    (pss_cons (ps_for PassesOwn.never rfl (pi_range1 (by rfl) B.range (pa_cons (pe_callB call_len_seq (by rfl) B.len PySem.boot_len (pa_cons (pv 1) pa_nil)) pa_nil)) (pg_name (i := 2) scLaw.nd rfl (.inl rfl))
      (pss_one (ps_if (pt_not (pt_val (pe_cal CR hr (pa_cons (pe_cal CX h1 (pa_cons (pv 1) (pa_cons (pv 2) pa_nil))) pa_nil)))) (pss_one (ps_ret pe_bl)) pss_nil)))
    (pss_one (ps_ret pe_bl))), ?_⟩
  refine ⟨.ref a, rfl, a, ns, _, rfl, ha, hn, by decide, by decide, fun c ms H1 s1 nc e1 m0 m3 => ?_⟩
  refine ⟨.ref c, rfl, c, _, rfl, .inl (.inl (.inl e1)), _, rfl, ?_, ?_, ?_⟩
  · rw [List.length_map]
    omega
  · rw [List.length_map]
    omega
  rw [List.length_map]
  refine for_it (walk_range (lo := 0) (n := ((ms.length : Int)).toNat)) (fun i σ H' => ∃ y2, σ = [some (.ref a), some (.ref c), y2] ∧ H' c = some (.lst (ms.map V.int))) ?_ (fun _ _ _ _ _ => trivial) ?_ ?_
  · exact ⟨_, rfl, e1⟩
  · rintro i x σ H3 H2 hi ⟨y2, rfl, e2⟩ ⟨rfl, rfl⟩
    have ei : (0 : Int) + (i : Int) = (i : Int) := Int.zero_add _
    refine ⟨.ref c, rfl, _, rfl, c, ms, i, congrArg (fun z => [V.ref c, V.int z]) ei, e2, by omega, by omega, fun b H4 s4 nb b4 => ?_⟩
    have c4 := s4 _ _ e2
    have ncb : c ≠ b := ne_of_none e2 nb
    exact ⟨b, rfl, b4, fun H5 o5 => ⟨true, rfl, _, rfl, o5 _ _ ncb c4⟩⟩
  · rintro σ H2 ⟨y2, rfl, e2⟩
    exact q _
end
/-! ### what the top has written; the law's own head -/
theorem all_mk {l : PySem.W.OpenLaw} {w : World} {K : PySem.W.Frag} {h : Heap} {mg : Str → Option Value} {fa f1 f2 f3 f4 f5 f6 f7 f8 f9 f10 f11 f12 f13 f14 f15 f16 f17 f18 f19 f20 f21 f22 f23 : Addr} (XK : K.In h) (G : h.Ns mainGlobals mg) (hfa : mg "law" = some (.ref fa))
    {od1 an1 od2 an2 od3 an3 od4 an4 od5 an5 od6 an6 od7 an7 od8 an8 od9 an9 od10 an10 od11 an11 od12 an12 od13 an13 od14 an14 od15 an15 od16 an16 od17 an17 od18 an18 od19 an19 od20 an20 od21 an21 od22 an22 od23 an23 : Option Addr} {sl1 sl2 sl3 sl4 sl5 sl6 sl7 sl8 sl9 sl10 sl11 sl12 sl13 sl14 sl15 sl16 sl17 sl18 sl19 sl20 sl21 sl22 sl23 : Array (Option Value)} {oc1 kV1 dc1 pm1 cd1 ct1 oc2 kV2 dc2 pm2 cd2 ct2 oc3 kV3 dc3 pm3 cd3 ct3 oc4 kV4 dc4 pm4 cd4 ct4 oc5 kV5 dc5 pm5 cd5 ct5 oc6 kV6 dc6 pm6 cd6 ct6 oc7 kV7 dc7 pm7 cd7 ct7 oc8 kV8 dc8 pm8 cd8 ct8 oc9 kV9 dc9 pm9 cd9 ct9 oc10 kV10 dc10 pm10 cd10 ct10 oc11 kV11 dc11 pm11 cd11 ct11 oc12 kV12 dc12 pm12 cd12 ct12 oc13 kV13 dc13 pm13 cd13 ct13 oc14 kV14 dc14 pm14 cd14 ct14 oc15 kV15 dc15 pm15 cd15 ct15 oc16 kV16 dc16 pm16 cd16 ct16 oc17 kV17 dc17 pm17 cd17 ct17 oc18 kV18 dc18 pm18 cd18 ct18 oc19 kV19 dc19 pm19 cd19 ct19 oc20 kV20 dc20 pm20 cd20 ct20 oc21 kV21 dc21 pm21 cd21 ct21 oc22 kV22 dc22 pm22 cd22 ct22 oc23 kV23 dc23 pm23 cd23 ct23 : Value}
    (a1 : PySem.W.nsIn K mainGlobals "both_ways" = some (some (.ref f1))) (l1 : K.lookup f1 = some ⟨oc1, od1, .func (PySem.W.fnOf "both_ways" "both_ways" (defArgs sBoth) (defBody sBoth) (defScope sBoth) .none kV1 dc1 pm1 an1 cd1 ct1), sl1⟩) (c1 : PySem.W.codeIn K cd1 "both_ways" = true) (k1 : PySem.W.keepIn K (.ref f1) = true)
    (a2 : PySem.W.nsIn K mainGlobals "last_friend_place" = some (some (.ref f2))) (l2 : K.lookup f2 = some ⟨oc2, od2, .func (PySem.W.fnOf "last_friend_place" "last_friend_place" (defArgs sLfp) (defBody sLfp) (defScope sLfp) .none kV2 dc2 pm2 an2 cd2 ct2), sl2⟩) (c2 : PySem.W.codeIn K cd2 "last_friend_place" = true) (k2 : PySem.W.keepIn K (.ref f2) = true)
    (a3 : PySem.W.nsIn K mainGlobals "host_place" = some (some (.ref f3))) (l3 : K.lookup f3 = some ⟨oc3, od3, .func (PySem.W.fnOf "host_place" "host_place" (defArgs sHostP) (defBody sHostP) (defScope sHostP) .none kV3 dc3 pm3 an3 cd3 ct3), sl3⟩) (c3 : PySem.W.codeIn K cd3 "host_place" = true) (k3 : PySem.W.keepIn K (.ref f3) = true)
    (a4 : PySem.W.nsIn K mainGlobals "coming_place" = some (some (.ref f4))) (l4 : K.lookup f4 = some ⟨oc4, od4, .func (PySem.W.fnOf "coming_place" "coming_place" (defArgs sComingP) (defBody sComingP) (defScope sComingP) .none kV4 dc4 pm4 an4 cd4 ct4), sl4⟩) (c4 : PySem.W.codeIn K cd4 "coming_place" = true) (k4 : PySem.W.keepIn K (.ref f4) = true)
    (a5 : PySem.W.nsIn K mainGlobals "stood_in" = some (some (.ref f5))) (l5 : K.lookup f5 = some ⟨oc5, od5, .func (PySem.W.fnOf "stood_in" "stood_in" (defArgs sStood) (defBody sStood) (defScope sStood) .none kV5 dc5 pm5 an5 cd5 ct5), sl5⟩) (c5 : PySem.W.codeIn K cd5 "stood_in" = true) (k5 : PySem.W.keepIn K (.ref f5) = true)
    (a6 : PySem.W.nsIn K mainGlobals "row_of" = some (some (.ref f6))) (l6 : K.lookup f6 = some ⟨oc6, od6, .func (PySem.W.fnOf "row_of" "row_of" (defArgs sRowOf) (defBody sRowOf) (defScope sRowOf) .none kV6 dc6 pm6 an6 cd6 ct6), sl6⟩) (c6 : PySem.W.codeIn K cd6 "row_of" = true) (k6 : PySem.W.keepIn K (.ref f6) = true)
    (a7 : PySem.W.nsIn K mainGlobals "exchanged" = some (some (.ref f7))) (l7 : K.lookup f7 = some ⟨oc7, od7, .func (PySem.W.fnOf "exchanged" "exchanged" (defArgs sExch) (defBody sExch) (defScope sExch) .none kV7 dc7 pm7 an7 cd7 ct7), sl7⟩) (c7 : PySem.W.codeIn K cd7 "exchanged" = true) (k7 : PySem.W.keepIn K (.ref f7) = true)
    (a8 : PySem.W.nsIn K mainGlobals "may_exchange" = some (some (.ref f8))) (l8 : K.lookup f8 = some ⟨oc8, od8, .func (PySem.W.fnOf "may_exchange" "may_exchange" (defArgs sMayEx) (defBody sMayEx) (defScope sMayEx) .none kV8 dc8 pm8 an8 cd8 ct8), sl8⟩) (c8 : PySem.W.codeIn K cd8 "may_exchange" = true) (k8 : PySem.W.keepIn K (.ref f8) = true)
    (a9 : PySem.W.nsIn K mainGlobals "places_in" = some (some (.ref f9))) (l9 : K.lookup f9 = some ⟨oc9, od9, .func (PySem.W.fnOf "places_in" "places_in" (defArgs sPlaces) (defBody sPlaces) (defScope sPlaces) .none kV9 dc9 pm9 an9 cd9 ct9), sl9⟩) (c9 : PySem.W.codeIn K cd9 "places_in" = true) (k9 : PySem.W.keepIn K (.ref f9) = true)
    (a10 : PySem.W.nsIn K mainGlobals "pairs_apart" = some (some (.ref f10))) (l10 : K.lookup f10 = some ⟨oc10, od10, .func (PySem.W.fnOf "pairs_apart" "pairs_apart" (defArgs sApart) (defBody sApart) (defScope sApart) .none kV10 dc10 pm10 an10 cd10 ct10), sl10⟩) (c10 : PySem.W.codeIn K cd10 "pairs_apart" = true) (k10 : PySem.W.keepIn K (.ref f10) = true)
    (a11 : PySem.W.nsIn K mainGlobals "_law_box" = some (some (.ref f11))) (l11 : K.lookup f11 = some ⟨oc11, od11, .func (PySem.W.fnOf "_law_box" "_law_box" (defArgs sBox) (defBody sBox) (defScope sBox) .none kV11 dc11 pm11 an11 cd11 ct11), sl11⟩) (c11 : PySem.W.codeIn K cd11 "_law_box" = true) (k11 : PySem.W.keepIn K (.ref f11) = true)
    (a12 : PySem.W.nsIn K mainGlobals "_law_take" = some (some (.ref f12))) (l12 : K.lookup f12 = some ⟨oc12, od12, .func (PySem.W.fnOf "_law_take" "_law_take" (defArgs sTake) (defBody sTake) (defScope sTake) .none kV12 dc12 pm12 an12 cd12 ct12), sl12⟩) (c12 : PySem.W.codeIn K cd12 "_law_take" = true) (k12 : PySem.W.keepIn K (.ref f12) = true)
    (a13 : PySem.W.nsIn K mainGlobals "_law_cells" = some (some (.ref f13))) (l13 : K.lookup f13 = some ⟨oc13, od13, .func (PySem.W.fnOf "_law_cells" "_law_cells" (defArgs sCells) (defBody sCells) (defScope sCells) .none kV13 dc13 pm13 an13 cd13 ct13), sl13⟩) (c13 : PySem.W.codeIn K cd13 "_law_cells" = true) (k13 : PySem.W.keepIn K (.ref f13) = true)
    (a14 : PySem.W.nsIn K mainGlobals "_law_names" = some (some (.ref f14))) (l14 : K.lookup f14 = some ⟨oc14, od14, .func (PySem.W.fnOf "_law_names" "_law_names" (defArgs sNames) (defBody sNames) (defScope sNames) .none kV14 dc14 pm14 an14 cd14 ct14), sl14⟩) (c14 : PySem.W.codeIn K cd14 "_law_names" = true) (k14 : PySem.W.keepIn K (.ref f14) = true)
    (a15 : PySem.W.nsIn K mainGlobals "_law_pals" = some (some (.ref f15))) (l15 : K.lookup f15 = some ⟨oc15, od15, .func (PySem.W.fnOf "_law_pals" "_law_pals" (defArgs sPals) (defBody sPals) (defScope sPals) .none kV15 dc15 pm15 an15 cd15 ct15), sl15⟩) (c15 : PySem.W.codeIn K cd15 "_law_pals" = true) (k15 : PySem.W.keepIn K (.ref f15) = true)
    (a16 : PySem.W.nsIn K mainGlobals "_law_are" = some (some (.ref f16))) (l16 : K.lookup f16 = some ⟨oc16, od16, .func (PySem.W.fnOf "_law_are" "_law_are" (defArgs sAre) (defBody sAre) (defScope sAre) .none kV16 dc16 pm16 an16 cd16 ct16), sl16⟩) (c16 : PySem.W.codeIn K cd16 "_law_are" = true) (k16 : PySem.W.keepIn K (.ref f16) = true)
    (a17 : PySem.W.nsIn K mainGlobals "_law_come" = some (some (.ref f17))) (l17 : K.lookup f17 = some ⟨oc17, od17, .func (PySem.W.fnOf "_law_come" "_law_come" (defArgs sCome) (defBody sCome) (defScope sCome) .none kV17 dc17 pm17 an17 cd17 ct17), sl17⟩) (c17 : PySem.W.codeIn K cd17 "_law_come" = true) (k17 : PySem.W.keepIn K (.ref f17) = true)
    (a18 : PySem.W.nsIn K mainGlobals "_law_stand_of" = some (some (.ref f18))) (l18 : K.lookup f18 = some ⟨oc18, od18, .func (PySem.W.fnOf "_law_stand_of" "_law_stand_of" (defArgs sStandOf) (defBody sStandOf) (defScope sStandOf) .none kV18 dc18 pm18 an18 cd18 ct18), sl18⟩) (c18 : PySem.W.codeIn K cd18 "_law_stand_of" = true) (k18 : PySem.W.keepIn K (.ref f18) = true)
    (a19 : PySem.W.nsIn K mainGlobals "_law_strewn" = some (some (.ref f19))) (l19 : K.lookup f19 = some ⟨oc19, od19, .func (PySem.W.fnOf "_law_strewn" "_law_strewn" (defArgs sStrewn) (defBody sStrewn) (defScope sStrewn) .none kV19 dc19 pm19 an19 cd19 ct19), sl19⟩) (c19 : PySem.W.codeIn K cd19 "_law_strewn" = true) (k19 : PySem.W.keepIn K (.ref f19) = true)
    (a20 : PySem.W.nsIn K mainGlobals "_law_world" = some (some (.ref f20))) (l20 : K.lookup f20 = some ⟨oc20, od20, .func (PySem.W.fnOf "_law_world" "_law_world" (defArgs sWorld) (defBody sWorld) (defScope sWorld) .none kV20 dc20 pm20 an20 cd20 ct20), sl20⟩) (c20 : PySem.W.codeIn K cd20 "_law_world" = true) (k20 : PySem.W.keepIn K (.ref f20) = true)
    (a21 : PySem.W.nsIn K mainGlobals "_law_same" = some (some (.ref f21))) (l21 : K.lookup f21 = some ⟨oc21, od21, .func (PySem.W.fnOf "_law_same" "_law_same" (defArgs sSame) (defBody sSame) (defScope sSame) .none kV21 dc21 pm21 an21 cd21 ct21), sl21⟩) (c21 : PySem.W.codeIn K cd21 "_law_same" = true) (k21 : PySem.W.keepIn K (.ref f21) = true)
    (a22 : PySem.W.nsIn K mainGlobals "_law_right" = some (some (.ref f22))) (l22 : K.lookup f22 = some ⟨oc22, od22, .func (PySem.W.fnOf "_law_right" "_law_right" (defArgs sRight) (defBody sRight) (defScope sRight) .none kV22 dc22 pm22 an22 cd22 ct22), sl22⟩) (c22 : PySem.W.codeIn K cd22 "_law_right" = true) (k22 : PySem.W.keepIn K (.ref f22) = true)
    (a23 : PySem.W.nsIn K mainGlobals "law" = some (some (.ref f23))) (l23 : K.lookup f23 = some ⟨oc23, od23, .func (PySem.W.fnOf "law" "law" (defArgs sLaw) (defBody sLaw) (defScope sLaw) .none kV23 dc23 pm23 an23 cd23 ct23), sl23⟩) (c23 : PySem.W.codeIn K cd23 "law" = true) (k23 : PySem.W.keepIn K (.ref f23) = true)
    (z1 : PySem.W.nsIn K mainGlobals "len" = some none)
    (z2 : PySem.W.nsIn K mainGlobals "abs" = some none)
    (z3 : PySem.W.nsIn K mainGlobals "int" = some none)
    (z4 : PySem.W.nsIn K mainGlobals "list" = some none)
    (z5 : PySem.W.nsIn K mainGlobals "tuple" = some none)
    (z6 : PySem.W.nsIn K mainGlobals "enumerate" = some none)
    (z7 : PySem.W.nsIn K mainGlobals "range" = some none)
    (z8 : PySem.W.nsIn K mainGlobals "min" = some none)
    (z9 : PySem.W.nsIn K mainGlobals "max" = some none)
    (z10 : PySem.W.nsIn K mainGlobals "sorted" = some none)
    (z11 : PySem.W.nsIn K mainGlobals "isinstance" = some none)
    (z12 : PySem.W.nsIn K mainGlobals "zip" = some none)
    (z13 : PySem.W.nsIn K mainGlobals "all" = some none)
    (z14 : PySem.W.nsIn K mainGlobals "str" = some none)
    (z15 : PySem.W.nsIn K mainGlobals "bool" = some none)
    (z16 : PySem.W.nsIn K mainGlobals "any" = some none)
    (z17 : PySem.W.nsIn K mainGlobals "repr" = some none)
    (z18 : PySem.W.nsIn K mainGlobals "set" = some none)
    (z19 : PySem.W.nsIn K mainGlobals "sum" = some none)
    : ∃ fd : FuncData, (∀ (s : Shared) (v : Value), BindsTo s fd ⟨[v], []⟩ [("_law_script", v)]) ∧ ∀ base : Heap, K.In base → base.Ns mainGlobals mg → FnOk l.prog w K mg base CX0 8 fa fd ["_law_script"] (spLaw K) := by
  have e := hfa.symm.trans (PySem.W.mg_of XK G a23)
  cases e
  have FBo := fun_mk (st := sBoth) l1 c1 k1
  have gBo := PySem.W.mg_of XK G a1
  have bBo := FBo.binds (ps := ["friends"]) fun _ _ _ _ _ _ us hl => match us, hl with | [_], _ => rfl
  have FL := fun_mk (st := sLfp) l2 c2 k2
  have gL := PySem.W.mg_of XK G a2
  have bL := FL.binds (ps := ["known", "row", "who"]) fun _ _ _ _ _ _ us hl => match us, hl with | [_, _, _], _ => rfl
  have FHp := fun_mk (st := sHostP) l3 c3 k3
  have gHp := PySem.W.mg_of XK G a3
  have bHp := FHp.binds (ps := ["known", "row", "who"]) fun _ _ _ _ _ _ us hl => match us, hl with | [_, _, _], _ => rfl
  have FCp := fun_mk (st := sComingP) l4 c4 k4
  have gCp := PySem.W.mg_of XK G a4
  have bCp := FCp.binds (ps := ["known", "row", "who"]) fun _ _ _ _ _ _ us hl => match us, hl with | [_, _, _], _ => rfl
  have FSn := fun_mk (st := sStood) l5 c5 k5
  have gSn := PySem.W.mg_of XK G a5
  have bSn := FSn.binds (ps := ["known", "row", "who"]) fun _ _ _ _ _ _ us hl => match us, hl with | [_, _, _], _ => rfl
  have FRo := fun_mk (st := sRowOf) l6 c6 k6
  have gRo := PySem.W.mg_of XK G a6
  have bRo := FRo.binds (ps := ["friends", "order"]) fun _ _ _ _ _ _ us hl => match us, hl with | [_, _], _ => rfl
  have FEx := fun_mk (st := sExch) l7 c7 k7
  have gEx := PySem.W.mg_of XK G a7
  have bEx := FEx.binds (ps := ["order", "place"]) fun _ _ _ _ _ _ us hl => match us, hl with | [_, _], _ => rfl
  have FMe := fun_mk (st := sMayEx) l8 c8 k8
  have gMe := PySem.W.mg_of XK G a8
  have bMe := FMe.binds (ps := ["friends", "order", "place"]) fun _ _ _ _ _ _ us hl => match us, hl with | [_, _, _], _ => rfl
  have FPi := fun_mk (st := sPlaces) l9 c9 k9
  have gPi := PySem.W.mg_of XK G a9
  have bPi := FPi.binds (ps := ["order"]) fun _ _ _ _ _ _ us hl => match us, hl with | [_], _ => rfl
  have FPa := fun_mk (st := sApart) l10 c10 k10
  have gPa := PySem.W.mg_of XK G a10
  have bPa := FPa.binds (ps := ["one", "other"]) fun _ _ _ _ _ _ us hl => match us, hl with | [_, _], _ => rfl
  have FX := fun_mk (st := sBox) l11 c11 k11
  have gX := PySem.W.mg_of XK G a11
  have bX := FX.binds (ps := ["_law_cells_here", "_law_k"]) fun _ _ _ _ _ _ us hl => match us, hl with | [_, _], _ => rfl
  have FT := fun_mk (st := sTake) l12 c12 k12
  have gT := PySem.W.mg_of XK G a12
  have bT := FT.binds (ps := ["_law_box_here", "_law_many"]) fun _ _ _ _ _ _ us hl => match us, hl with | [_, _], _ => rfl
  have FC := fun_mk (st := sCells) l13 c13 k13
  have gC := PySem.W.mg_of XK G a13
  have bC := FC.binds (ps := ["_law_script", "_law_utmost"]) fun _ _ _ _ _ _ us hl => match us, hl with | [_, _], _ => rfl
  have FN := fun_mk (st := sNames) l14 c14 k14
  have gN := PySem.W.mg_of XK G a14
  have bN := FN.binds (ps := ["_law_box_here", "_law_many"]) fun _ _ _ _ _ _ us hl => match us, hl with | [_, _], _ => rfl
  have FP := fun_mk (st := sPals) l15 c15 k15
  have gP := PySem.W.mg_of XK G a15
  have bP := FP.binds (ps := ["_law_box_here", "_law_pool"]) fun _ _ _ _ _ _ us hl => match us, hl with | [_, _], _ => rfl
  have FA := fun_mk (st := sAre) l16 c16 k16
  have gA := PySem.W.mg_of XK G a16
  have bA := FA.binds (ps := ["_law_pals_here", "_law_mine", "_law_its"]) fun _ _ _ _ _ _ us hl => match us, hl with | [_, _, _], _ => rfl
  have FCo := fun_mk (st := sCome) l17 c17 k17
  have gCo := PySem.W.mg_of XK G a17
  have bCo := FCo.binds (ps := ["_law_pals_here", "_law_stand", "_law_name"]) fun _ _ _ _ _ _ us hl => match us, hl with | [_, _, _], _ => rfl
  have FS := fun_mk (st := sStandOf) l18 c18 k18
  have gS := PySem.W.mg_of XK G a18
  have bS := FS.binds (ps := ["_law_pals_here", "_law_some"]) fun _ _ _ _ _ _ us hl => match us, hl with | [_, _], _ => rfl
  have FW := fun_mk (st := sStrewn) l19 c19 k19
  have gW := PySem.W.mg_of XK G a19
  have bW := FW.binds (ps := ["_law_box_here", "_law_some"]) fun _ _ _ _ _ _ us hl => match us, hl with | [_, _], _ => rfl
  have FWd := fun_mk (st := sWorld) l20 c20 k20
  have gWd := PySem.W.mg_of XK G a20
  have bWd := FWd.binds (ps := ["_law_box_here", "_law_least", "_law_utmost"]) fun _ _ _ _ _ _ us hl => match us, hl with | [_, _, _], _ => rfl
  have FSa := fun_mk (st := sSame) l21 c21 k21
  have gSa := PySem.W.mg_of XK G a21
  have bSa := FSa.binds (ps := ["_law_found", "_law_due"]) fun _ _ _ _ _ _ us hl => match us, hl with | [_, _], _ => rfl
  have FR := fun_mk (st := sRight) l22 c22 k22
  have gR := PySem.W.mg_of XK G a22
  have bR := FR.binds (ps := ["_law_box_here"]) fun _ _ _ _ _ _ us hl => match us, hl with | [_], _ => rfl
  have FLaw := fun_mk (st := sLaw) l23 c23 k23
  have gLaw := PySem.W.mg_of XK G a23
  have bLaw := FLaw.binds (ps := ["_law_script"]) fun _ _ _ _ _ _ us hl => match us, hl with | [_], _ => rfl
  have B : Blt mg := ⟨PySem.W.mg_none_of XK G z1, PySem.W.mg_none_of XK G z2, PySem.W.mg_none_of XK G z3, PySem.W.mg_none_of XK G z4, PySem.W.mg_none_of XK G z5, PySem.W.mg_none_of XK G z6, PySem.W.mg_none_of XK G z7, PySem.W.mg_none_of XK G z8, PySem.W.mg_none_of XK G z9, PySem.W.mg_none_of XK G z10, PySem.W.mg_none_of XK G z11, PySem.W.mg_none_of XK G z12, PySem.W.mg_none_of XK G z13, PySem.W.mg_none_of XK G z14, PySem.W.mg_none_of XK G z15, PySem.W.mg_none_of XK G z16, PySem.W.mg_none_of XK G z17, PySem.W.mg_none_of XK G z18, PySem.W.mg_none_of XK G z19⟩
  refine ⟨PySem.W.fnOf "law" "law" (defArgs sLaw) (defBody sLaw) (defScope sLaw) .none kV23 dc23 pm23 an23 cd23 ct23, fun s v => .of_eq rfl, fun base _ _ => ?_⟩
  have cT : Cal l.prog w K mg base 1 "_law_take" _ spTake := ⟨_, _, ok_take FT, gT, FT.kp, bT⟩
  have cX : Cal l.prog w K mg base 1 "_law_box" _ spBox := ⟨_, _, ok_box B FX, gX, FX.kp, bX⟩
  have cC : Cal l.prog w K mg base 1 "_law_cells" _ (spCells K) := ⟨_, _, ok_cells B FC, gC, FC.kp, bC⟩
  have cN : Cal l.prog w K mg base 2 "_law_names" _ spNames := ⟨_, _, ok_names B cT FN, gN, FN.kp, bN⟩
  have cP : Cal l.prog w K mg base 2 "_law_pals" _ spPals := ⟨_, _, ok_pals B cT FP, gP, FP.kp, bP⟩
  have cA : Cal l.prog w K mg base 1 "_law_are" _ spAre := ⟨_, _, ok_are B FA, gA, FA.kp, bA⟩
  have cCo : Cal l.prog w K mg base 2 "_law_come" _ spCome := ⟨_, _, ok_come B cA FCo, gCo, FCo.kp, bCo⟩
  have cS : Cal l.prog w K mg base 3 "_law_stand_of" _ spStandOf := ⟨_, _, ok_standOf cCo FS, gS, FS.kp, bS⟩
  have cW : Cal l.prog w K mg base 2 "_law_strewn" _ spStrewn := ⟨_, _, ok_strewn B cT FW, gW, FW.kp, bW⟩
  have cWd : Cal l.prog w K mg base 4 "_law_world" _ spWorld := ⟨_, _, ok_world cT cN cP cS cW FWd, gWd, FWd.kp, bWd⟩
  have cSa : Cal l.prog w K mg base 1 "_law_same" _ (spSameR K) := ⟨_, _, ok_sameR B FSa, gSa, FSa.kp, bSa⟩
  have cBo : Cal l.prog w K mg base 1 "both_ways" _ spBoth := ⟨_, _, ok_both FBo, gBo, FBo.kp, bBo⟩
  have cL : Cal l.prog w K mg base 1 "last_friend_place" _ spLfp := ⟨_, _, ok_lfp B FL, gL, FL.kp, bL⟩
  have cHp : Cal l.prog w K mg base 2 "host_place" _ spHostP := ⟨_, _, ok_hostP cL FHp, gHp, FHp.kp, bHp⟩
  have cCp : Cal l.prog w K mg base 3 "coming_place" _ spComingP := ⟨_, _, ok_comingP B cHp FCp, gCp, FCp.kp, bCp⟩
  have cSn : Cal l.prog w K mg base 4 "stood_in" _ spStood := ⟨_, _, ok_stood B cCp FSn, gSn, FSn.kp, bSn⟩
  have cRo : Cal l.prog w K mg base 5 "row_of" _ spRowOf := ⟨_, _, ok_rowOf cBo cSn FRo, gRo, FRo.kp, bRo⟩
  have cEx : Cal l.prog w K mg base 1 "exchanged" _ spExch := ⟨_, _, ok_exch B FEx, gEx, FEx.kp, bEx⟩
  have cMe : Cal l.prog w K mg base 6 "may_exchange" _ spMayEx := ⟨_, _, ok_mayEx cRo cEx FMe, gMe, FMe.kp, bMe⟩
  have cPi : Cal l.prog w K mg base 1 "places_in" _ spPlaces := ⟨_, _, ok_places B FPi, gPi, FPi.kp, bPi⟩
  have cPa : Cal l.prog w K mg base 2 "pairs_apart" _ spApart := ⟨_, _, ok_apart B cPi FPa, gPa, FPa.kp, bPa⟩
  have cR : Cal l.prog w K mg base 7 "_law_right" _ spRight := ⟨_, _, ok_right B cWd cS cW cMe cPa cSa FR, gR, FR.kp, bR⟩
  exact ok_law B cC cX cR FLaw
end Lk
open PySem PySem.W PyProof.Rows
set_option maxRecDepth 100000 in
set_option maxHeartbeats 0 in
theorem PySem.Challenge.cw_letinrow_k18_neighbours_exchanged_holds : PySem.Challenge.rw_letinrow_k18_neighbours_exchanged.Holds := by
  w_on; o_law; k_head; (case hw => w_witness2)
  k_fill
  refine Lk.walk_law (l := PySem.Challenge.rw_letinrow_k18_neighbours_exchanged) (n := 63) (k := 8) (x := "_law_script") (sp := fun w => Lk.spLaw _) rfl (by decide) rfl ⟨rfl, by decide, by decide⟩ (fun w h Y => PySem.W.kIn_of Y) ?F (fun _ _ a ns hl hS => ⟨a, ns, rfl, hS, hl, fun _ => rfl⟩)
  case F =>
    intro w mg fa h KX G hmg
    refine' Lk.all_mk KX G hmg ?a1 ?l1 ?c1 ?k1 ?a2 ?l2 ?c2 ?k2 ?a3 ?l3 ?c3 ?k3 ?a4 ?l4 ?c4 ?k4 ?a5 ?l5 ?c5 ?k5 ?a6 ?l6 ?c6 ?k6 ?a7 ?l7 ?c7 ?k7 ?a8 ?l8 ?c8 ?k8 ?a9 ?l9 ?c9 ?k9 ?a10 ?l10 ?c10 ?k10 ?a11 ?l11 ?c11 ?k11 ?a12 ?l12 ?c12 ?k12 ?a13 ?l13 ?c13 ?k13 ?a14 ?l14 ?c14 ?k14 ?a15 ?l15 ?c15 ?k15 ?a16 ?l16 ?c16 ?k16 ?a17 ?l17 ?c17 ?k17 ?a18 ?l18 ?c18 ?k18 ?a19 ?l19 ?c19 ?k19 ?a20 ?l20 ?c20 ?k20 ?a21 ?l21 ?c21 ?k21 ?a22 ?l22 ?c22 ?k22 ?a23 ?l23 ?c23 ?k23 ?z1 ?z2 ?z3 ?z4 ?z5 ?z6 ?z7 ?z8 ?z9 ?z10 ?z11 ?z12 ?z13 ?z14 ?z15 ?z16 ?z17 ?z18 ?z19
    (case a1 => k_is); (case l1 => k_is); (case c1 => k_is); (case k1 => k_is)
    (case a2 => k_is); (case l2 => k_is); (case c2 => k_is); (case k2 => k_is)
    (case a3 => k_is); (case l3 => k_is); (case c3 => k_is); (case k3 => k_is)
    (case a4 => k_is); (case l4 => k_is); (case c4 => k_is); (case k4 => k_is)
    (case a5 => k_is); (case l5 => k_is); (case c5 => k_is); (case k5 => k_is)
    (case a6 => k_is); (case l6 => k_is); (case c6 => k_is); (case k6 => k_is)
    (case a7 => k_is); (case l7 => k_is); (case c7 => k_is); (case k7 => k_is)
    (case a8 => k_is); (case l8 => k_is); (case c8 => k_is); (case k8 => k_is)
    (case a9 => k_is); (case l9 => k_is); (case c9 => k_is); (case k9 => k_is)
    (case a10 => k_is); (case l10 => k_is); (case c10 => k_is); (case k10 => k_is)
    (case a11 => k_is); (case l11 => k_is); (case c11 => k_is); (case k11 => k_is)
    (case a12 => k_is); (case l12 => k_is); (case c12 => k_is); (case k12 => k_is)
    (case a13 => k_is); (case l13 => k_is); (case c13 => k_is); (case k13 => k_is)
    (case a14 => k_is); (case l14 => k_is); (case c14 => k_is); (case k14 => k_is)
    (case a15 => k_is); (case l15 => k_is); (case c15 => k_is); (case k15 => k_is)
    (case a16 => k_is); (case l16 => k_is); (case c16 => k_is); (case k16 => k_is)
    (case a17 => k_is); (case l17 => k_is); (case c17 => k_is); (case k17 => k_is)
    (case a18 => k_is); (case l18 => k_is); (case c18 => k_is); (case k18 => k_is)
    (case a19 => k_is); (case l19 => k_is); (case c19 => k_is); (case k19 => k_is)
    (case a20 => k_is); (case l20 => k_is); (case c20 => k_is); (case k20 => k_is)
    (case a21 => k_is); (case l21 => k_is); (case c21 => k_is); (case k21 => k_is)
    (case a22 => k_is); (case l22 => k_is); (case c22 => k_is); (case k22 => k_is)
    (case a23 => k_is); (case l23 => k_is); (case c23 => k_is); (case k23 => k_is)
    (case z1 => k_is); (case z2 => k_is); (case z3 => k_is); (case z4 => k_is)
    (case z5 => k_is); (case z6 => k_is); (case z7 => k_is); (case z8 => k_is)
    (case z9 => k_is); (case z10 => k_is); (case z11 => k_is); (case z12 => k_is)
    (case z13 => k_is); (case z14 => k_is); (case z15 => k_is); (case z16 => k_is)
    (case z17 => k_is); (case z18 => k_is); (case z19 => k_is)
