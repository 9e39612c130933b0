import PyProof.Rows.All
import Wide.All
import OpenK.AllK
import Wide.FinOn
import HandS.ForMost
import HandS.Walk
import HandS.Deep
import HandS.Zip
import HandS.TupAny
import HandS.IsInst
import HandS.Strs
import HandS.More
import HandS.Flow
import HandS.Style
import HandS.NoneIn
import KE.SortData
import KE.GoesEnum
import KE.GoesMore
import HandS.Defaults
import HandS.WordsExc
import HandS.DictComp
import HandS.Iter
import HandS.MakeKwOnly
import HandS.TupMul
import PyProof.ReprLen
import PySem.Challenge.RW_letinrow_k81_whole_the_row_is_its_tree_o
set_option Elab.async false
set_option linter.all false
set_option maxRecDepth 100000
set_option maxHeartbeats 2000000
namespace Lk
open PySem PySem.Spec PyProof.Rows L2

/-! ### either of two rules -/
section
variable {X : Cx}
theorem pi_or2 {tg e : Expr} {t u : TI} (a : PI X tg e t) (b : PI X tg e u) : PI X tg e (fun σ H R => t σ H R ∨ u σ H R) :=
  ⟨fun pins s σ H R I h => h.elim (a.run pins s σ H R I) (b.run pins s σ H R I)⟩
end

/-! ### what is known in between -/
section
variable {X : Cx}
def tMid (t : TE) : TE := fun σ H Q => ∃ M : V → Hp → Prop, t σ H M ∧ ∀ v H', M v H' → Q v H'
theorem pe_mid {e : Expr} {t : TE} (h : PE X e t) : PE X e (tMid t) :=
  ⟨fun pins s σ H Q I ⟨M, h1, h2⟩ => thn (h.run pins s σ H M I h1) fun u s1 ⟨v, H1, I1, r, q⟩ => ⟨v, H1, I1, r, h2 v H1 q⟩⟩
def tMidS (t : TS) : TS := fun D σ H => ∃ M : L2.St → Hp → Prop, t { D with nx := M } σ H ∧ ∀ σ' H', M σ' H' → D.nx σ' H'
theorem ps_mid {st : Stmt} {t : TS} (h : PS X st t) : PS X st (tMidS t) := by
  refine ⟨fun pins s σ H D I ⟨M, h1, h2⟩ => thn (h.run pins s σ H { D with nx := M } I h1) fun fl s1 q => ?_⟩
  cases fl with
  | next =>
    obtain ⟨σ', H', I', q'⟩ := q
    exact ⟨σ', H', I', h2 σ' H' q'⟩
  | brk => exact q
  | cont => exact q
  | ret u => exact q
end

/-! ### in, over a tuple of data -/
section
variable {X : Cx}
def rInT (K : PySem.W.Frag) : R2 := fun x y H Q => ∃ d ds, Dp K H x d ∧ Dp K H y (.tuple ds) ∧ SeqAt.shaped d = true ∧ SeqAt.shaped (.tuple ds) = true ∧ Q (.bl (ds.any fun z => PyData.eqv z d)) H
theorem op_inT (hu : X.A.units + 65 < cLine) : OpR X (compareOp .In) (rInT X.K) := by
  intro pins s σ H x y v u Q I rx ry h
  obtain ⟨d, ds, hd, he, sd, se, q⟩ := h
  obtain ⟨as, r1⟩ := Dp.reads I d x v hd rx
  obtain ⟨bs, r2⟩ := Dp.reads I (.tuple ds) y u he ry
  exact SeqAt.in_tuple_reads r2 r1 (SeqAt.canLay_of_shaped se) (SeqAt.canLay_of_shaped sd) (room_in_shaped sd hu) ⟨.bl _, H, I, rfl, q⟩
end

/-! ### room, where nobody writes a text of a thing around us -/
structure Room (k : Nat) (A : Around) : Prop where
  rm : L2.Room k A
  gd : A.guards = some []
theorem Room.mono {j k : Nat} {A : Around} (z : Room k A) (h : j ≤ k) : Room j A := ⟨z.rm.mono h, z.gd⟩
theorem Room.units {k : Nat} {A : Around} (z : Room k A) : A.units + 64 < cLine := z.rm.units
theorem Room.un {k : Nat} {A : Around} (z : Room k A) : A.units + 16 * k + 200 < cLine := z.rm.un
theorem Room.hd {k : Nat} {A : Around} (z : Room k A) : A.handled = none := z.rm.hd
theorem hu_of {A : Around} {k : Nat} (z : Room k A) : A.units + 1 < cLine := L2.hu_of z.rm
/-- a def's promise, asked for only there -/
structure FnOk (P : Program) (w : World) (K : PySem.W.Frag) (mg : Str → Option Value) (base : Heap) (CX : CXT) (k : Nat) (f : Addr) (fd : FuncData) (ps : List Str) (sp : Sp) : Prop where
  len : ∀ vs H Q E, sp vs H Q E → vs.length = ps.length
  run : ∀ (A : Around) (out : List Env) (s : Shared) (H : Hp) (ar : Args) (us : List Value) (vs : List V) (Q : VK) (E : XK), Room k A → Env0 P w K mg base A out s H → BindsTo s fd ar (ps.zip us) → Vals vs us → sp vs H Q E →
    codeAny (model P w) A (.call (.ref f) ar) (CR CX out P w H s Q E) s
section
variable {P : Program} {w : World} {K : PySem.W.Frag} {mg : Str → Option Value} {base : Heap} {CX : CXT} {k : Nat} {f : Addr} {fd : FuncData} {N ps : List Str} {sp : Sp}
theorem FnOk.mono {j : Nat} (F : FnOk P w K mg base CX j f fd ps sp) (h : j ≤ k) : FnOk P w K mg base CX k f fd ps sp := ⟨F.len, fun A out s H ar us vs Q E z => F.run A out s H ar us vs Q E (z.mono h)⟩
/-- its body, by rules -/
theorem fok_of {name qual : Str} {params : Arguments} {body : List Stmt} {scope : Scope} {dV kV doc pm cdv ct oc : Value} {an od : Option Addr} {osl : Array (Option Value)}
    (lk : K.lookup f = some ⟨oc, od, .func (PySem.W.fnOf name qual params body scope dV kV doc pm an cdv ct), osl⟩) (hc : PySem.W.codeIn K cdv qual = true) (S : FnScope N ps scope) (hn : ∀ vs H Q E, sp vs H Q E → vs.length = ps.length)
    (hb : ∀ (A : Around) (out : List Env) (s : Shared) (H : Hp) (vs : List V) (Q : VK) (E : XK), Room k (A.deeper (envOfC qual scope s.heap.objs.size f cdv)) → sp vs H Q E →
      ∃ t, PSs (cxOf CX P w K mg base N qual scope f cdv A out s H E) body t ∧ t { nx := fun _ G => Q .non G, rt := Q } (start N vs) H) :
    FnOk P w K mg base CX (k + 1) f (PySem.W.fnOf name qual params body scope dV kV doc pm an cdv ct) ps sp := by
  refine ⟨hn, fun A out s H ar us vs Q E z e0 bd rv hs => ?_⟩
  have kin : K.In s.heap := e0.mod.kin.keeps fun c u q => (e0.bs c u q).1
  have nol : s.heap.NoLimit := e0.mod.nolimit.keeps fun c u q => (e0.bs c u q).1
  have kinds : ∀ y ∈ ps.zip us, scope.names.lookup y.1 = some .local ∨ (scope.names.lookup y.1 = some .cell ∧ ((cellsFrom (s.heap.objs.size + 1) scope.names []).lookup y.1).isSome = true) := by
    rintro ⟨n, v⟩ hy
    rcases S.par n (List.of_mem_zip hy).1 with c | c
    · exact .inl c
    · exact .inr ⟨c, PySem.W.cellsFrom_some _ _ _ (.inl c)⟩
  refine codeAny_call_function z.rm.depth (kin _ _ lk) rfl S.co S.gen rfl (PySem.W.codeRec_of kin hc) (bd _ _ _ _ ?_)
  refine wpAny_newFunctionEnv_cells S.kind kinds ?_
  rintro env rfl s1 ic
  refine ⟨nol.keeps ic.toInCall.keep, codeAny_func ?_⟩
  obtain ⟨t, pt, qt⟩ := hb A out s H vs Q E ⟨z.rm.deeper _, z.gd⟩ hs
  have I : Inv (cxOf CX P w K mg base N qual scope f cdv A out s H E) [] (start N vs) H s1 := inv_start S z.rm.hd e0 (hn _ _ _ _ hs) rv ic
  refine wpAny_mono (pt.run [] s1 (start N vs) H _ I qt) (fun fl s2 ends => ?_) fun _ _ h => h
  cases fl with
  | brk => exact (let ⟨_, _, _, no⟩ := ends; no : False).elim
  | cont => exact (let ⟨_, _, _, no⟩ := ends; no : False).elim
  | next =>
    obtain ⟨σ1, H1, J, w1⟩ := ends
    exact ⟨.non, H1, J.os, J.bare, J.base, J.hok, rfl, w1⟩
  | ret u =>
    obtain ⟨v, σ1, H1, J, ru, w1⟩ := ends
    exact ⟨v, H1, J.os, J.bare, J.base, J.hok, ru, w1⟩
theorem fok {x qual : Str} {st : Stmt} (F : Fun K x qual st f fd) (S : FnScope N ps (defScope st)) (hn : ∀ vs H Q E, sp vs H Q E → vs.length = ps.length)
    (hb : ∀ (cdv : Value) (A : Around) (out : List Env) (s : Shared) (H : Hp) (vs : List V) (Q : VK) (E : XK), Room k (A.deeper (envOfC qual (defScope st) s.heap.objs.size f cdv)) → sp vs H Q E →
      ∃ t, PSs (cxOf CX0 P w K mg base N qual (defScope st) f cdv A out s H E).nox (defBody st) t ∧ t { nx := fun _ G => Q .non G, rt := Q } (start N vs) H) : FnOk P w K mg base CX0 (k + 1) f fd ps sp := by
  obtain ⟨oc, od, kV, doc, pm, an, cd, ct, sl, rfl, lk, hc⟩ := F.ex
  exact fok_of lk hc S hn fun A out s H vs Q E z hs => let ⟨t, a, b⟩ := hb cd A out s H vs Q E z hs; ⟨t, a.nox, b⟩
end
section
variable {X : Cx} {CX : CXT} {k : Nat} {f : Addr} {fd : FuncData} {ps ks : List Str} {sp : Sp} {E : XK} {g : List Value → List Value → List Value} {gV : List V → List V → List V}
theorem fn_ran {pins : List (Addr × Obj)} {σ : L2.St} {H : Hp} {s : Shared} {Q : VK} {ar : Args} {us : List Value} {vs : List V} (F : FnOk X.prog X.w X.K X.mg X.base CX k f fd ps sp) (z : Room k X.A) (hx : Passes CX X E)
    (I : Inv X pins σ H s) (bd : BindsTo s fd ar (ps.zip us)) (rv : Vals vs us) (h : sp vs H Q E) : wpAny (model X.prog X.w) X.A (call (.ref f) ar.pos ar.kw) (EP X pins σ Q) X.xe s := by
  refine wpAny_call (codeAny_mono (F.run X.A X.stack s H ar us vs Q E z I.env0 bd rv h) ?_)
  rintro (e | fl) s2 ends
  · exact hx pins σ H s e s2 I ends
  cases fl with
  | ret u => exact I.after ends
  | next => exact (ends : False).elim
  | brk => exact (ends : False).elim
  | cont => exact (ends : False).elim
end
/-! ### calls -/
section
variable {X : Cx} {CX : CXT} {k n : Nat} {f : Addr} {fd : FuncData} {ps ks : List Str} {sp : Sp} {E : XK} {x : Str} {p pos : Pos} {kws : List Keyword} {tk t : TA} {g : List Value → List Value → List Value} {gV : List V → List V → List V}
  {e : Expr} {es : List Expr} {dvs : List V} {ds : List Value}
theorem pe_call (F : FnOk X.prog X.w X.K X.mg X.base CX k f fd ps sp) (z : Room k X.A) (gl : Gl X x) (hm : X.mg x = some (.ref f)) (kp : PySem.W.keepIn X.K (.ref f) = true) (hb : Binds X.K fd ps ds) (hd : Vals dvs ds) (hx : Passes CX X E)
    (ha : PA X (e :: es) t) (hdb : (x == ("__debug__" : Str)) = false := by decide)
    (he : starEach (e :: es) X.env = (false, eval e X.env) :: starEach es X.env := by rfl) (hpl : (backTo pos (starEach es X.env)).any (·.1) = false := by rfl) :
    PE X (.Call (.Name x p) (e :: es) [] pos) (tCall sp dvs E t) := by
  constructor
  intro pins s σ H Q I h
  refine wpAny_Call_Name_kw (ld_glob I gl hm (PySem.W.callWith_K (h₀ := X.base) I.ok.mod.kin kp (thn (ha.run pos pins s σ H _ I h) ?_) he hpl) hdb)
  rintro us s1 ⟨vs, H1, I1, rv, q⟩
  have r2 : Vals (vs ++ dvs) (us ++ ds) := rv.append hd
  exact ⟨I1.kIn, fn_ran (ar := ⟨us, []⟩) F z hx I1 (hb s1 us I1.kIn (r2.length.symm.trans (F.len _ _ _ _ q))) r2 q⟩
end

/-! ### the head of a law -/
theorem law_ran {P : Program} {w : World} {K : PySem.W.Frag} {mg mb : Str → Option Value} {k : Nat} {fa a : Addr} {fd : FuncData} {x : Str} {sp : Sp} {s : Shared} {vs : List Value} {ns : List Int}
    (kin : K.In s.heap) (ng : s.heap.Ns mainGlobals mg) (nb : s.heap.Ns builtinsNs mb) (bb : ∀ y : Str, y ≠ "__name__" → mb y = bootBuiltins y) (nol : s.heap.NoLimit) (ge : s.gens = #[])
    (ha : s.heap.get? a = some { cls := .type "list", data := .seq vs.toArray }) (hi : IntsAre vs ns) (hl : ns.length ≤ sizeLine) (z : Room k callerA)
    (F : ∀ base : Heap, K.In base → base.Ns mainGlobals mg → FnOk P w K mg base CX0 k fa fd [x] sp) (bd : ∀ (c : Shared) (u : Value), BindsTo c fd ⟨[u], []⟩ [(x, u)])
    (hsp : ∀ H : Hp, SqL K H a (ns.map V.int) → sp [.ref a] H (fun v _ => v = .bl true) fun _ _ _ => False) :
    codeAny (model P w) callerA (.call (.ref fa) ⟨[.ref a], []⟩) (fun r c => r = .ok (.ret (.bool true)) ∧ OldK s.heap c.heap ∧ c.os = s.os ∧ AllBare c.gens) s := by
  have rv : Vals (ns.map V.int) vs := vals_ints hi
  have main : ∀ H : Hp, Only H → (∀ b, H b ≠ none → b = a ∧ K.lookup a = none) → SqL K H a (ns.map V.int) → HOk P w H s.heap →
      codeAny (model P w) callerA (.call (.ref fa) ⟨[.ref a], []⟩) (fun r c => r = .ok (.ret (.bool true)) ∧ OldK s.heap c.heap ∧ c.os = s.os ∧ AllBare c.gens) s := by
    intro H on at_ sq ok
    have off : ∀ {b : Addr}, b ≠ a → H b = none := fun {b} ne => Classical.byContradiction fun c => ne (at_ b c).1
    have hid : ∀ {b : Addr} {m : Str → Option Value}, s.heap.Ns b m → (hidT s.heap H).Ns b m := by
      rintro b m ⟨o, es, ep, g, d, r⟩
      refine ⟨o, es, ep, hidT_get g (off ?_), d, r⟩
      rintro rfl
      have q := ha.symm.trans g
      cases q
      cases d
    have kb : K.In (hidT s.heap H) := fun b o g => by
      refine hidT_get (kin b o g) (Classical.byContradiction fun c => ?_)
      obtain ⟨eb, no⟩ := at_ b c
      rw [eb, no] at g
      cases g
    have md : Mod K mg (hidT s.heap H) := by
      obtain ⟨mc, n1, n2⟩ := nol
      exact ⟨kb, hid ng, ⟨mb, hid nb, bb⟩, ⟨mc, hid n1, n2⟩⟩
    have e0 : Env0 P w K mg (hidT s.heap H) callerA [] s H :=
      { frames := rfl, mod := md, bs := fun b o g => of_hidT g, bsz := Nat.le_of_eq (hidT_size _ _), funs := trivial, frf := (fun b c => nomatch (show b ∈ ([] : List Addr) from c)), hok := ok, bare := .of_eq ge }
    refine codeAny_mono ((F _ kb (hid ng)).run callerA [] s H ⟨[.ref a], []⟩ [.ref a] [.ref a] _ _ z e0 (bd s (.ref a)) (.cons rfl .nil) (hsp H sq)) ?_
    rintro (er | fl) c ends
    · exact (ends : False).elim
    cases fl with
    | next => exact (ends : False).elim
    | brk => exact (ends : False).elim
    | cont => exact (ends : False).elim
    | ret u =>
      obtain ⟨v, H1, os, bare, un, ok1, ru, q⟩ := ends
      have q1 : v = .bl true := q
      subst q1
      obtain rfl : u = Value.bool true := ru
      refine ⟨rfl, OldK.of_keep ?_, os, bare⟩
      intro b o g
      rcases on b with h0 | ⟨ob, xs, h1⟩
      · exact un.keep b o g h0 (fun c => nomatch (show b ∈ ([] : List Addr) from c)) (fun c => nomatch c)
      · have g2 := (ok1 b _ (un.frzs b ob _ h1)).1
        have g1 := (ok b _ h1).1
        rw [g] at g1
        cases g1
        exact g2
  by_cases no : K.lookup a = none
  · refine main (fun b => if b = a then some (.frz { cls := .type "list", data := .seq vs.toArray } (.lst (ns.map V.int))) else none) ?_ ?_ (.inl (.inr ⟨{ cls := .type "list", data := .seq vs.toArray }, if_pos rfl⟩)) ?_
    · intro b
      by_cases c : b = a
      · exact .inr ⟨_, _, if_pos c⟩
      · exact .inl (if_neg c)
    · intro b q
      by_cases c : b = a
      · exact ⟨c, no⟩
      · exact absurd (if_neg c) q
    · intro b u q
      by_cases c : b = a
      · have q1 := (if_pos c).symm.trans q
        cases q1
        subst c
        exact ⟨ha, by rw [List.length_map]; exact hl, vs, _, rv, ha⟩
      · have q1 := (if_neg c).symm.trans q
        cases q1
  · obtain ⟨o, ho⟩ := Option.ne_none_iff_exists'.mp no
    have g := kin a o ho
    rw [ha] at g
    cases g
    refine main (fun _ => none) (fun _ => .inl rfl) (fun b q => absurd rfl q) (.inr ⟨_, vs.toArray, _, ho, rfl, rfl, rfl, ?_, by simpa using rv⟩) (fun b u q => ?_)
    · rw [List.size_toArray, hi.length]
      exact hl
    · have q' : (none : Option HO) = some u := q
      cases q'
theorem walk_law {l : PySem.W.OpenLaw} {n k : Nat} {q : Program} {loose : List Str} {XP : (Str → Option Value) → Heap → Prop} {YP : World → Heap → Prop} {d : DefRec} {K : Params → PySem.W.Frag} {sp : World → Sp} {x : Str}
    (hn : l.most = some n) (hn2 : n ≤ sizeLine) (hdf : d.params.defaults = []) (z : L2.Room k callerA)
    (hY : ∀ (w : World) (h : Heap), YP w h → (K w.params).In h)
    (F : ∀ (w : World) (mg : Str → Option Value) (fa : Addr) (h : Heap), (K w.params).In h → h.Ns mainGlobals mg → mg d.name = some (.ref fa) →
      ∃ fd : FuncData, (∀ (s : Shared) (u : Value), BindsTo s fd ⟨[u], []⟩ [(x, u)]) ∧ ∀ base : Heap, (K w.params).In base → base.Ns mainGlobals mg → FnOk l.prog w (K w.params) mg base CX0 k fa fd [x] (sp w))
    (hsp : ∀ (w : World) (H : Hp) (a : Addr) (ns : List Int), ns.length ≤ n → SqL (K w.params) H a (ns.map V.int) → sp w [.ref a] H (fun v _ => v = .bl true) fun _ _ _ => False) :
    PySem.W.WalkO q loose XP YP l.row.toRowW d [] (fun f vs => PySem.call f vs) := by
  refine Att.attach_call hn hdf ?_
  intro w s0 s1 mg mb fa o pm cd doc a vs ns G Y _ _ _ hmg ho hi hl hg
  have kin := hY w _ Y
  obtain ⟨fd, bd, ok⟩ := F w mg fa _ kin G.T.g hmg
  exact law_ran kin G.T.g G.T.b G.T.builtins G.T.nolimit hg ho hi (Nat.le_trans hl hn2) ⟨z, rfl⟩ ok bd fun H sq => hsp w H a ns hl sq

/-! ### repr -/
section
variable {X : Cx}
end
end Lk
set_option maxRecDepth 100000
set_option maxHeartbeats 4000000
namespace Lk
open PySem PySem.Spec PyProof.Rows L2

/-! ### enumerate(tuple) -/
theorem meets_enum1 {v : Value} {o : Obj} {H : Heap → Prop} (B : Begins v o H) :
    Meets (Builtin.«enumerate.__new__» ⟨[.type "enumerate", v], []⟩) (fun _ R s => H s.heap ∧
      R (.ok (.ret (.ref (s.heap.push o).objs.size))) { s with heap := (s.heap.push o).push { cls := .type "enumerate", data := .fields #[.none, .bool false, .ref s.heap.objs.size, rawInt 0, .none, .none] } }) :=
  .of_wp fun prog w A R s h => by
    obtain ⟨hp, g, d, tk, os⟩ := s; obtain ⟨h1, h⟩ := h
    have hsub := sub_enumerate
    have q1 : ∀ {A' : Around} {E : Value → Shared → Prop} {Q : Value → Shared → Prop}, Q (.ref hp.objs.size) ⟨hp.push o, g, d, tk, os⟩ → wpAny (model prog w) A' (pyIter v) Q E ⟨hp, g, d, tk, os⟩ :=
      fun q => B.iter prog w _ _ ⟨hp, g, d, tk, os⟩ _ h1 q
    wp_walk using q1
    refine wpAny_stack_any fun st => wpAny_pure ?_
    split
    · rename_i c _ _ _ _ _
      cases (c == Value.type "enumerate")
      · wp_walk using q1
        exact ⟨_, rfl, h⟩
      · wp_walk using q1
        exact ⟨_, rfl, h⟩
    · wp_walk using q1
      exact ⟨_, rfl, h⟩
section
variable {prog : Program} {w : World} {A : Around} {E : Value → Shared → Prop} {s : Shared}
theorem enum1_begins {v : Value} {o : Obj} {H : Heap → Prop} {Q : Value → Shared → Prop} (B : Begins v o H) (h1 : H s.heap)
    (h : ∀ h', IsEnum h' (s.heap.objs.size + 1) s.heap.objs.size 0 .none → h'.get? s.heap.objs.size = some o → h'.objs.size = s.heap.objs.size + 2 →
      (∀ b o, s.heap.get? b = some o → h'.get? b = some o) → Q (.ref (s.heap.objs.size + 1)) { s with heap := h' }) :
    wpAny (model prog w) A (call (.type "enumerate") [v]) Q E s := by
  refine callType_new F.called_enumerate (by decide) (F.typeCall_enumerate_1 _) (F.newCall_enumerate_1 _) (fun obj => F.args_object_init_2 obj _) F.entry_enumerate_new
    (meets_enum1 B) ⟨h1, ?_⟩
  have hz : (s.heap.push o).objs.size = s.heap.objs.size + 1 := Heap.size_push ..
  show _ ∧ _
  rw [hz]
  have he : IsEnum ((s.heap.push o).push { cls := .type "enumerate", data := .fields #[.none, .bool false, .ref s.heap.objs.size, rawInt 0, .none, .none] }) (s.heap.objs.size + 1) s.heap.objs.size 0 .none := by
    have := Heap.get?_push_size (s.heap.push o) (o := { cls := .type "enumerate", data := .fields #[.none, .bool false, .ref s.heap.objs.size, rawInt 0, .none, .none] }) rfl
    rw [hz] at this; exact this
  refine ⟨⟨_, he, rfl⟩, h _ he (Heap.get?_push_of_some _ (Heap.get?_push_size _ B.free)) (by rw [Heap.size_push, hz]) fun b o x => Heap.get?_push_of_some _ (Heap.get?_push_of_some _ x)⟩
end
def IteT (K : PySem.W.Frag) (a : Addr) : It :=
  ⟨fun i H => ∃ (xs : List V) (x : V), SqT K H a xs ∧ xs[i]? = some x, fun i H v H' => ∃ T x, v = .ref T ∧ H T = none ∧ H' = upd H T (.tup [.int (i : Nat), x]) ∧ ∀ xs, SqT K H a xs → xs[i]? = some x, fun i H => ∃ xs : List V, SqT K H a xs ∧ xs.length = i⟩
theorem turn_enumT {P : Program} {w : World} {K : PySem.W.Frag} {elts : List Expr} {kk : Nat} {tpos : Pos} (a e it : Addr) :
    Turn P w K (.Tuple elts kk tpos) (IteT K a) [e, it] e (fun i h => (∃ old, IsEnum h e it ((i : Nat) : Int) old) ∧ h.IsTupleIter it a i ∧ e ≠ it) where
  mem := by simp
  obj := fun i h st b hb => by
    obtain ⟨⟨old, he⟩, ⟨o, ho, hc, hd⟩, _⟩ := st
    have e' : b = e ∨ b = it := by simpa using hb
    rcases e' with z | z
    · rw [z]; exact ⟨_, he, fun v q => nomatch q⟩
    · rw [z]; exact ⟨o, ho, fun v q => by rw [hd] at q; cases q⟩
  keep := fun i h h' st k => let ⟨⟨old, he⟩, hi, hne⟩ := st; ⟨⟨old, k e (by simp) _ he⟩, hi.at fun o q => k it (by simp) o q, hne⟩
  item := by
    intro X hP hw hK hc i pins s σ H E I hf st hg
    subst hP hw hK
    obtain ⟨⟨old, he⟩, hit, hne⟩ := st
    obtain ⟨xs, x, hq, hx⟩ := hg
    obtain ⟨its, rv, p, hz⟩ := I.tuple hq
    obtain ⟨u, hu, ru⟩ := rv.get hx
    have hel : e < s.heap.objs.size := Heap.lt_size he
    have hil : it < s.heap.objs.size := by obtain ⟨_, q, _⟩ := hit; exact Heap.lt_size q
    have hai : a ≠ it := by
      rintro rfl
      obtain ⟨o, ho, hcc, _⟩ := p
      obtain ⟨o', ho', hc', _⟩ := hit
      rw [ho] at ho'; cases ho'
      rw [hcc] at hc'
      exact absurd (Value.type.inj hc') (by decide)
    have hae : e ≠ a := by
      rintro rfl
      obtain ⟨o, ho, hcc, _⟩ := p
      have ho' := ho.symm.trans he
      cases ho'
      exact absurd (Value.type.inj hcc) (by decide)
    have hlt : i < its.toArray.size := by
      rw [List.size_toArray]
      exact (List.getElem?_eq_some_iff.mp hu).1
    refine wpAny_pyNext_enum_itemD (Draws.tuple (A := X.A.in1) (I.ok.hd hc) it a hai its.toArray) he ⟨hit, p⟩ hlt hne (by simp [hne, hae]) fun v h' tk hxv ho st' hT hsz hk => ?_
    have ev : v = u := by
      have q : its.toArray[i]? = some v := hxv
      rw [List.getElem?_toArray, hu] at q
      exact (Option.some.inj q).symm
    subst ev
    refine ⟨_, rfl, wpAny_letOwnedTupleGo_enum (s := { s with heap := h', toks := tk + 1 }) ho fun h'' he' sb => ?_⟩
    have hT2 : h''.get? s.heap.objs.size = some { cls := .type "tuple", data := .seq #[.int i tk, v] } := (sb.2 _ (Nat.ne_of_gt hel)).trans hT
    have new : ObjOk X.prog X.w (upd H s.heap.objs.size (.tup [.int (i : Nat), x])) h'' s.heap.objs.size (.tup [.int (i : Nat), x]) :=
      ⟨by show 2 ≤ sizeLine; decide, [.int i tk, v], .cons ⟨_, rfl⟩ (.cons ru .nil), ⟨_, hT2, rfl, _, rfl⟩⟩
    have I1 : Inv X pins σ (upd H s.heap.objs.size (.tup [.int (i : Nat), x])) { s with heap := h'', toks := tk + 1 } :=
      I.turnedNew (ch := [e, it]) (fun b ob hb q => (sb.2 b (fun z => hb (by simp [z]))).trans (hk b ob (fun z => hb (by simp [z])) (fun z => hb (by simp [z])) q)) hf (Nat.le_refl _) new
    refine ⟨.ref s.heap.objs.size, _, I1, rfl, ⟨_, x, rfl, I.hok.fresh (Nat.le_refl _), rfl, fun ys hy => by rw [I.tuple_inj hy hq]; exact hx⟩, ⟨⟨v, ?_⟩, st'.1.at fun o q => (sb.2 it (Ne.symm hne)).trans q, hne⟩, fun b hb => ?_⟩
    · have e1 : ((i + 1 : Nat) : Int) = (i : Int) + 1 := by omega
      rw [e1]; exact he'
    · have hb' : b < s.heap.objs.size := by
        have e' : b = e ∨ b = it := by simpa using hb
        rcases e' with z | z
        · rw [z]; exact hel
        · rw [z]; exact hil
      rw [upd_ne (Nat.ne_of_lt hb')]
      exact (hf b hb).1
  done := by
    intro X hP hw hK hc i pins s σ H E I hf st hg
    subst hP hw hK
    obtain ⟨⟨old, he⟩, hit, hne⟩ := st
    obtain ⟨xs, hq, hx⟩ := hg
    obtain ⟨its, rv, p, hz⟩ := I.tuple hq
    obtain ⟨f0, f1, f2, f3, f4, f5⟩ := hf it (by simp)
    have hl := rv.length
    have hai : a ≠ it := by
      rintro rfl
      obtain ⟨o, ho, hcc, _⟩ := p
      obtain ⟨o', ho', hc', _⟩ := hit
      rw [ho] at ho'; cases ho'
      rw [hcc] at hc'
      exact absurd (Value.type.inj hc') (by decide)
    have en : i = its.toArray.size := by
      rw [List.size_toArray]
      omega
    subst en
    exact wpAny_pyNext_enum_endD (Draws.tuple (A := X.A.in1) (I.ok.hd hc) it a hai its.toArray) he ⟨hit, p⟩ fun h' eb => ⟨rfl, I.turned (t' := s.toks) (fun b o hb q => eb b o hb q) f0 f1 f3 f4 f5⟩
  self := fun A i s Q E st h => let ⟨⟨_, he⟩, _⟩ := st; wpAny_pyIter_enum he h
def iEnumT (K : PySem.W.Frag) (ta : TA) : TI := fun σ H R => ta σ H fun vs H1 => ∃ a xs, vs = [.ref a] ∧ SqT K H1 a xs ∧ R (IteT K a) H1
theorem pi_enumT {X : Cx} {e : Expr} {ta : TA} {p pos tpos : Pos} {elts : List Expr} {kk : Nat} (hg : Gl X "enumerate") (hm : X.mg "enumerate" = none) (ha : PA X [e] ta) (hs : starEach [e] X.env = [(false, eval e X.env)] := by rfl) :
    PI X (.Tuple elts kk tpos) (.Call (.Name "enumerate" p) [e] [] pos) (iEnumT X.K ta) := by
  refine ⟨fun pins s σ H R I h => ?_⟩
  refine Call_ (ld_blt I hg hm boot_enumerate (PyProof.Rows.callWith_type1 (thn (ha.run pos pins s σ H _ I h) fun us s1 ⟨vs, H1, I1, r1, q1⟩ => ?_) hs rfl))
  obtain ⟨a, xs, ex, hq, q⟩ := q1
  subst ex
  cases r1 with
  | cons r rr =>
    cases rr
    cases r
    obtain ⟨its, rv, p', hz⟩ := I1.tuple hq
    refine enum1_begins (begins_tuple a its.toArray) p' fun h' he hit hsz hk => wpAny_pyIter_enum he ?_
    have I2 : Inv X pins σ H1 { s1 with heap := h' } := I1.kept (t' := s1.toks) hk
    refine ⟨s1.heap.objs.size + 1, [s1.heap.objs.size + 1, s1.heap.objs.size], _, _, H1, rfl, I2, turn_enumT a (s1.heap.objs.size + 1) s1.heap.objs.size, ⟨⟨.none, he⟩, ⟨_, hit, rfl, rfl⟩, Nat.succ_ne_self _⟩, fun b hb => ?_, q⟩
    have e' : b = s1.heap.objs.size + 1 ∨ b = s1.heap.objs.size := by simpa using hb
    have hle : s1.heap.objs.size ≤ b := by
      rcases e' with z | z
      · rw [z]; exact Nat.le_add_right _ _
      · rw [z]; exact Nat.le_refl _
    exact I1.fpOk hle (I1.hok.fresh hle)
theorem walk_enumT {K : PySem.W.Frag} {a : Addr} {xs : List V} : Walk (IteT K a) xs.length (fun H => SqT K H a xs) (YPair (fun i => some (.int (i : Nat))) (fun i => xs[i]?)) := by
  refine ⟨fun i _ hi q => ⟨xs, xs[i], q, by simp [hi]⟩, fun _ q => ⟨xs, q, rfl⟩, fun i H v H' _ q y => ?_⟩
  obtain ⟨T, x, h1, h2, h3, h4⟩ := y
  exact ⟨T, .int (i : Nat), x, h1, h2, h3, rfl, h4 xs q⟩

/-! ### min, max of two texts -/
def lmin (x y : Str) : Str := if y.cps.toList < x.cps.toList then y else x
def lmax (x y : Str) : Str := if x.cps.toList < y.cps.toList then y else x
theorem cmp_lt_strs {prog : Program} {w : World} {A : Around} {P : Nat → Value → Prop} (val : Nat → Str) (hval : ∀ i v, P i v → ∃ t, v = .str (val i) t) :
    CmpOf prog w A .Lt P (fun i j => decide ((val i).cps.toList < (val j).cps.toList)) := fun i j vi vj s Q E hi hj h => by
  obtain ⟨t, rfl⟩ := hval i vi hi
  obtain ⟨u, rfl⟩ := hval j vj hj
  exact richCompare_gives (op := .Lt) (typeIs_str s _ t) (typeIs_str s _ u) F.slot_str_lt F.entry_str_lt (F.args_str_lt_2 _ _) (gives_str_lt _ _ t u) (fun x => nomatch x) h
theorem cmp_gt_strs {prog : Program} {w : World} {A : Around} {P : Nat → Value → Prop} (val : Nat → Str) (hval : ∀ i v, P i v → ∃ t, v = .str (val i) t) :
    CmpOf prog w A .Gt P (fun i j => decide ((val j).cps.toList < (val i).cps.toList)) := fun i j vi vj s Q E hi hj h => by
  obtain ⟨t, rfl⟩ := hval i vi hi
  obtain ⟨u, rfl⟩ := hval j vj hj
  exact richCompare_gives (op := .Gt) (typeIs_str s _ t) (typeIs_str s _ u) F.slot_str_gt F.entry_str_gt (F.args_str_gt_2 _ _) (gives_str_gt _ _ t u) (fun x => nomatch x) h
def txtAt (x y : Str) (i : Nat) : Str := if i = 0 then x else y
theorem two_at {x y : Str} {t u : Tok} {i : Nat} {v : Value} (h : (#[.str x t, .str y u] : Array Value)[i]? = some v) : ∃ k, v = .str (txtAt x y i) k := by
  match i, h with
  | 0, h => exact ⟨t, (Option.some.inj h).symm⟩
  | 1, h => exact ⟨u, (Option.some.inj h).symm⟩
  | i + 2, h =>
    have q : (#[.str x t, .str y u] : Array Value)[i + 2]? = none := by simp
    rw [q] at h
    cases h
section
variable {prog : Program} {w : World} {A : Around} {E : Value → Shared → Prop} {s : Shared}
theorem min_two_strs {a b : Str} {t u : Tok} {Q : Value → Shared → Prop} (hh : A.handled = none)
    (h : ∀ h' tk k, (∀ c o, s.heap.get? c = some o → h'.get? c = some o) → Q (.str (lmin a b) k) { s with heap := h', toks := tk }) :
    wpAny (model prog w) A (call (.builtin "min") [.str a t, .str b u]) Q E s := by
  have hT : (s.heap.push { cls := .type "tuple", data := .seq #[.str a t, .str b u] }).IsTuple s.heap.objs.size #[.str a t, .str b u] := ⟨_, Heap.get?_push_size _ rfl, rfl, 0, rfl⟩
  refine call_min_two (wpAny_pyIter_tuple hT ?_)
  have hsz : (s.heap.push { cls := .type "tuple", data := .seq #[.str a t, .str b u] }).objs.size = s.heap.objs.size + 1 := Heap.size_push ..
  refine ⟨_, [_, s.heap.objs.size], [_], _, _, _, _, rfl, Walks.tuple (A := A.in1) hh _ s.heap.objs.size (by rw [hsz]; exact Nat.ne_of_lt (Nat.lt_succ_self _)) #[.str a t, .str b u],
    ⟨⟨_, Heap.get?_push_size _ rfl, rfl, rfl⟩, hT.push _⟩, fun c hc => ?_, by simp, cmp_lt_strs (txtAt a b) (fun _ _ => two_at), fun v h' tk hP hk => ?_⟩
  · show c < ((s.heap.push _).push _).objs.size
    rw [Heap.size_push, hsz]
    rcases List.mem_cons.mp hc with rfl | hc
    · rw [hsz]; exact Nat.lt_succ_self _
    · rcases List.mem_cons.mp hc with rfl | hc
      · exact Nat.lt_succ_of_lt (Nat.lt_succ_self _)
      · cases hc
  · have hold : ∀ c o, s.heap.get? c = some o → h'.get? c = some o := fun c o e => by
      refine hk c o (fun hm => ?_) (Heap.get?_push_of_some _ (Heap.get?_push_of_some _ e))
      rcases List.mem_cons.mp hm with e1 | hm
      · have := Heap.lt_size e; rw [e1, hsz] at this; exact Nat.lt_irrefl _ (Nat.lt_of_succ_lt this)
      · cases hm
    have hP' : (#[.str a t, .str b u] : Array Value)[argBest (fun i j => decide ((txtAt a b i).cps.toList < (txtAt a b j).cps.toList)) 1]? = some v := hP
    have hv : ∃ k, v = .str (lmin a b) k := by
      by_cases hba : b.cps.toList < a.cps.toList
      · have e : argBest (fun i j => decide ((txtAt a b i).cps.toList < (txtAt a b j).cps.toList)) 1 = 1 := by simp [argBest, txtAt, hba]
        rw [e] at hP'
        refine ⟨u, ?_⟩
        rw [lmin, if_pos hba]
        exact (Option.some.inj hP').symm
      · have e : argBest (fun i j => decide ((txtAt a b i).cps.toList < (txtAt a b j).cps.toList)) 1 = 0 := by simp [argBest, txtAt, hba]
        rw [e] at hP'
        refine ⟨t, ?_⟩
        rw [lmin, if_neg hba]
        exact (Option.some.inj hP').symm
    obtain ⟨k, rfl⟩ := hv
    exact h h' tk k hold
theorem max_two_strs {a b : Str} {t u : Tok} {Q : Value → Shared → Prop} (hh : A.handled = none)
    (h : ∀ h' tk k, (∀ c o, s.heap.get? c = some o → h'.get? c = some o) → Q (.str (lmax a b) k) { s with heap := h', toks := tk }) :
    wpAny (model prog w) A (call (.builtin "max") [.str a t, .str b u]) Q E s := by
  have hT : (s.heap.push { cls := .type "tuple", data := .seq #[.str a t, .str b u] }).IsTuple s.heap.objs.size #[.str a t, .str b u] := ⟨_, Heap.get?_push_size _ rfl, rfl, 0, rfl⟩
  refine call_max_two (wpAny_pyIter_tuple hT ?_)
  have hsz : (s.heap.push { cls := .type "tuple", data := .seq #[.str a t, .str b u] }).objs.size = s.heap.objs.size + 1 := Heap.size_push ..
  refine ⟨_, [_, s.heap.objs.size], [_], _, _, _, _, rfl, Walks.tuple (A := A.in1) hh _ s.heap.objs.size (by rw [hsz]; exact Nat.ne_of_lt (Nat.lt_succ_self _)) #[.str a t, .str b u],
    ⟨⟨_, Heap.get?_push_size _ rfl, rfl, rfl⟩, hT.push _⟩, fun c hc => ?_, by simp, cmp_gt_strs (txtAt a b) (fun _ _ => two_at), fun v h' tk hP hk => ?_⟩
  · show c < ((s.heap.push _).push _).objs.size
    rw [Heap.size_push, hsz]
    rcases List.mem_cons.mp hc with rfl | hc
    · rw [hsz]; exact Nat.lt_succ_self _
    · rcases List.mem_cons.mp hc with rfl | hc
      · exact Nat.lt_succ_of_lt (Nat.lt_succ_self _)
      · cases hc
  · have hold : ∀ c o, s.heap.get? c = some o → h'.get? c = some o := fun c o e => by
      refine hk c o (fun hm => ?_) (Heap.get?_push_of_some _ (Heap.get?_push_of_some _ e))
      rcases List.mem_cons.mp hm with e1 | hm
      · have := Heap.lt_size e; rw [e1, hsz] at this; exact Nat.lt_irrefl _ (Nat.lt_of_succ_lt this)
      · cases hm
    have hP' : (#[.str a t, .str b u] : Array Value)[argBest (fun i j => decide ((txtAt a b j).cps.toList < (txtAt a b i).cps.toList)) 1]? = some v := hP
    have hv : ∃ k, v = .str (lmax a b) k := by
      by_cases hba : a.cps.toList < b.cps.toList
      · have e : argBest (fun i j => decide ((txtAt a b j).cps.toList < (txtAt a b i).cps.toList)) 1 = 1 := by simp [argBest, txtAt, hba]
        rw [e] at hP'
        refine ⟨u, ?_⟩
        rw [lmax, if_pos hba]
        exact (Option.some.inj hP').symm
      · have e : argBest (fun i j => decide ((txtAt a b j).cps.toList < (txtAt a b i).cps.toList)) 1 = 0 := by simp [argBest, txtAt, hba]
        rw [e] at hP'
        refine ⟨t, ?_⟩
        rw [lmax, if_neg hba]
        exact (Option.some.inj hP').symm
    obtain ⟨k, rfl⟩ := hv
    exact h h' tk k hold
end
section
variable {X : Cx}
theorem call_minS (hc : X.calm = true) : CallR X (.builtin "min") (fun xs H Q => ∃ i j, xs = [.str i, .str j] ∧ Q (.str (lmin i j)) H) := by
  intro pins s σ H xs us Q I r h
  obtain ⟨i, j, rfl, q⟩ := h
  obtain ⟨u, w', rfl, ⟨t, rfl⟩, ⟨t', rfl⟩⟩ := vals2 r
  exact min_two_strs (I.ok.hd hc) fun h' tk k kp => ⟨.str _, H, I.kept kp, ⟨_, rfl⟩, q⟩
theorem call_maxS (hc : X.calm = true) : CallR X (.builtin "max") (fun xs H Q => ∃ i j, xs = [.str i, .str j] ∧ Q (.str (lmax i j)) H) := by
  intro pins s σ H xs us Q I r h
  obtain ⟨i, j, rfl, q⟩ := h
  obtain ⟨u, w', rfl, ⟨t, rfl⟩, ⟨t', rfl⟩⟩ := vals2 r
  exact max_two_strs (I.ok.hd hc) fun h' tk k kp => ⟨.str _, H, I.kept kp, ⟨_, rfl⟩, q⟩
end

/-! ### sorted of pairs of texts -/
def encP (b : Addr × Str × Str) : PyData := .tuple [.str b.2.1, .str b.2.2]
def rSortedTT (K : PySem.W.Frag) : List V → Hp → VK → Prop := fun vs H Q => ∃ (a : Addr) (bs : List (Addr × Str × Str)), vs = [V.ref a] ∧ SqL K H a (bs.map fun b => V.ref b.1) ∧ (∀ b ∈ bs, H b.1 = some (.tup [.str b.2.1, .str b.2.2])) ∧
  ∀ p, H p = none → Q (.ref p) (upd H p (.lst ((bs.mergeSort (PySem.W.dataLe false encP)).map fun b => V.ref b.1)))
theorem refs_vals : ∀ {bs : List (Addr × Str × Str)} {its : List Value}, Vals (bs.map fun b => V.ref b.1) its → its = bs.map fun b => Value.ref b.1
  | [], its, h => by cases h; rfl
  | b :: bs, its, h => by
    cases h with
    | cons r t =>
      have e : _ = Value.ref b.1 := r
      rw [e, refs_vals t]
      rfl
theorem vals_refs : ∀ (bs : List (Addr × Str × Str)), Vals (bs.map fun b => V.ref b.1) (bs.map fun b => Value.ref b.1)
  | [] => .nil
  | b :: bs => .cons rfl (vals_refs bs)
theorem each_refs : ∀ (bs : List (Addr × Str × Str)), PySem.W.EachIs (fun v b => v = Value.ref b.1) (bs.map fun b => Value.ref b.1) bs
  | [] => .nil
  | b :: bs => .cons rfl (each_refs bs)
theorem of_each : ∀ {bs : List (Addr × Str × Str)} {out : List Value}, PySem.W.EachIs (fun v b => v = Value.ref b.1) out bs → out = bs.map fun b => Value.ref b.1
  | _, _, .nil => rfl
  | _, _, .cons e t => by rw [e, of_each t]; rfl
theorem each_of {R : Value → Addr × Str × Str → Prop} : ∀ {bs : List (Addr × Str × Str)}, (∀ b ∈ bs, R (Value.ref b.1) b) → PySem.W.EachIs R (bs.map fun b => Value.ref b.1) bs
  | [], _ => .nil
  | b :: bs, h => .cons (h b List.mem_cons_self) (each_of fun c hc => h c (List.mem_cons_of_mem _ hc))
section
variable {X : Cx}
theorem cr_sortedTT (hu : X.A.units + 64 < cLine) : CallR X (.builtin "sorted") (rSortedTT X.K) := by
  intro pins s σ H vs us Q I r h
  obtain ⟨a, bs, rfl, hs, hb, q⟩ := h
  obtain ⟨its, rv, hl, hz⟩ := I.list hs
  rw [Vals.ref1 r]
  have hi := refs_vals rv
  subst hi
  have hlen : bs.length ≤ sizeLine := by rw [List.length_map] at hz; exact hz
  refine PySem.W.sorted_data (R := fun v b => v = Value.ref b.1) (bs := bs) (enc := encP) hl.isList (each_refs bs) (each_of fun b hm => ?_) (PySem.W.AllAlike.of fun b b' => ?_) (PySem.W.Sortable.tuples fun b => ⟨_, _, rfl⟩) hlen (fun b _ => ?_) fun out ho he => ?_
  · obtain ⟨_, its2, r2, o, hob, hc, n, hd⟩ := I.hok _ _ (hb b hm)
    obtain ⟨u1, u2, rfl, ⟨t1, rfl⟩, ⟨t2, rfl⟩⟩ := vals2 r2
    exact ⟨_, Reads.tuple hob hc hd (.cons (Reads.str _ _) (.cons (Reads.str _ _) .nil))⟩
  · simp [encP, PySem.W.alike, PySem.W.alikeAll]
  · have : (encP b).depth = 1 := by simp [encP, PyData.depth, PyData.depthAll]
    omega
  · have eo := of_each he
    subst eo
    obtain ⟨ep, he'⟩ := PyProof.Rows.sortedAll_at s.heap (bs.map fun b => Value.ref b.1) ((bs.mergeSort (PySem.W.dataLe false encP)).map fun b => Value.ref b.1).toArray
    have hlen2 : ((bs.mergeSort (PySem.W.dataLe false encP)).map fun b => V.ref b.1).length ≤ sizeLine := by rw [List.length_map, List.length_mergeSort]; exact hlen
    exact ⟨.ref _, upd H (s.heap.objs.size + 1) (.lst ((bs.mergeSort (PySem.W.dataLe false encP)).map fun b => V.ref b.1)), I.laid (t' := s.toks) (fun _ _ => PyProof.Rows.sortedAll_old) (Nat.le_succ _) ⟨hlen2, _, ep, vals_refs _, he'⟩, rfl, q _ (I.hok.fresh (Nat.le_succ _))⟩
end
end Lk
set_option maxRecDepth 100000
set_option maxHeartbeats 4000000
namespace Lk
open PySem PySem.Spec PyProof.Rows L2

/-! ### heaps -/
theorem same_upd {H : Hp} {p : Addr} {o : HO} (h : H p = none) : Same H (upd H p o) := fun b x e => by
  rw [upd_ne (ne_of_none e h)]
  exact e
/-- all but what stands at b is as it was -/
def Oth (b : Addr) (H H' : Hp) : Prop := ∀ a o, a ≠ b → H a = some o → H' a = some o
theorem Oth.refl (b : Addr) (H : Hp) : Oth b H H := fun _ _ _ h => h
theorem Oth.trans {b : Addr} {H H1 H2 : Hp} (x : Oth b H H1) (y : Oth b H1 H2) : Oth b H H2 := fun a o n h => y a o n (x a o n h)
theorem Oth.of {b : Addr} {H H' : Hp} (x : Same H H') : Oth b H H' := fun a o _ h => x a o h
theorem Oth.upd {b : Addr} {H : Hp} {o : HO} : Oth b H (upd H b o) := fun a u n h => by rw [upd_ne n]; exact h
theorem Oth.free {b p : Addr} {H H' : Hp} (x : Oth b H H') (hb : p ≠ b) (h : H' p = none) : H p = none := by
  cases q : H p with
  | none => rfl
  | some o =>
    rw [x p o hb q] at h
    cases h
def IsBox (H : Hp) (b : Addr) : Prop := ∃ x y z : Int, H b = some (.lst [.int x, .int y, .int z])
theorem IsBox.same {H H' : Hp} {b : Addr} (x : Same H H') (h : IsBox H b) : IsBox H' b := by
  obtain ⟨i, j, k, e⟩ := h
  exact ⟨i, j, k, x _ _ e⟩
theorem IsBox.ne_tup {H : Hp} {b t : Addr} {xs : List V} (h : IsBox H b) (ht : H t = some (.tup xs)) : t ≠ b := by
  obtain ⟨i, j, k, e⟩ := h
  exact ne_of ht e (fun z => nomatch z)
theorem IsBox.ne_strs {H : Hp} {b t : Addr} {xs : List Str} (h : IsBox H b) (ht : H t = some (.lst (xs.map V.str))) : t ≠ b := by
  obtain ⟨i, j, k, e⟩ := h
  refine ne_of ht e (fun z => ?_)
  match xs, z with
  | [], z => cases z
  | x :: r, z => cases z
theorem IsBox.ne_none {H : Hp} {b p : Addr} (h : IsBox H b) (hp : H p = none) : p ≠ b := by
  obtain ⟨i, j, k, e⟩ := h
  exact (ne_of_none e hp).symm
theorem small9 {n : Nat} (h : n ≤ 9000) : n < sizeLine := Nat.lt_of_le_of_lt h (by decide)
theorem small_le {n : Nat} (h : n ≤ 1000) : n ≤ sizeLine := Nat.le_of_lt (small1000 h)

/-! ### slices -/
def cutL {α : Type} (xs : List α) (lo hi : Option Int) : List α := (xs.drop (HT.sIx xs.length 0 lo)).take (HT.sIx xs.length xs.length hi - HT.sIx xs.length 0 lo)
theorem cutV_map {α : Type} (f : α → V) (xs : List α) (lo hi : Option Int) : cutV (xs.map f) lo hi = (cutL xs lo hi).map f := by
  unfold cutV cutL
  rw [List.length_map, List.map_take, List.map_drop]
theorem cutL_to {α : Type} (xs : List α) (k : Nat) : cutL xs none (some (k : Int)) = xs.take k := by
  unfold cutL
  rw [HT.sIx_none, HT.sIx_nat, List.drop_zero, Nat.sub_zero]
  by_cases h : k ≤ xs.length
  · rw [Nat.min_eq_left h]
  · rw [Nat.min_eq_right (by omega), List.take_of_length_le (Nat.le_refl _), List.take_of_length_le (by omega)]
theorem cutL_from {α : Type} (xs : List α) (k : Nat) : cutL xs (some (k : Int)) none = xs.drop k := by
  unfold cutL
  rw [HT.sIx_none, HT.sIx_nat]
  by_cases h : k ≤ xs.length
  · rw [Nat.min_eq_left h, List.take_of_length_le (by rw [List.length_drop]; exact Nat.le_refl _)]
  · rw [Nat.min_eq_right (by omega), List.drop_length, List.drop_eq_nil_of_le (by omega), List.take_nil]
theorem cutL_le {α : Type} (xs : List α) (lo hi : Option Int) : (cutL xs lo hi).length ≤ xs.length := by
  unfold cutL
  rw [List.length_take, List.length_drop]
  omega
theorem cutL_has {α : Type} {xs : List α} {k : Nat} {hi : Option Int} (h : 0 < (cutL xs (some (k : Int)) hi).length) : k < xs.length := by
  unfold cutL at h
  rw [List.length_take, List.length_drop, HT.sIx_nat] at h
  omega
theorem at_map {α : Type} {f : α → V} {xs : List α} {i : Nat} {x : V} (h : (xs.map f)[i]? = some x) : ∃ y, xs[i]? = some y ∧ x = f y := by
  rw [List.getElem?_map] at h
  cases e : xs[i]? with
  | none => rw [e] at h; cases h
  | some y =>
    rw [e] at h
    exact ⟨y, rfl, (Option.some.inj h).symm⟩
theorem ix_map {α : Type} {f : α → V} {xs : List α} {i : Nat} {y : α} (h : xs[i]? = some y) : (xs.map f)[i]? = some (f y) := by
  rw [List.getElem?_map, h]
  rfl
theorem set_map {α : Type} {f : α → V} {xs : List α} {i : Nat} {y : α} : (xs.map f).set i (f y) = (xs.set i y).map f := by
  rw [List.map_set]

theorem bit01 (k : Bool) : -(2 ^ 64) < (if k = true then 1 else 0 : Int) ∧ (if k = true then 1 else 0 : Int) < 2 ^ 64 := by cases k <;> decide
theorem bit2 (k : Bool) : (0 : Int) ≤ (if k = true then 1 else 0 : Int) ∧ (if k = true then 1 else 0 : Int) ≤ 1 := by cases k <;> decide

/-! ### names of the built-in -/
structure Blt (mg : Str → Option Value) : Prop where
  len : mg "len" = none
  abs : mg "abs" = none
  int : mg "int" = none
  list : mg "list" = none
  tuple : mg "tuple" = none
  enumerate : mg "enumerate" = none
  range : mg "range" = none
  min : mg "min" = none
  max : mg "max" = none
  sorted : mg "sorted" = none
  isinstance : mg "isinstance" = none
  zip : mg "zip" = none
  all : mg "all" = none
  str : mg "str" = none
  bool : mg "bool" = none
  any : mg "any" = none
  repr : mg "repr" = none
  set : mg "set" = none
  sum : mg "sum" = none
  reversed : mg "reversed" = none
  dict : mg "dict" = none

/-! ### a def as its callers know it -/
structure Cal (P : Program) (w : World) (K : PySem.W.Frag) (mg : Str → Option Value) (base : Heap) (k : Nat) (x : Str) (ps : List Str) (sp : Sp) : Prop where
  ex : ∃ f fd, FnOk P w K mg base CX0 k f fd ps sp ∧ mg x = some (.ref f) ∧ PySem.W.keepIn K (.ref f) = true ∧ Binds K fd ps []
theorem Cal.mono {P : Program} {w : World} {K : PySem.W.Frag} {mg : Str → Option Value} {base : Heap} {j k : Nat} {x : Str} {ps : List Str} {sp : Sp} (C : Cal P w K mg base j x ps sp) (h : j ≤ k := by first | decide | omega) : Cal P w K mg base k x ps sp := by
  obtain ⟨f, fd, F, r⟩ := C.ex
  exact ⟨f, fd, F.mono h, r⟩
section
variable {X : Cx} {k n : Nat} {x : Str} {ps : List Str} {sp : Sp} {p pos : Pos} {e : Expr} {es : List Expr} {t : TA}
theorem pe_cal (C : Cal X.prog X.w X.K X.mg X.base k x ps sp) (hr : Room n X.A) (ha : PA X (e :: es) t) (hle : k ≤ n := by first | decide | omega) (hg : Gl X x := by rfl) (hdb : (x == ("__debug__" : Str)) = false := by decide)
    (he : starEach (e :: es) X.env = (false, eval e X.env) :: starEach es X.env := by rfl) (hpl : (backTo pos (starEach es X.env)).any (·.1) = false := by rfl) :
    PE X (.Call (.Name x p) (e :: es) [] pos) (tCall sp [] E0 t) := by
  obtain ⟨f, fd, F, hm, hk, hb⟩ := C.ex
  exact pe_call F (hr.mono hle) hg hm hk hb .nil pass0 ha (hdb := hdb) (he := he) (hpl := hpl)
end

/-! ### drawing -/
def spTake : Sp := fun vs H Q _ => ∃ (b : Addr) (many : Int), vs = [.ref b, .int many] ∧ IsBox H b ∧ 0 < many ∧ many < 1073741824 ∧
  ∀ (v : Int) (H' : Hp), Oth b H H' → IsBox H' b → 0 ≤ v → v < many → Q (.int v) H'
def spBox : Sp := fun vs H Q _ => ∃ (a : Addr) (ns : List Int) (k : Nat), vs = [.ref a, .int k] ∧ H a = some (.lst (ns.map V.int)) ∧ k < ns.length ∧ k < 1000 ∧
  ∀ (b : Addr) (H' : Hp), Same H H' → H b = none → IsBox H' b → Q (.ref b) H'
def spCells (K : PySem.W.Frag) : Sp := fun vs H Q _ => ∃ (a : Addr) (ns : List Int) (u : Nat), vs = [.ref a, .int u] ∧ SqL K H a (ns.map V.int) ∧ ns.length ≤ 63 ∧ 0 < u ∧ u ≤ 3 ∧
  ∀ (c : Addr) (ms : List Int) (H' : Hp), Same H H' → H c = none → H' c = some (.lst (ms.map V.int)) → 0 < ms.length → ms.length ≤ 3 → Q (.ref c) H'
end Lk
set_option maxRecDepth 100000
set_option maxHeartbeats 4000000
namespace Lk
open PySem PySem.Spec PyProof.Rows L2

/-! ### texts and names -/
abbrev tlx (x : Str) : List Nat := x.cps.toList
theorem len_tlx (x : Str) : x.length = (tlx x).length := by
  show x.cps.size = x.cps.toList.length
  rw [Array.length_toList]
theorem tlx_app (x y : Str) : tlx (x ++ y) = tlx x ++ tlx y := by
  show (x.cps ++ y.cps).toList = _
  rw [Array.toList_append]
theorem str_ext {x y : Str} (h : tlx x = tlx y) : x = y := by
  obtain ⟨a⟩ := x
  obtain ⟨b⟩ := y
  have e : a = b := Array.toList_inj.mp h
  rw [e]
def Low (l : List Nat) : Prop := ∀ c ∈ l, 97 ≤ c ∧ c ≤ 122
def NameOk (x : Str) : Prop := 1 ≤ (tlx x).length ∧ (tlx x).length ≤ 8 ∧ Low (tlx x)
theorem NameOk.len {x : Str} (h : NameOk x) : x.length ≤ 8 := by rw [len_tlx]; exact h.2.1
def Good (x : Str) : Prop := PyData.strOk x = true
def Goods (xs : List Str) : Prop := ∀ x ∈ xs, Good x
theorem NameOk.good {x : Str} (h : NameOk x) : Good x := by
  show x.cps.all (· < 0x110000) = true
  rw [← Array.all_toList, List.all_eq_true]
  intro c hc
  have q := h.2.2 c hc
  exact decide_eq_true (by omega)
theorem lmin_good {x y : Str} (hx : Good x) (hy : Good y) : Good (lmin x y) := by
  unfold lmin
  split
  · exact hy
  · exact hx
theorem lmax_good {x y : Str} (hx : Good x) (hy : Good y) : Good (lmax x y) := by
  unfold lmax
  split
  · exact hy
  · exact hx
def abc : Str := "abcdefghijklmnopqrstuvwxyz"
theorem abc_at : ∀ i : Nat, i < 26 → (tlx abc)[i]? = some (97 + i) := by decide +kernel
theorem abc_len : abc.length = 26 := by decide +kernel
theorem abc_ix {i : Int} (h0 : 0 ≤ i) (h1 : i < 26) : atI (tlx abc) i = some (97 + i.toNat) := by
  have e : i = ((i.toNat : Nat) : Int) := by omega
  have q := atI_nat (abc_at i.toNat (by omega))
  rw [← e] at q
  exact q
theorem Low.one {n : Nat} (h : n < 26) : Low [97 + n] := fun c hc => by
  have e : c = 97 + n := by simpa using hc
  omega
theorem join0 : ∀ ys : List Str, tlx (Txt.join ("" : Str) ys) = (ys.map tlx).flatten := by
  intro ys
  rw [TL.join_eq]
  refine (TL.tl_join _ _).trans ?_
  have e : TL.tl ("" : Str) = [] := by decide +kernel
  rw [e]
  have g : ∀ l : List (List Nat), TL.joinL [] l = l.flatten := by
    intro l
    induction l with
    | nil => rfl
    | cons a r ih =>
      cases r with
      | nil => simp [TL.joinL]
      | cons b r =>
        show a ++ ([] ++ TL.joinL [] (b :: r)) = _
        rw [ih]
        simp
  exact g (ys.map TL.tl)
def IsOne (x : Str) : Prop := ∃ n : Nat, n < 26 ∧ x = ⟨#[97 + n]⟩
theorem ones_flat : ∀ {ys : List Str}, (∀ y ∈ ys, IsOne y) → ((ys.map tlx).flatten).length = ys.length ∧ Low (ys.map tlx).flatten
  | [], _ => ⟨rfl, fun _ h => nomatch h⟩
  | y :: r, h => by
    obtain ⟨e1, e2⟩ := ones_flat (ys := r) fun z hz => h z (List.mem_cons_of_mem _ hz)
    obtain ⟨n, hn, rfl⟩ := h y List.mem_cons_self
    constructor
    · rw [List.map_cons, List.flatten_cons, List.length_append, e1]
      simp
      omega
    · rw [List.map_cons, List.flatten_cons]
      intro c hc
      rcases List.mem_append.mp hc with q | q
      · have e : c = 97 + n := by simpa using q
        omega
      · exact e2 c q
theorem ones_len : ∀ {ys : List Str}, (∀ y ∈ ys, IsOne y) → (ys.map (·.length)).sum = ys.length
  | [], _ => rfl
  | y :: r, h => by
    have ih := ones_len (ys := r) fun z hz => h z (List.mem_cons_of_mem _ hz)
    obtain ⟨n, hn, rfl⟩ := h y List.mem_cons_self
    rw [List.map_cons, List.sum_cons, ih, List.length_cons]
    show 1 + r.length = _
    omega
theorem cutS_tlx (z : Str) (lo hi : Option Int) : tlx (cutS z lo hi) = cutL (tlx z) lo hi := by
  unfold cutS cutL
  show (List.toArray _).toList = _
  rw [List.toList_toArray, len_tlx]
theorem Low.cut {l : List Nat} {lo hi : Option Int} (h : Low l) : Low (cutL l lo hi) := fun c hc => h c (List.mem_of_mem_drop (List.mem_of_mem_take hc))
theorem Low.app {l m : List Nat} (h : Low l) (h' : Low m) : Low (l ++ m) := fun c hc => (List.mem_append.mp hc).elim (h c) (h' c)
theorem apart {step : Int} (hs : step = 1 ∨ step = 3 ∨ step = 7 ∨ step = 25) {i j : Nat} (h : j < i) (hi : i < 26) (f : Int) : (f + step * (i : Int)) % 26 ≠ (f + step * (j : Int)) % 26 := by
  rcases hs with rfl | rfl | rfl | rfl <;> omega
/-- a text's last sign -/
def lastC (x : Str) : Option Nat := (tlx x).getLast?
theorem lastC_app (x : Str) (n : Nat) : lastC (x ++ ⟨#[n]⟩) = some n := by
  unfold lastC
  rw [tlx_app]
  simp
theorem ins_perm {α : Type} (l : List α) (p : Nat) (x : α) : (l.take p ++ [x] ++ l.drop p).Perm (x :: l) := by
  have e : l.take p ++ [x] ++ l.drop p = l.take p ++ x :: l.drop p := by simp
  rw [e]
  refine List.perm_middle.trans ?_
  rw [List.take_append_drop]
theorem ins_map {α : Type} (f : α → V) (l : List α) (p : Nat) (x : α) : (l.map f).take p ++ [f x] ++ (l.map f).drop p = (l.take p ++ [x] ++ l.drop p).map f := by
  rw [List.map_append, List.map_append, List.map_take, List.map_drop]
  rfl

/-! ### the order of texts -/
theorem lmin_or (x y : Str) : (lmin x y = x ∧ lmax x y = y) ∨ (lmin x y = y ∧ lmax x y = x) := by
  unfold lmin lmax
  by_cases h : y.cps.toList < x.cps.toList
  · rw [if_pos h, if_neg (List.lt_asymm h)]
    exact .inr ⟨rfl, rfl⟩
  · rw [if_neg h]
    by_cases h2 : x.cps.toList < y.cps.toList
    · rw [if_pos h2]
      exact .inl ⟨rfl, rfl⟩
    · rw [if_neg h2]
      have e : x = y := str_ext (List.le_antisymm h h2)
      subst e
      exact .inl ⟨rfl, rfl⟩
theorem lpair_comm (x y : Str) : (lmin x y, lmax x y) = (lmin y x, lmax y x) := by
  unfold lmin lmax
  by_cases h : y.cps.toList < x.cps.toList
  · rw [if_pos h, if_neg (List.lt_asymm h), if_neg (List.lt_asymm h), if_pos h]
  · by_cases h2 : x.cps.toList < y.cps.toList
    · rw [if_neg h, if_pos h2, if_pos h2, if_neg h]
    · have e : x = y := str_ext (List.le_antisymm h h2)
      subst e
      rfl
/-- friends, as a law has them: each pair a least and a greatest -/
def PalsOk (ps : List (Str × Str)) : Prop := ∀ p ∈ ps, ∃ m q, Good m ∧ Good q ∧ p = (lmin m q, lmax m q)
def frd (ps : List (Str × Str)) (a b : Str) : Bool := decide ((a, b) ∈ ps ∨ (b, a) ∈ ps)
theorem frd_comm (ps : List (Str × Str)) (a b : Str) : frd ps a b = frd ps b a := by
  unfold frd
  exact decide_eq_decide.mpr Or.comm
theorem frd_pair {ps : List (Str × Str)} (h : PalsOk ps) (a b : Str) : decide ((lmin a b, lmax a b) ∈ ps) = frd ps a b := by
  unfold frd
  refine decide_eq_decide.mpr ⟨fun q => ?_, fun q => ?_⟩
  · rcases lmin_or a b with ⟨e1, e2⟩ | ⟨e1, e2⟩
    · rw [e1, e2] at q; exact .inl q
    · rw [e1, e2] at q; exact .inr q
  · rcases q with q | q
    · obtain ⟨m, n, _, _, e⟩ := h _ q
      have e1 : a = lmin m n := (Prod.mk.inj e).1
      have e2 : b = lmax m n := (Prod.mk.inj e).2
      rcases lmin_or m n with ⟨f1, f2⟩ | ⟨f1, f2⟩
      · rw [f1] at e1; rw [f2] at e2; subst e1 e2; rw [← e]; exact q
      · rw [f1] at e1; rw [f2] at e2; subst e1 e2; rw [lpair_comm, ← e]; exact q
    · obtain ⟨m, n, _, _, e⟩ := h _ q
      have e1 : b = lmin m n := (Prod.mk.inj e).1
      have e2 : a = lmax m n := (Prod.mk.inj e).2
      rcases lmin_or m n with ⟨f1, f2⟩ | ⟨f1, f2⟩
      · rw [f1] at e1; rw [f2] at e2; subst e1 e2; rw [lpair_comm, ← e]; exact q
      · rw [f1] at e1; rw [f2] at e2; subst e1 e2; rw [← e]; exact q

theorem menu4 {v : Int} (h0 : 0 ≤ v) (h1 : v < 4) : ∃ step : Int, (step = 1 ∨ step = 3 ∨ step = 7 ∨ step = 25) ∧ atI [V.int 1, V.int 3, V.int 7, V.int 25] v = some (.int step) := by
  have e : v = 0 ∨ v = 1 ∨ v = 2 ∨ v = 3 := by omega
  rcases e with rfl | rfl | rfl | rfl
  · exact ⟨1, by simp, rfl⟩
  · exact ⟨3, by simp, rfl⟩
  · exact ⟨7, by simp, rfl⟩
  · exact ⟨25, by simp, rfl⟩
theorem name_ok {stem : Str} {hi : Option Int} {n : Nat} (h1 : (tlx stem).length ≤ 7) (h2 : Low (tlx stem)) (hn : n < 26) : NameOk (cutS stem none hi ++ ⟨#[97 + n]⟩) := by
  have e : tlx (cutS stem none hi ++ ⟨#[97 + n]⟩) = cutL (tlx stem) none hi ++ [97 + n] := by rw [tlx_app, cutS_tlx]
  have q := cutL_le (tlx stem) none hi
  refine ⟨?_, ?_, ?_⟩
  · rw [e]; simp
  · rw [e, List.length_append, List.length_singleton]; omega
  · rw [e]; exact (Low.cut h2).app (Low.one hn)

/-! ### friends as they stand -/
abbrev B3 := Addr × Str × Str
def refs (bs : List B3) : List V := bs.map fun b => V.ref b.1
def PairsAt (H : Hp) (bs : List B3) : Prop := ∀ b ∈ bs, H b.1 = some (.tup [.str b.2.1, .str b.2.2])
theorem PairsAt.same {H H' : Hp} {bs : List B3} (s : Same H H') (h : PairsAt H bs) : PairsAt H' bs := fun b hb => s _ _ (h b hb)
theorem PairsAt.oth {H H' : Hp} {b : Addr} {bs : List B3} (s : Oth b H H') (hb : IsBox H b) (h : PairsAt H bs) : PairsAt H' bs := fun c hc => s _ _ (hb.ne_tup (h c hc)) (h c hc)
/-- FRIENDS as a tuple -/
def PalsAt (H : Hp) (a : Addr) (ps : List (Str × Str)) : Prop := ∃ bs : List B3, H a = some (.tup (refs bs)) ∧ PairsAt H bs ∧ ps = bs.map (·.2)
theorem PalsAt.same {H H' : Hp} {a : Addr} {ps : List (Str × Str)} (s : Same H H') (h : PalsAt H a ps) : PalsAt H' a ps := by
  obtain ⟨bs, h1, h2, h3⟩ := h
  exact ⟨bs, s _ _ h1, h2.same s, h3⟩
theorem PalsAt.oth {H H' : Hp} {a b : Addr} {ps : List (Str × Str)} (s : Oth b H H') (hb : IsBox H b) (h : PalsAt H a ps) : PalsAt H' a ps := by
  obtain ⟨bs, h1, h2, h3⟩ := h
  exact ⟨bs, s _ _ (hb.ne_tup h1) h1, h2.oth s hb, h3⟩
/-- .. or a list of these -/
def FrAt (H : Hp) (a : Addr) (ps : List (Str × Str)) : Prop := ∃ bs : List B3, (H a = some (.tup (refs bs)) ∨ H a = some (.lst (refs bs))) ∧ PairsAt H bs ∧ ps = bs.map (·.2)
theorem PalsAt.fr {H : Hp} {a : Addr} {ps : List (Str × Str)} (h : PalsAt H a ps) : FrAt H a ps := by
  obtain ⟨bs, h1, h2, h3⟩ := h
  exact ⟨bs, .inl h1, h2, h3⟩
theorem FrAt.same {H H' : Hp} {a : Addr} {ps : List (Str × Str)} (s : Same H H') (h : FrAt H a ps) : FrAt H' a ps := by
  obtain ⟨bs, h1, h2, h3⟩ := h
  exact ⟨bs, h1.elim (fun e => .inl (s _ _ e)) (fun e => .inr (s _ _ e)), h2.same s, h3⟩
/-- what _law_pals tells of a pair -/
def OfPool (pool : List Str) (ps : List (Str × Str)) : Prop := ∀ p ∈ ps, ∃ m q, m ∈ pool ∧ q ∈ pool ∧ m ≠ q ∧ p = (lmin m q, lmax m q)
theorem OfPool.ok {pool : List Str} {ps : List (Str × Str)} (h : OfPool pool ps) (hg : Goods pool) : PalsOk ps := fun p hp => by
  obtain ⟨m, q, h1, h2, _, e⟩ := h p hp
  exact ⟨m, q, hg m h1, hg q h2, e⟩
theorem OfPool.irr {pool : List Str} {ps : List (Str × Str)} (h : OfPool pool ps) (x : Str) : frd ps x x = false := by
  unfold frd
  refine decide_eq_false fun z => ?_
  have z' : (x, x) ∈ ps := z.elim id id
  obtain ⟨m, q, _, _, ne, e⟩ := h _ z'
  have e1 := (Prod.mk.inj e).1
  have e2 := (Prod.mk.inj e).2
  rcases lmin_or m q with ⟨f1, f2⟩ | ⟨f1, f2⟩
  · exact ne ((f1.symm.trans e1.symm).trans (e2.trans f2))
  · exact ne ((f2.symm.trans e2.symm).trans (e1.trans f1))
def PGood (ps : List (Str × Str)) : Prop := ∀ p ∈ ps, Good p.1 ∧ Good p.2
theorem PalsOk.good {ps : List (Str × Str)} (h : PalsOk ps) : PGood ps := fun p hp => by
  obtain ⟨m, q, h1, h2, e⟩ := h p hp
  rw [e]
  exact ⟨lmin_good h1 h2, lmax_good h1 h2⟩
def spPals : Sp := fun vs H Q _ => ∃ (b l : Addr) (pool : List Str), vs = [.ref b, .ref l] ∧ IsBox H b ∧ H l = some (.lst (pool.map V.str)) ∧ pool.Nodup ∧ pool.length ≤ 26 ∧
  ∀ (a : Addr) (bs : List B3) (H' : Hp), Oth b H H' → IsBox H' b → H a = none → H' a = some (.tup (refs bs)) → PairsAt H' bs → OfPool pool (bs.map (·.2)) → bs.length ≤ 1000 → (∃ cs : List B3, bs = cs.mergeSort (PySem.W.dataLe false encP)) → Q (.ref a) H'

def spNames : Sp := fun vs H Q _ => ∃ (b : Addr) (many : Nat), vs = [.ref b, .int many] ∧ IsBox H b ∧ many ≤ 26 ∧
  ∀ (l : Addr) (names : List Str) (H' : Hp), Oth b H H' → IsBox H' b → H l = none → H' l = some (.lst (names.map V.str)) → names.length = many → names.Nodup → (∀ x ∈ names, NameOk x) → Q (.ref l) H'
end Lk
set_option maxRecDepth 100000
set_option maxHeartbeats 4000000
namespace Lk
open PySem PySem.Spec PyProof.Rows L2
theorem u65 {k : Nat} {A : Around} (r : Room k A) : A.units + 65 < cLine := by have := r.un; omega

/-! ### data -/
def encQ (p : Str × Str) : PyData := .tuple [.str p.1, .str p.2]
theorem eqv_strs : ∀ xs ys : List Str, PyData.eqvAll (xs.map .str) (ys.map .str) = decide (xs = ys)
  | [], [] => by simp [PyData.eqvAll]
  | [], _ :: _ => by simp [PyData.eqvAll]
  | _ :: _, [] => by simp [PyData.eqvAll]
  | x :: xs, y :: ys => by
    rw [List.map_cons, List.map_cons, PyData.eqvAll, eqv_strs xs ys]
    by_cases h : x = y
    · subst h
      simp [PyData.eqv]
    · simp [PyData.eqv, h]
theorem eqv_pair (p q : Str × Str) : PyData.eqv (encQ p) (encQ q) = decide (p = q) := by
  obtain ⟨a, b⟩ := p
  obtain ⟨c, d⟩ := q
  have e := eqv_strs [a, b] [c, d]
  have e2 : PyData.eqv (encQ (a, b)) (encQ (c, d)) = PyData.eqvAll ([a, b].map .str) ([c, d].map .str) := by simp [encQ, PyData.eqv]
  rw [e2, e]
  refine decide_eq_decide.mpr ?_
  simp
theorem lay_strs : ∀ {xs : List Str}, Goods xs → PyData.canLayAll0 (xs.map .str) = true
  | [], _ => by simp [PyData.canLayAll0]
  | x :: xs, h => by
    have h1 : PyData.strOk x = true := h x List.mem_cons_self
    simp [PyData.canLayAll0, PyData.canLay0, h1, lay_strs (xs := xs) fun y hy => h y (List.mem_cons_of_mem _ hy)]
theorem dep_strs : ∀ xs : List Str, PyData.depthAll (xs.map .str) = 0
  | [] => by simp [PyData.depthAll]
  | x :: xs => by simp [PyData.depthAll, PyData.depth, dep_strs xs]
theorem sh_list {xs : List Str} (h : Goods xs) : SeqAt.shaped (.list (xs.map .str)) = true := by
  show (PyData.canLay0 (.list (xs.map .str)) && decide (PyData.depth (.list (xs.map .str)) ≤ 64)) = true
  simp [PyData.canLay0, PyData.depth, lay_strs h, dep_strs]
theorem sh_tuple {xs : List Str} (h : Goods xs) : SeqAt.shaped (.tuple (xs.map .str)) = true := by
  show (PyData.canLay0 (.tuple (xs.map .str)) && decide (PyData.depth (.tuple (xs.map .str)) ≤ 64)) = true
  simp [PyData.canLay0, PyData.depth, lay_strs h, dep_strs]
theorem lay_pairs : ∀ {ps : List (Str × Str)}, PGood ps → PyData.canLayAll0 (ps.map encQ) = true
  | [], _ => by simp [PyData.canLayAll0]
  | p :: ps, h => by
    have h1 : PyData.strOk p.1 = true := (h p List.mem_cons_self).1
    have h2 : PyData.strOk p.2 = true := (h p List.mem_cons_self).2
    simp [PyData.canLayAll0, PyData.canLay0, encQ, h1, h2, lay_pairs (ps := ps) fun y hy => h y (List.mem_cons_of_mem _ hy)]
theorem dep_pairs : ∀ ps : List (Str × Str), PyData.depthAll (ps.map encQ) ≤ 1
  | [] => by simp [PyData.depthAll]
  | p :: ps => by
    have := dep_pairs ps
    simp only [List.map_cons, PyData.depthAll, encQ, PyData.depth]
    omega
theorem sh_pals {ps : List (Str × Str)} (h : PGood ps) : SeqAt.shaped (.tuple (ps.map encQ)) = true := by
  show (PyData.canLay0 (.tuple (ps.map encQ)) && decide (PyData.depth (.tuple (ps.map encQ)) ≤ 64)) = true
  have := dep_pairs ps
  have e : PyData.depth (.tuple (ps.map encQ)) ≤ 64 := by
    simp only [PyData.depth]
    omega
  rw [decide_eq_true e, Bool.and_true]
  simp only [PyData.canLay0]
  exact lay_pairs h
theorem goods2 {x y : Str} (hx : Good x) (hy : Good y) : Goods [x, y] := fun z hz => by
  rcases List.mem_cons.mp hz with rfl | hz
  · exact hx
  · have e : z = y := by simpa using hz
    rw [e]
    exact hy
theorem sh_pair {p : Str × Str} (h : Good p.1 ∧ Good p.2) : SeqAt.shaped (encQ p) = true := sh_tuple (xs := [p.1, p.2]) (goods2 h.1 h.2)
section
variable {K : PySem.W.Frag} {H : Hp}
theorem dp_strs : ∀ xs : List Str, DpAll K H (xs.map V.str) (xs.map .str)
  | [] => .nil
  | x :: xs => .cons (.str x) (dp_strs xs)
theorem dp_list {a : Addr} {xs : List Str} (h : H a = some (.lst (xs.map V.str))) : Dp K H (.ref a) (.list (xs.map .str)) := .lst (.inl (.inl h)) (dp_strs xs)
theorem dp_tuple {a : Addr} {xs : List Str} (h : H a = some (.tup (xs.map V.str))) : Dp K H (.ref a) (.tuple (xs.map .str)) := .tup (.inl (.inl h)) (dp_strs xs)
theorem dp_pairs : ∀ {bs : List B3}, PairsAt H bs → DpAll K H (refs bs) ((bs.map (·.2)).map encQ)
  | [], _ => .nil
  | b :: bs, h => .cons (dp_tuple (xs := [b.2.1, b.2.2]) (h b List.mem_cons_self)) (dp_pairs (bs := bs) fun c hc => h c (List.mem_cons_of_mem _ hc))
theorem dp_pals {a : Addr} {ps : List (Str × Str)} (h : PalsAt H a ps) : Dp K H (.ref a) (.tuple (ps.map encQ)) := by
  obtain ⟨bs, h1, h2, rfl⟩ := h
  exact .tup (.inl (.inl h1)) (dp_pairs h2)
end
theorem any_pair (ps : List (Str × Str)) (p : Str × Str) : ((ps.map encQ).any fun z => PyData.eqv z (encQ p)) = decide (p ∈ ps) := by
  rw [List.any_map]
  induction ps with
  | nil => rfl
  | cons q r ih =>
    rw [List.any_cons, ih]
    show (PyData.eqv (encQ q) (encQ p) || _) = _
    rw [eqv_pair]
    by_cases h : q = p
    · subst h
      simp
    · have h' : ¬ p = q := fun z => h z.symm
      simp [h, h']

/-! ### tuples whose object is known to have no dict: their methods may be called -/
def TupAt (H : Hp) (t : Addr) (xs : List V) : Prop := ∃ o : Obj, o.dict = none ∧ H t = some (.frz o (.tup xs))
theorem TupAt.same {H H' : Hp} {t : Addr} {xs : List V} (s : Same H H') (h : TupAt H t xs) : TupAt H' t xs := by
  obtain ⟨o, h1, h2⟩ := h
  exact ⟨o, h1, s _ _ h2⟩
theorem TupAt.sq {K : PySem.W.Frag} {H : Hp} {t : Addr} {xs : List V} (h : TupAt H t xs) : SqT K H t xs := by
  obtain ⟨o, _, h2⟩ := h
  exact .inl (.inr ⟨o, h2⟩)
theorem TupAt.ne {H : Hp} {b t : Addr} {xs : List V} (h : TupAt H t xs) (hb : IsBox H b) : t ≠ b := by
  obtain ⟨o, _, h2⟩ := h
  obtain ⟨i, j, k, e⟩ := hb
  exact ne_of h2 e (fun z => nomatch z)
theorem TupAt.ne_new {H : Hp} {p t : Addr} {xs : List V} (h : TupAt H t xs) (hp : H p = none) : t ≠ p := by
  obtain ⟨o, _, h2⟩ := h
  exact ne_of_none h2 hp
theorem TupAt.oth {H H' : Hp} {b t : Addr} {xs : List V} (s : Oth b H H') (hb : IsBox H b) (h : TupAt H t xs) : TupAt H' t xs := by
  have n := h.ne hb
  obtain ⟨o, h1, h2⟩ := h
  exact ⟨o, h1, s _ _ n h2⟩
/-- all but what stands at l, as it was -/
theorem TupAt.upd_ {H : Hp} {l t : Addr} {xs ys : List V} {o' : HO} (h : TupAt H t xs) (hl : H l = some (.lst ys)) : TupAt (upd H l o') t xs := by
  obtain ⟨o, h1, h2⟩ := h
  exact ⟨o, h1, (upd_ne (ne_of h2 hl (fun z => nomatch z))).trans h2⟩
theorem cutV_whole {xs : List V} {lo hi : Option Int} (h : HT.sIx xs.length 0 lo = 0 ∧ HT.sIx xs.length xs.length hi = xs.length) : cutV xs lo hi = xs := by
  unfold cutV
  rw [h.1, h.2, List.drop_zero, Nat.sub_zero, List.take_of_length_le (Nat.le_refl _)]
section
variable {X : Cx}
theorem laid_tup {pins : List (Addr × Obj)} {σ : L2.St} {H : Hp} {s : Shared} {xs : List V} {its : List Value} (I : Inv X pins σ H s) (hz : xs.length ≤ sizeLine) (r : Vals xs its) :
    Inv X pins σ (upd H s.heap.objs.size (.frz { cls := .type "tuple", data := .seq its.toArray } (.tup xs))) { s with heap := s.heap.push { cls := .type "tuple", data := .seq its.toArray } } :=
  I.laid (t' := s.toks) (fun b ob q => Heap.get?_push_of_some _ q) (Nat.le_refl _) ⟨Heap.get?_push_size _ rfl, hz, its, r, IsTup.new _ _⟩
def tTupF (t : TA) : TE := fun σ H Q => t σ H fun xs H1 => xs.length ≤ sizeLine ∧ ∀ p H', Same H1 H' → H1 p = none → TupAt H' p xs → Q (.ref p) H'
theorem pe_tupF {es : List Expr} {t : TA} {pos : Pos} {x1} (h : PA X es t) : PE X (.Tuple es x1 pos) (tTupF t) := by
  refine ⟨fun pins s σ H Q I hq => ?_⟩
  refine wpAny_Tuple_spliced (thn (h.run pos pins s σ H _ I hq) fun us s1 ⟨xs, H1, I1, r, z, q⟩ => ⟨by rw [← r.length]; exact z, ?_⟩)
  have hf : H1 s1.heap.objs.size = none := I1.hok.fresh (Nat.le_refl _)
  exact ⟨.ref s1.heap.objs.size, _, laid_tup I1 z r, rfl, q _ _ (same_upd hf) hf ⟨_, rfl, upd_same⟩⟩
theorem call_tupleF : CallR X (.type "tuple") (fun xs H Q => ∃ p ys, xs = [.ref p] ∧ ((SqL X.K H p ys ∧ ∀ l H', Same H H' → H l = none → TupAt H' l ys → Q (.ref l) H') ∨ (SqT X.K H p ys ∧ Q (.ref p) H))) := by
  intro pins s σ H xs us Q I r h
  obtain ⟨p, ys, rfl, h⟩ := h
  obtain ⟨u, rfl, rx⟩ := vals1 r
  cases rx
  rcases h with ⟨hq, q⟩ | ⟨hq, q⟩
  · obtain ⟨its, r', pl, hz⟩ := I.list hq
    have hlen := r'.length
    refine call_tuple_list pl.isList (fun h' kp => ?_) (by simp only [List.size_toArray] <;> omega)
    have I1 : Inv X pins σ H { s with heap := h' } := I.kept (t' := s.toks) kp
    have hf := I1.hok.fresh (Nat.le_refl _)
    exact ⟨.ref h'.objs.size, _, laid_tup I1 hz r', rfl, q _ _ (same_upd hf) hf ⟨_, rfl, upd_same⟩⟩
  · obtain ⟨its, r', pl, hz⟩ := I.tuple hq
    exact call_tuple_same pl ⟨.ref p, H, I, rfl, q⟩
def rSlM : V → Option Int → Option Int → Hp → VK → Prop := fun x lo hi H Q => ∃ a xs, x = .ref a ∧ TupAt H a xs ∧ ∀ t H', Same H H' → TupAt H' t (cutV xs lo hi) → Q (.ref t) H'
theorem sl_tupM : SlR X rSlM := by
  intro pins s σ H x v vl vu lo hi sl Q I rx hs pl pu h
  obtain ⟨a, xs, rfl, ha, q⟩ := h
  by_cases hw : HT.sIx xs.length 0 lo = 0 ∧ HT.sIx xs.length xs.length hi = xs.length
  · exact sl_tupA pins s σ H _ v vl vu lo hi sl Q I rx hs pl pu ⟨a, xs, rfl, ha.sq, fun _ => q a H (Same.refl H) (by rw [cutV_whole hw]; exact ha), fun z => absurd hw z⟩
  · cases rx
    obtain ⟨its, r, ht, hz⟩ := I.tuple (ha.sq (K := X.K))
    have hlen : its.toArray.size = xs.length := by rw [List.size_toArray]; exact r.length.symm
    refine ⟨"tuple", _, PyProof.Rows.slot_tuple_getitem.lookup, ht.typeIs, ?_⟩
    refine HT.getItem_tuple_cut ht hs pl pu (by rw [hlen]; exact hw) ?_ (by rw [hlen]; exact hz)
    rw [hlen]
    have hf : H s.heap.objs.size = none := I.hok.fresh (Nat.le_refl _)
    exact ⟨.ref s.heap.objs.size, _, laid_tup (xs := cutV xs lo hi) I (Nat.le_trans (cutV_length xs lo hi) hz) ((r.drop (HT.sIx xs.length 0 lo)).take (HT.sIx xs.length xs.length hi - HT.sIx xs.length 0 lo)), rfl, q _ _ (same_upd hf) ⟨_, rfl, upd_same⟩⟩
def rCatM : R2 := fun x y H Q => ∃ a b xs ys, x = .ref a ∧ y = .ref b ∧ TupAt H a xs ∧ TupAt H b ys ∧ xs.length + ys.length ≤ sizeLine ∧ ∀ t H', Same H H' → TupAt H' t (xs ++ ys) → Q (.ref t) H'
theorem op_catM : OpR X (binaryOp .Add) rCatM := by
  intro pins s σ H x y v u Q I rx ry h
  obtain ⟨a, b, xs, ys, rfl, rfl, ha, hb, hz, q⟩ := h
  cases rx
  cases ry
  obtain ⟨its, r1, p1, _⟩ := I.tuple (ha.sq (K := X.K))
  obtain ⟨its2, r2, p2, _⟩ := I.tuple (hb.sq (K := X.K))
  by_cases hx : xs = []
  · subst hx
    cases r1
    exact cat_tup0 p1 p2 ⟨.ref b, H, I, rfl, q b H (Same.refl H) hb⟩
  · refine HT.cat_tup p1 p2 (fun z => hx (r1.nil_iff.mp z)) (fun z => ⟨.ref a, H, I, rfl, q a H (Same.refl H) ?_⟩) (fun z => ?_) (by rw [← r1.length, ← r2.length]; exact hz)
    · rw [r2.nil_iff.mp z, List.append_nil]
      exact ha
    · have hf : H s.heap.objs.size = none := I.hok.fresh (Nat.le_refl _)
      exact ⟨.ref s.heap.objs.size, _, laid_tup (xs := xs ++ ys) I (by rw [List.length_append]; exact hz) (r1.append r2), rfl, q _ _ (same_upd hf) ⟨_, rfl, upd_same⟩⟩
/-- o.m(e, ..) of such a tuple -/
def tBMT (r : V → List V → Hp → VK → Prop) (to : TE) (t : TA) : TE := fun σ H Q => to σ H fun x H1 => (∃ a xs, x = .ref a ∧ TupAt H1 a xs) ∧ t σ H1 fun xs H2 => r x xs H2 Q
theorem pe_bmT {o e : Expr} {es : List Expr} {to : TE} {t : TA} {name : Str} {apos cpos : Pos} {id : String} {r : V → List V → Hp → VK → Prop} (slot : Slot "tuple" name id) (hty : typeOf (.builtin id) = pure (.type "method_descriptor")) (hm : MtR X id r) (ho : PE X o to) (ha : PA X (e :: es) t)
    (hbase : attributeBase o name X.env (eval o X.env) = eval o X.env := by rfl)
    (hfew : ((backTo cpos (starEach (e :: es) X.env)).all (fun x => !x.1) && (backToKw cpos (keywordEach [] X.env)).all (fun x => x.1.isSome)
      && decide ((e :: es).length + ([] : List Keyword).length + (if ([] : List Keyword).isEmpty then 0 else 1) < 30)) = true := by rfl)
    (hline : (apos.endLine == cpos.line) = true := by rfl) (hs : starEach (e :: es) X.env = (false, eval e X.env) :: starEach es X.env := by rfl) (hplain : (backTo cpos (starEach es X.env)).any (·.1) = false := by rfl) :
    PE X (.Call (.Attribute o name apos) (e :: es) [] cpos) (tBMT r to t) := by
  refine ⟨fun pins s σ H Q I h => ?_⟩
  refine wpAny_Call_method_late hbase hfew hline rfl (thn (ho.run pins s σ H _ I h) fun v s1 ⟨x, H1, I1, r1, ty, q1⟩ => ?_)
  obtain ⟨a, xs, ea, oo, hd, hH⟩ := ty
  subst ea
  cases r1
  obtain ⟨g1, g2⟩ := I1.hok _ _ hH
  obtain ⟨_, its, rv, o', g3, g4, _⟩ := g2
  have h1 : s1.TypeIs (.ref a) "tuple" := ⟨o', g3, g4⟩
  have h2 : ∀ b, Value.ref a = .ref b → ∃ ob, s1.heap.get? b = some ob ∧ ob.dict = none := fun b eb => by
    cases eb
    exact ⟨oo, g1, hd⟩
  refine ⟨"tuple", id, PySem.F.plainAttrs_tuple, slot, hty, h1, h2, ?_⟩
  have hA := ha.run cpos pins s1 σ H1 _ I1 q1
  rw [hs] at hA ⊢
  refine Calls.callWith_builtin (by show (false || (backTo cpos (starEach es X.env)).any (·.1)) = false; rw [hplain] <;> rfl) (Calls.evalArgs_plain ?_)
  exact thn hA fun us s2 ⟨vs, H2, I2, r2, q2⟩ => hm pins s2 σ H2 (.ref a) vs (.ref a) us Q I2 rfl r2 q2
/-- a list of texts != [] -/
def rNeNil : R2 := fun x y H Q => ∃ (a b : Addr) (ys : List Str), x = .ref a ∧ y = .ref b ∧ H a = some (.lst (ys.map V.str)) ∧ H b = some (.lst []) ∧ Goods ys ∧ Q (.bl (!decide (ys = []))) H
theorem op_neNil (hu : X.A.units + 64 < cLine) : OpR X (compareOp .NotEq) rNeNil := by
  intro pins s σ H x y v u Q I rx ry h
  obtain ⟨a, b, ys, rfl, rfl, ha, hb, hg, q⟩ := h
  refine op_neD hu pins s σ H _ _ v u Q I rx ry ⟨_, _, dp_list ha, dp_list (xs := []) hb, sh_list hg, sh_list (xs := []) (fun _ h => nomatch h), ?_⟩
  have e : PyData.eqv (.list (ys.map .str)) (.list (([] : List Str).map .str)) = decide (ys = []) := by
    rw [PyData.eqv, eqv_strs]
  rw [e]
  exact q
/-- two tuples of texts -/
def rEqT : R2 := fun x y H Q => ∃ (a b : Addr) (xs ys : List Str), x = .ref a ∧ y = .ref b ∧ TupAt H a (xs.map V.str) ∧ TupAt H b (ys.map V.str) ∧ Goods xs ∧ Goods ys ∧ Q (.bl (decide (xs = ys))) H
theorem op_eqT (hu : X.A.units + 64 < cLine) : OpR X (compareOp .Eq) rEqT := by
  intro pins s σ H x y v u Q I rx ry h
  obtain ⟨a, b, xs, ys, rfl, rfl, ha, hb, g1, g2, q⟩ := h
  refine op_eqD hu pins s σ H _ _ v u Q I rx ry ⟨_, _, .tup ha.sq (dp_strs xs), .tup hb.sq (dp_strs ys), sh_tuple g1, sh_tuple g2, ?_⟩
  have e : PyData.eqv (.tuple (xs.map .str)) (.tuple (ys.map .str)) = decide (xs = ys) := by
    rw [PyData.eqv, eqv_strs]
  rw [e]
  exact q
end

/-! ### a row: a tuple or a list of names -/
def RowAt (H : Hp) (a : Addr) (row : List Str) : Prop := TupAt H a (row.map V.str) ∨ H a = some (.lst (row.map V.str))
theorem RowAt.same {H H' : Hp} {a : Addr} {row : List Str} (s : Same H H') (h : RowAt H a row) : RowAt H' a row := h.elim (fun e => .inl (e.same s)) (fun e => .inr (s _ _ e))

/-! ### where one comes to -/
def lastP {α : Type} (p : α → Bool) : List α → Option Nat
  | [] => none
  | x :: r => match lastP p r with
    | some k => some (k + 1)
    | none => if p x then some 0 else none
theorem lastP_app {α : Type} (p : α → Bool) (x : α) : ∀ l : List α, lastP p (l ++ [x]) = if p x then some l.length else lastP p l
  | [] => by simp [lastP]
  | y :: l => by
    show (match lastP p (l ++ [x]) with | some k => some (k + 1) | none => if p y then some 0 else none) = _
    rw [lastP_app p x l]
    by_cases h : p x = true
    · rw [if_pos h, if_pos h]
      rfl
    · rw [if_neg h, if_neg h]
      rfl
theorem lastP_take {α : Type} (p : α → Bool) {xs : List α} {i : Nat} {x : α} (h : xs[i]? = some x) : lastP p (xs.take (i + 1)) = if p x then some i else lastP p (xs.take i) := by
  have hi : i < xs.length := (List.getElem?_eq_some_iff.mp h).1
  rw [List.take_add_one, h]
  show lastP p (xs.take i ++ [x]) = _
  rw [lastP_app, List.length_take, Nat.min_eq_left (Nat.le_of_lt hi)]
theorem lastP_some {α : Type} {p : α → Bool} : ∀ {l : List α} {k : Nat}, lastP p l = some k → ∃ x, l[k]? = some x ∧ p x = true ∧ ∀ j y, k < j → l[j]? = some y → p y = false
  | [], k, h => by cases h
  | x :: r, k, h => by
    unfold lastP at h
    cases e : lastP p r with
    | some j =>
      rw [e] at h
      have hk : j + 1 = k := Option.some.inj h
      subst hk
      obtain ⟨y, h1, h2, h3⟩ := lastP_some e
      refine ⟨y, h1, h2, fun j' z hj hz => ?_⟩
      match j', hj, hz with
      | j' + 1, hj, hz => exact h3 j' z (by omega) hz
    | none =>
      rw [e] at h
      by_cases hx : p x = true
      · simp only [hx, if_true] at h
        have hk : 0 = k := Option.some.inj h
        subst hk
        refine ⟨x, rfl, hx, fun j' z hj hz => ?_⟩
        match j', hj, hz with
        | j' + 1, hj, hz => exact lastP_none e j' z hz
      · simp only [hx] at h
        cases h
where lastP_none {α : Type} {p : α → Bool} : ∀ {l : List α}, lastP p l = none → ∀ (j : Nat) (y : α), l[j]? = some y → p y = false
  | [], _, j, y, h => by simp at h
  | x :: r, e, j, y, h => by
    unfold lastP at e
    cases e2 : lastP p r with
    | some k => rw [e2] at e; cases e
    | none =>
      rw [e2] at e
      by_cases hx : p x = true
      · simp only [hx, if_true] at e
        cases e
      · match j, h with
        | 0, h =>
          have : x = y := Option.some.inj h
          subst this
          exact Bool.eq_false_iff.mpr hx
        | j + 1, h => exact lastP_none e2 j y h
theorem lastP_nil {α : Type} {p : α → Bool} : ∀ {l : List α}, lastP p l = none ↔ l.filter p = []
  | [] => by simp [lastP]
  | x :: r => by
    have ih := lastP_nil (p := p) (l := r)
    unfold lastP
    cases e : lastP p r with
    | some k =>
      have : ¬ r.filter p = [] := fun z => by rw [ih.mpr z] at e; cases e
      rw [List.filter_cons]
      by_cases hx : p x = true
      · simp [hx]
      · simp [hx, this]
    | none =>
      have z := ih.mp e
      rw [List.filter_cons, z]
      by_cases hx : p x = true
      · simp [hx]
      · simp [hx]
theorem Goods.perm {xs ys : List Str} (h : Goods xs) (p : ys.Perm xs) : Goods ys := fun x hx => h x (p.mem_iff.mp hx)
theorem Goods.at_ {xs : List Str} {i : Nat} {x : Str} (h : Goods xs) (e : xs[i]? = some x) : Good x := h x (List.mem_of_getElem? e)
theorem Goods.filter {xs : List Str} {p : Str → Bool} (h : Goods xs) : Goods (xs.filter p) := fun x hx => h x (List.mem_filter.mp hx).1
def spotOf (ps : List (Str × Str)) (stand : List Str) (x : Str) : Nat := match lastP (frd ps x) stand with
  | some k => k + 1
  | none => stand.length
def comeTo (ps : List (Str × Str)) (stand : List Str) (x : Str) : List Str := stand.take (spotOf ps stand x) ++ [x] ++ stand.drop (spotOf ps stand x)
def standOf (ps : List (Str × Str)) (order : List Str) : List Str := order.foldl (comeTo ps) []
theorem come_perm (ps : List (Str × Str)) (stand : List Str) (x : Str) : (comeTo ps stand x).Perm (x :: stand) := ins_perm _ _ _
theorem standOf_app (ps : List (Str × Str)) (o : List Str) (x : Str) : standOf ps (o ++ [x]) = comeTo ps (standOf ps o) x := by
  unfold standOf
  rw [List.foldl_append]
  rfl
theorem stand_perm_from (ps : List (Str × Str)) : ∀ (o stand : List Str), (o.foldl (comeTo ps) stand).Perm (o ++ stand)
  | [], stand => List.Perm.refl _
  | x :: o, stand => by
    show (o.foldl (comeTo ps) (comeTo ps stand x)).Perm _
    refine (stand_perm_from ps o _).trans ?_
    refine ((come_perm ps stand x).append_left o).trans ?_
    exact List.perm_middle
theorem stand_perm (ps : List (Str × Str)) (o : List Str) : (standOf ps o).Perm o := by
  have h := stand_perm_from ps o []
  rw [List.append_nil] at h
  exact h

/-! ### promises -/
def spAre : Sp := fun vs H Q _ => ∃ (a : Addr) (ps : List (Str × Str)) (x y : Str), vs = [.ref a, .str x, .str y] ∧ PalsAt H a ps ∧ PalsOk ps ∧ Good x ∧ Good y ∧ ∀ H', Same H H' → Q (.bl (frd ps x y)) H'
def spCome : Sp := fun vs H Q _ => ∃ (a t : Addr) (ps : List (Str × Str)) (stand : List Str) (x : Str), vs = [.ref a, .ref t, .str x] ∧ PalsAt H a ps ∧ PalsOk ps ∧ TupAt H t (stand.map V.str) ∧ Goods stand ∧ Good x ∧ stand.length ≤ 100 ∧
  ∀ t' H', Same H H' → TupAt H' t' ((comeTo ps stand x).map V.str) → Q (.ref t') H'
def spStandOf : Sp := fun vs H Q _ => ∃ (a l : Addr) (ps : List (Str × Str)) (some_ : List Str), vs = [.ref a, .ref l] ∧ PalsAt H a ps ∧ PalsOk ps ∧ H l = some (.lst (some_.map V.str)) ∧ Goods some_ ∧ some_.length ≤ 100 ∧
  ∀ t' H', Same H H' → TupAt H' t' ((standOf ps some_).map V.str) → Q (.ref t') H'
def spStrewn : Sp := fun vs H Q _ => ∃ (b l : Addr) (pool : List Str), vs = [.ref b, .ref l] ∧ IsBox H b ∧ RowAt H l pool ∧ pool.length ≤ 100 ∧
  ∀ (p : Addr) (order : List Str) (H' : Hp), Oth b H H' → IsBox H' b → H p = none → H' p = some (.lst (order.map V.str)) → order.Perm pool → Q (.ref p) H'
end Lk
set_option maxRecDepth 100000
set_option maxHeartbeats 4000000
namespace Lk
open PySem PySem.Spec PyProof.Rows L2
/-- a tuple that is tracked, either way -/
def TupX (H : Hp) (a : Addr) (xs : List V) : Prop := H a = some (.tup xs) ∨ TupAt H a xs
theorem TupX.same {H H' : Hp} {a : Addr} {xs : List V} (s : Same H H') (h : TupX H a xs) : TupX H' a xs := h.elim (fun e => .inl (s _ _ e)) (fun e => .inr (e.same s))
theorem TupX.sq {K : PySem.W.Frag} {H : Hp} {a : Addr} {xs : List V} (h : TupX H a xs) : SqT K H a xs := h.elim (fun e => .inl (.inl e)) (fun e => e.sq)
theorem TupX.ty {K : PySem.W.Frag} {H : Hp} {a : Addr} {xs : List V} (h : TupX H a xs) : TyX K H (.ref a) (.type "tuple") := h.elim (fun e => .base (.tup e)) (fun ⟨_, _, e⟩ => .fTuple e)
/-- two values that _law_same tells to be the same: scalars, lists, tuples, at most n deep -/
def Alk (H : Hp) : Nat → V → V → Prop
  | 0, _, _ => False
  | n + 1, x, y => ((x = .non ∨ (∃ b, x = .bl b) ∨ (∃ i, x = .int i) ∨ ∃ z, x = .str z) ∧ y = x) ∨
    (∃ a b xs ys, x = .ref a ∧ y = .ref b ∧ H a = some (.lst xs) ∧ H b = some (.lst ys) ∧ xs.length = ys.length ∧ xs.length ≤ 1000 ∧ ∀ (i : Nat) (u v : V), xs[i]? = some u → ys[i]? = some v → Alk H n u v) ∨
    (∃ a b xs ys, x = .ref a ∧ y = .ref b ∧ TupX H a xs ∧ TupX H b ys ∧ xs.length = ys.length ∧ xs.length ≤ 1000 ∧ ∀ (i : Nat) (u v : V), xs[i]? = some u → ys[i]? = some v → Alk H n u v)
theorem Alk.same {H H' : Hp} (s : Same H H') : ∀ {n : Nat} {x y : V}, Alk H n x y → Alk H' n x y
  | 0, _, _, h => h.elim
  | n + 1, x, y, h => by
    rcases h with h | ⟨a, b, xs, ys, e1, e2, h1, h2, hl, hz, h⟩ | ⟨a, b, xs, ys, e1, e2, h1, h2, hl, hz, h⟩
    · exact .inl h
    · exact .inr (.inl ⟨a, b, xs, ys, e1, e2, s _ _ h1, s _ _ h2, hl, hz, fun i u v hu hv => Alk.same s (h i u v hu hv)⟩)
    · exact .inr (.inr ⟨a, b, xs, ys, e1, e2, h1.same s, h2.same s, hl, hz, fun i u v hu hv => Alk.same s (h i u v hu hv)⟩)
end Lk
set_option maxRecDepth 100000
set_option maxHeartbeats 4000000
namespace Lk
open PySem PySem.Spec PyProof.Rows L2

/-! ### the dict of friends, either way about -/
def k2 (a b : Str) : List Key := [Sum.inr a, Sum.inr b]
theorem k2_inj {a b c d : Str} : k2 a b = k2 c d ↔ a = c ∧ b = d := by
  unfold k2
  simp
def KnAt (H : Hp) (d : Addr) (ps : List (Str × Str)) : Prop := ∃ kvs, H d = some (.dT kvs) ∧ ∀ a b, (valV kvs (k2 a b)).isSome = frd ps a b
theorem KnAt.same {H H' : Hp} {d : Addr} {ps : List (Str × Str)} (s : Same H H') (h : KnAt H d ps) : KnAt H' d ps := by
  obtain ⟨kvs, h1, h2⟩ := h
  exact ⟨kvs, s _ _ h1, h2⟩
theorem putK_len {kvs : List (List Key × V)} {k : List Key} {v : V} : (putK kvs k v).length ≤ kvs.length + 1 := by
  unfold putK
  split
  · rw [List.length_map]
    omega
  · rw [List.length_append]
    exact Nat.le_refl _
theorem frd_app (ps : List (Str × Str)) (p : Str × Str) (a b : Str) : frd (ps ++ [p]) a b = (frd ps a b || decide ((a, b) = p) || decide ((b, a) = p)) := by
  unfold frd
  by_cases h1 : (a, b) ∈ ps <;> by_cases h2 : (b, a) ∈ ps <;> by_cases h3 : (a, b) = p <;> by_cases h4 : (b, a) = p <;> simp [h1, h2, h3, h4]
theorem both_put {kvs : List (List Key × V)} {ps : List (Str × Str)} (h : ∀ a b, (valV kvs (k2 a b)).isSome = frd ps a b) (x y : Str) (u v : V) (a b : Str) :
    (valV (putK (putK kvs (k2 x y) u) (k2 y x) v) (k2 a b)).isSome = frd (ps ++ [(x, y)]) a b := by
  rw [valV_put, valV_put, frd_app, ← h a b]
  by_cases h1 : k2 a b = k2 y x
  · rw [if_pos h1]
    obtain ⟨e1, e2⟩ := k2_inj.mp h1
    subst e1 e2
    simp
  · rw [if_neg h1]
    have n1 : ¬ (b, a) = (x, y) := fun z => h1 (k2_inj.mpr ⟨(Prod.mk.inj z).2, (Prod.mk.inj z).1⟩)
    by_cases h2 : k2 a b = k2 x y
    · rw [if_pos h2]
      obtain ⟨e1, e2⟩ := k2_inj.mp h2
      subst e1 e2
      simp
    · rw [if_neg h2]
      have n2 : ¬ (a, b) = (x, y) := fun z => h2 (k2_inj.mpr ⟨(Prod.mk.inj z).1, (Prod.mk.inj z).2⟩)
      simp [n1, n2]

/-! ### places, words -/
def optW (c : Bool) (w : Str) : List Str := if c = true then [w] else []
def lfpV : Option Nat → V
  | none => .non
  | some k => .int k
theorem inV_strs (x : Str) (xs : List Str) : inV (.str x) (xs.map V.str) = decide (x ∈ xs) := by
  unfold inV
  rw [List.any_map]
  induction xs with
  | nil => rfl
  | cons y r ih =>
    rw [List.any_cons, ih]
    show ((y == x) || _) = _
    by_cases h : y = x
    · subst h
      simp
    · have h' : ¬ x = y := fun z => h z.symm
      simp [h, h']
theorem lastP_lt {α : Type} {p : α → Bool} {l : List α} {k : Nat} (h : lastP p l = some k) : k < l.length := by
  obtain ⟨x, hx, _⟩ := lastP_some h
  exact (List.getElem?_eq_some_iff.mp hx).1
def btw (i j : Nat) : Option Nat → Bool
  | none => false
  | some k => decide (k < j) && decide (j < i)
/-- the words by which one, at place i, bars other, at place j -/
def wordsOf (ps : List (Str × Str)) (row : List Str) (one other : Str) (i j : Nat) : List Str :=
  optW (decide (lastP (frd ps one) (row.take i) = none) && decide (i < j)) "behind" ++
  optW (btw i j (lastP (frd ps one) (row.take i))) "between" ++
  optW (decide (i < j) && frd ps one other) "friend"
/-! ### index -/
section
variable {X : Cx}
def rIdxL : V → List V → Hp → VK → Prop := fun x xs H Q => ∃ (a : Addr) (ys : List Str) (z : Str) (j : Nat), x = .ref a ∧ xs = [.str z] ∧ H a = some (.lst (ys.map V.str)) ∧ ys[j]? = some z ∧ (∀ m, m < j → ys[m]? ≠ some z) ∧ Q (.int (j : Nat)) H
theorem mt_idxL : MtR X "list.index" rIdxL := by
  intro pins s σ H x xs v us Q I rx rs h
  obtain ⟨a, ys, z, j, rfl, rfl, ha, hj, hno, q⟩ := h
  refine mt_index pins s σ H _ _ v us Q I rx rs ⟨a, ys.map V.str, .str z, j, .str z, rfl, rfl, .inl (.inl ha), rfl, flat_strs ys, ix_map hj, ?_, fun m z' hm hz' => ?_, q⟩
  · show (z == z) = true
    exact beq_self_eq_true z
  · obtain ⟨y, hy, rfl⟩ := at_map hz'
    show (y == z) = false
    exact beq_eq_false_iff_ne.mpr fun e => hno m hm (by rw [hy, e])
end
theorem nd_first {row : List Str} {i : Nat} {x : Str} (hd : row.Nodup) (h : row[i]? = some x) : ∀ m, m < i → row[m]? ≠ some x := fun m hm e => by
  have := nd_ix hd h e
  omega

/-! ### promises of the program -/
def spBoth : Sp := fun vs H Q _ => ∃ (a : Addr) (ps : List (Str × Str)), vs = [.ref a] ∧ FrAt H a ps ∧ ps.length ≤ 1000 ∧ ∀ d H', Same H H' → H d = none → KnAt H' d ps → Q (.ref d) H'
def spLfp : Sp := fun vs H Q _ => ∃ (d r : Addr) (ps : List (Str × Str)) (row : List Str) (who : Str), vs = [.ref d, .ref r, .str who] ∧ KnAt H d ps ∧ RowAt H r row ∧ row.length ≤ 100 ∧
  ∀ H', Same H H' → Q (lfpV (lastP (frd ps who) row)) H'
/-! ### .. and of the law's own words -/
def spRight : Sp := fun vs H Q _ => ∃ b : Addr, vs = [.ref b] ∧ IsBox H b ∧ ∀ H', Oth b H H' → Q (.bl true) H'
def spLaw (K : PySem.W.Frag) : Sp := fun vs H Q _ => ∃ (a : Addr) (ns : List Int), vs = [.ref a] ∧ SqL K H a (ns.map V.int) ∧ ns.length ≤ 63 ∧ ∀ H', Q (.bl true) H'
/-! ### calls by keywords that stand in the parameters' order turned about -/
/-- no positional ones, the keywords turned about -/
def gRev {α : Type} : List α → List α → List α
  | [], ws => ws.reverse
  | _ :: _, _ => []
end Lk
set_option maxRecDepth 100000
set_option maxHeartbeats 4000000
namespace Lk
open PySem PySem.Spec PyProof.Rows L2

/-! ### who can have come last -/
theorem lastP_append {α : Type} (p : α → Bool) (b : List α) : ∀ a : List α, lastP p (a ++ b) = match lastP p b with | some k => some (a.length + k) | none => lastP p a
  | [] => by
    show lastP p b = _
    cases lastP p b with
    | none => rfl
    | some k => simp
  | x :: a => by
    have ih := lastP_append p b a
    show (match lastP p (a ++ b) with | some k => some (k + 1) | none => if p x then some 0 else none) = _
    rw [ih]
    cases lastP p b with
    | none => rfl
    | some k =>
      show some (a.length + k + 1) = some ((x :: a).length + k)
      rw [List.length_cons]
      congr 1
      omega
/-- the one at place i is loose -/
def looseB (ps : List (Str × Str)) (row : List Str) (i : Nat) (x : Str) : Bool := match lastP (frd ps x) row with
  | none => decide (i + 1 = row.length)
  | some k => decide (k + 1 = i)
theorem split_at {α : Type} {row : List α} {i : Nat} {x : α} (h : row[i]? = some x) : row = row.take i ++ x :: row.drop (i + 1) := by
  have hi : i < row.length := (List.getElem?_eq_some_iff.mp h).1
  have e := List.getElem?_eq_getElem hi
  rw [h] at e
  have e2 : x = row[i] := Option.some.inj e
  rw [e2, ← List.drop_eq_getElem_cons hi, List.take_append_drop]
theorem ins_eq {α : Type} {a b : List α} {x : α} {s : Nat} (hx : x ∉ a ++ b) (hs : s ≤ (a ++ b).length) (h : (a ++ b).take s ++ [x] ++ (a ++ b).drop s = a ++ x :: b) : s = a.length := by
  have e1 : ((a ++ b).take s ++ [x] ++ (a ++ b).drop s)[s]? = some x := by
    rw [List.append_assoc, List.getElem?_append_right (by rw [List.length_take]; omega), List.length_take, Nat.min_eq_left hs, Nat.sub_self]
    rfl
  rw [h] at e1
  by_cases h1 : s < a.length
  · rw [List.getElem?_append_left h1] at e1
    exact absurd (List.mem_append_left b (List.mem_of_getElem? e1)) hx
  · rw [List.getElem?_append_right (by omega)] at e1
    cases h2 : s - a.length with
    | zero => omega
    | succ m =>
      rw [h2, List.getElem?_cons_succ] at e1
      exact absurd (List.mem_append_right a (List.mem_of_getElem? e1)) hx
theorem loose_iff {ps : List (Str × Str)} {row : List Str} {i : Nat} {x : Str} (hd : row.Nodup) (h : row[i]? = some x) (irr : frd ps x x = false) :
    decide (comeTo ps (row.take i ++ row.drop (i + 1)) x = row) = looseB ps row i x := by
  have hi : i < row.length := (List.getElem?_eq_some_iff.mp h).1
  have sp := split_at h
  generalize ha : row.take i = a at sp
  generalize hb : row.drop (i + 1) = b at sp
  have la : a.length = i := by
    rw [← ha, List.length_take]
    omega
  have nx : x ∉ a ++ b := by
    rw [sp] at hd
    have q : (x :: (a ++ b)).Nodup := (List.perm_middle.nodup_iff).mp hd
    exact (List.nodup_cons.mp q).1
  have lr : row.length = a.length + b.length + 1 := by
    rw [sp, List.length_append, List.length_cons]
    omega
  have key : comeTo ps (a ++ b) x = row ↔ spotOf ps (a ++ b) x = i := by
    constructor
    · intro e
      rw [← la]
      refine ins_eq (s := spotOf ps (a ++ b) x) nx ?_ (e.trans sp)
      unfold spotOf
      split
      · rename_i k ek
        have := lastP_lt ek
        omega
      · exact Nat.le_refl _
    · intro e
      unfold comeTo
      rw [e, ← la, List.take_left' rfl, List.drop_left' rfl, List.append_assoc]
      exact sp.symm
  have e1 : lastP (frd ps x) (x :: b) = (lastP (frd ps x) b).map (· + 1) := by
    show (match lastP (frd ps x) b with | some k => some (k + 1) | none => if frd ps x x then some 0 else none) = _
    rw [irr]
    cases lastP (frd ps x) b <;> rfl
  have e2 : lastP (frd ps x) row = match lastP (frd ps x) (x :: b) with | some k => some (a.length + k) | none => lastP (frd ps x) a := by
    rw [← lastP_append, ← sp]
  have e3 := lastP_append (frd ps x) b a
  rw [e1] at e2
  have fin : (spotOf ps (a ++ b) x = i) ↔ looseB ps row i x = true := by
    unfold looseB spotOf
    rw [e2, e3]
    cases lastP (frd ps x) b with
    | some k =>
      show (a.length + k + 1 = i) ↔ decide (a.length + (k + 1) + 1 = i) = true
      rw [decide_eq_true_eq]
      omega
    | none =>
      cases lastP (frd ps x) a with
      | some k =>
        show (k + 1 = i) ↔ decide (k + 1 = i) = true
        rw [decide_eq_true_eq]
      | none =>
        show ((a ++ b).length = i) ↔ decide (i + 1 = row.length) = true
        rw [decide_eq_true_eq, List.length_append]
        omega
  cases c : looseB ps row i x with
  | true => exact decide_eq_true (key.mpr (fin.mpr c))
  | false => exact decide_eq_false (fun z => by rw [fin.mp (key.mp z)] at c; cases c)
/-- all that are loose, in the row's order -/
def looseL (ps : List (Str × Str)) (row : List Str) : List Str := (row.zipIdx.filter fun p => looseB ps row p.2 p.1).map (·.1)
def looseTo (ps : List (Str × Str)) (row : List Str) (n : Nat) : List Str := ((row.zipIdx.take n).filter fun p => looseB ps row p.2 p.1).map (·.1)
theorem looseTo_step {ps : List (Str × Str)} {row : List Str} {i : Nat} {x : Str} (h : row[i]? = some x) : looseTo ps row (i + 1) = looseTo ps row i ++ if looseB ps row i x = true then [x] else [] := by
  have e : row.zipIdx[i]? = some (x, i) := by
    rw [List.getElem?_zipIdx, h]
    simp
  unfold looseTo
  rw [List.take_add_one, e, List.filter_append, List.map_append]
  show _ ++ List.map (·.1) (List.filter _ [(x, i)]) = _
  rw [List.filter_cons, List.filter_nil]
  show _ ++ List.map (·.1) (if looseB ps row i x = true then [(x, i)] else []) = _
  by_cases c : looseB ps row i x = true
  · rw [if_pos c, if_pos c]
    rfl
  · rw [if_neg c, if_neg c]
    rfl
theorem looseTo_all (ps : List (Str × Str)) (row : List Str) : looseTo ps row row.length = looseL ps row := by
  unfold looseTo looseL
  rw [List.take_of_length_le (by rw [List.length_zipIdx]; exact Nat.le_refl _)]
theorem looseL_mem {ps : List (Str × Str)} {row : List Str} {i : Nat} {x : Str} (hd : row.Nodup) (h : row[i]? = some x) : decide (x ∈ looseL ps row) = looseB ps row i x := by
  unfold looseL
  have e : (x ∈ (row.zipIdx.filter fun p => looseB ps row p.2 p.1).map (·.1)) ↔ looseB ps row i x = true := by
    constructor
    · intro m
      obtain ⟨⟨y, j⟩, hp, rfl⟩ := List.mem_map.mp m
      obtain ⟨h1, h2⟩ := List.mem_filter.mp hp
      have h3 : row[j]? = some y := by
        have q := List.mem_zipIdx_iff_getElem?.mp h1
        exact q
      have ej := nd_ix hd h3 h
      rw [← ej]
      exact h2
    · intro c
      refine List.mem_map.mpr ⟨(x, i), List.mem_filter.mpr ⟨?_, c⟩, rfl⟩
      exact List.mem_zipIdx_iff_getElem?.mpr h
  cases c : looseB ps row i x with
  | true => exact decide_eq_true (e.mpr c)
  | false => exact decide_eq_false (fun z => by rw [e.mp z] at c; cases c)

/-! ### promises -/
def spLooseAt : Sp := fun vs H Q _ => ∃ (d r : Addr) (ps : List (Str × Str)) (row : List Str) (x : Str) (i : Nat), vs = [.ref d, .ref r, .int i] ∧ KnAt H d ps ∧ RowAt H r row ∧ row.length ≤ 100 ∧ row[i]? = some x ∧
  ∀ H', Same H H' → Q (.bl (looseB ps row i x)) H'
def spLoose : Sp := fun vs H Q _ => ∃ (a t : Addr) (ps : List (Str × Str)) (stand : List Str) (x : Str) (i : Nat), vs = [.ref a, .ref t, .str x] ∧ PalsAt H a ps ∧ PalsOk ps ∧ frd ps x x = false ∧ TupAt H t (stand.map V.str) ∧ Goods stand ∧ stand.Nodup ∧ stand.length ≤ 100 ∧ stand[i]? = some x ∧
  ∀ H', Same H H' → Q (.bl (looseB ps stand i x)) H'
end Lk
set_option maxRecDepth 100000
set_option maxHeartbeats 4000000
namespace Lk
open PySem PySem.Spec PyProof.Rows L2

/-! ### whichever go, the same are left -/
def LooseP (ps : List (Str × Str)) (a b : List Str) (x : Str) : Prop :=
  (∀ y ∈ b, frd ps x y = false) ∧ ((∃ a' f, a = a' ++ [f] ∧ frd ps x f = true) ∨ ((∀ y ∈ a, frd ps x y = false) ∧ b = []))
theorem lastP_no {α : Type} {p : α → Bool} {l : List α} : lastP p l = none ↔ ∀ y ∈ l, p y = false := by
  rw [lastP_nil]
  constructor
  · intro h y hy
    cases c : p y with
    | false => rfl
    | true =>
      have m : y ∈ l.filter p := List.mem_filter.mpr ⟨hy, c⟩
      rw [h] at m
      cases m
  · intro h
    refine List.filter_eq_nil_iff.mpr fun y hy => ?_
    rw [h y hy]
    exact Bool.false_ne_true
theorem lastP_end {α : Type} {p : α → Bool} {l : List α} {k : Nat} (h : lastP p l = some k) (e : k + 1 = l.length) : ∃ l' f, l = l' ++ [f] ∧ p f = true := by
  obtain ⟨f, h1, h2, _⟩ := lastP_some h
  refine ⟨l.take k, f, ?_, h2⟩
  have q := split_at h1
  rw [List.drop_eq_nil_of_le (by omega)] at q
  exact q
theorem looseB_iff {ps : List (Str × Str)} {row a b : List Str} {x : Str} (h : row = a ++ x :: b) (irr : frd ps x x = false) : looseB ps row a.length x = true ↔ LooseP ps a b x := by
  have e1 : lastP (frd ps x) (x :: b) = (lastP (frd ps x) b).map (· + 1) := by
    show (match lastP (frd ps x) b with | some k => some (k + 1) | none => if frd ps x x then some 0 else none) = _
    rw [irr]
    cases lastP (frd ps x) b <;> rfl
  have e2 : lastP (frd ps x) row = match lastP (frd ps x) (x :: b) with | some k => some (a.length + k) | none => lastP (frd ps x) a := by
    rw [h]
    exact lastP_append (frd ps x) (x :: b) a
  rw [e1] at e2
  have lr : row.length = a.length + b.length + 1 := by
    rw [h, List.length_append, List.length_cons]
    omega
  unfold looseB LooseP
  rw [e2]
  cases eb : lastP (frd ps x) b with
  | some k =>
    obtain ⟨f, h1, h2, _⟩ := lastP_some eb
    show decide (a.length + (k + 1) + 1 = a.length) = true ↔ _
    rw [decide_eq_true_eq]
    constructor
    · intro z
      omega
    · rintro ⟨z, _⟩
      rw [z f (List.mem_of_getElem? h1)] at h2
      cases h2
  | none =>
    have nb := lastP_no.mp eb
    cases ea : lastP (frd ps x) a with
    | some k =>
      show decide (k + 1 = a.length) = true ↔ _
      rw [decide_eq_true_eq]
      obtain ⟨f, h1, h2, h3⟩ := lastP_some ea
      constructor
      · intro z
        exact ⟨nb, .inl (lastP_end ea z)⟩
      · rintro ⟨_, ⟨a', f', rfl, z⟩ | ⟨z, _⟩⟩
        · rw [List.length_append]
          show k + 1 = a'.length + 1
          have hk := (List.getElem?_eq_some_iff.mp h1).1
          rw [List.length_append] at hk
          have hk' : k < a'.length + 1 := hk
          by_cases c : k < a'.length
          · have q := h3 a'.length f' c (by simp)
            rw [q] at z
            cases z
          · omega
        · rw [z f (List.mem_of_getElem? h1)] at h2
          cases h2
    | none =>
      have na := lastP_no.mp ea
      show decide (a.length + 1 = row.length) = true ↔ _
      rw [decide_eq_true_eq]
      constructor
      · intro z
        exact ⟨nb, .inr ⟨na, List.length_eq_zero_iff.mp (by omega)⟩⟩
      · rintro ⟨_, ⟨a', f', rfl, z⟩ | ⟨_, z⟩⟩
        · rw [na f' (by simp)] at z
          cases z
        · rw [z] at lr
          simpa using lr.symm
def LooseIn (ps : List (Str × Str)) (row : List Str) (x : Str) : Prop := ∃ a b, row = a ++ x :: b ∧ LooseP ps a b x
def Irr (ps : List (Str × Str)) : Prop := ∀ x, frd ps x x = false
def rem (row : List Str) (x : Str) : List Str := row.filter fun y => !decide (y = x)
theorem rem_split {a b : List Str} {x : Str} (hd : (a ++ x :: b).Nodup) : rem (a ++ x :: b) x = a ++ b := by
  have q : (x :: (a ++ b)).Nodup := (List.perm_middle.nodup_iff).mp hd
  have nx := (List.nodup_cons.mp q).1
  unfold rem
  rw [List.filter_append, List.filter_cons]
  have e1 : a.filter (fun y => !decide (y = x)) = a := List.filter_eq_self.mpr fun y hy => by
    have : ¬ y = x := fun z => nx (List.mem_append_left b (z ▸ hy))
    simp [this]
  have e2 : b.filter (fun y => !decide (y = x)) = b := List.filter_eq_self.mpr fun y hy => by
    have : ¬ y = x := fun z => nx (List.mem_append_right a (z ▸ hy))
    simp [this]
  rw [e1, e2]
  simp
theorem rem_nodup {row : List Str} {x : Str} (hd : row.Nodup) : (rem row x).Nodup := hd.filter _
theorem rem_comm (row : List Str) (x y : Str) : rem (rem row x) y = rem (rem row y) x := by
  unfold rem
  rw [List.filter_filter, List.filter_filter]
  refine List.filter_congr fun z _ => ?_
  exact Bool.and_comm _ _
theorem rem_len {row : List Str} {x : Str} (hd : row.Nodup) (hx : x ∈ row) : (rem row x).length + 1 = row.length := by
  obtain ⟨a, b, rfl⟩ := List.append_of_mem hx
  rw [rem_split hd, List.length_append, List.length_append, List.length_cons]
  omega
theorem LooseIn.mem {ps : List (Str × Str)} {row : List Str} {x : Str} (h : LooseIn ps row x) : x ∈ row := by
  obtain ⟨a, b, rfl, _⟩ := h
  simp
theorem split_uniq {row a b c d : List Str} {x : Str} (hd : row.Nodup) (h1 : row = a ++ x :: b) (h2 : row = c ++ x :: d) : a = c ∧ b = d := by
  have e1 : row[a.length]? = some x := by rw [h1]; simp
  have e2 : row[c.length]? = some x := by rw [h2]; simp
  have l := nd_ix hd e1 e2
  have e := h1.symm.trans h2
  have q := List.append_inj e l
  exact ⟨q.1, (List.cons.inj q.2).2⟩
theorem looseL_iff {ps : List (Str × Str)} {row : List Str} {x : Str} (irr : Irr ps) (hd : row.Nodup) : x ∈ looseL ps row ↔ LooseIn ps row x := by
  constructor
  · intro h
    have hx : x ∈ row := by
      unfold looseL at h
      obtain ⟨⟨y, j⟩, hp, rfl⟩ := List.mem_map.mp h
      exact List.mem_of_getElem? (List.mem_zipIdx_iff_getElem?.mp (List.mem_filter.mp hp).1)
    obtain ⟨a, b, e⟩ := List.append_of_mem hx
    have ei : row[a.length]? = some x := by rw [e]; simp
    have q := looseL_mem (ps := ps) hd ei
    rw [decide_eq_true h] at q
    exact ⟨a, b, e, (looseB_iff e (irr x)).mp q.symm⟩
  · rintro ⟨a, b, e, h⟩
    have ei : row[a.length]? = some x := by rw [e]; simp
    have q := looseL_mem (ps := ps) hd ei
    rw [(looseB_iff e (irr x)).mpr h] at q
    exact of_decide_eq_true q
/-- the lemma: of two that are loose each is so without the other -/
theorem diamond {ps : List (Str × Str)} {row : List Str} {x y : Str} (hd : row.Nodup) (hx : LooseIn ps row x) (hy : LooseIn ps row y) (ne : x ≠ y) : LooseIn ps (rem row y) x := by
  obtain ⟨a, b, e, h1, h2⟩ := hx
  have my : y ∈ row := hy.mem
  obtain ⟨c, d, e', g1, g2⟩ := hy
  have my' : y ∈ a ∨ y ∈ b := by
    rw [e] at my
    rcases List.mem_append.mp my with z | z
    · exact .inl z
    · rcases List.mem_cons.mp z with z | z
      · exact absurd z.symm ne
      · exact .inr z
  rcases my' with m | m
  · obtain ⟨a1, a2, rfl⟩ := List.append_of_mem m
    have e2 : row = a1 ++ y :: (a2 ++ x :: b) := by rw [e]; simp
    have er : rem row y = (a1 ++ a2) ++ x :: b := by
      rw [e2, rem_split (by rw [← e2]; exact hd)]
      simp
    refine ⟨a1 ++ a2, b, er, h1, ?_⟩
    obtain ⟨_, u2⟩ := split_uniq hd e2 e'
    rcases h2 with ⟨a', f, ea, hf⟩ | ⟨na, nb⟩
    · rcases List.eq_nil_or_concat a2 with z | ⟨l, g, z⟩
      · subst z
        have q := List.append_inj' ea (by rfl)
        have ey : y = f := (List.cons.inj q.2).1
        have bad := g1 x (by rw [← u2]; simp)
        rw [frd_comm, ey, hf] at bad
        cases bad
      · rw [List.concat_eq_append] at z
        subst z
        have ea' : (a1 ++ y :: l) ++ [g] = a' ++ [f] := by rw [← ea]; simp
        have q := List.append_inj' ea' rfl
        have eg : g = f := (List.cons.inj q.2).1
        exact .inl ⟨a1 ++ l, g, by simp, by rw [eg]; exact hf⟩
    · exact .inr ⟨fun z hz => na z (by
        rcases List.mem_append.mp hz with w | w
        · exact List.mem_append_left _ w
        · exact List.mem_append_right _ (List.mem_cons_of_mem _ w)), nb⟩
  · obtain ⟨b1, b2, rfl⟩ := List.append_of_mem m
    have e2 : row = (a ++ x :: b1) ++ y :: b2 := by rw [e]; simp
    have er : rem row y = a ++ x :: (b1 ++ b2) := by
      rw [e2, rem_split (by rw [← e2]; exact hd)]
      simp
    refine ⟨a, b1 ++ b2, er, fun z hz => h1 z (by
        rcases List.mem_append.mp hz with w | w
        · exact List.mem_append_left _ w
        · exact List.mem_append_right _ (List.mem_cons_of_mem _ w)), ?_⟩
    rcases h2 with h | ⟨_, z⟩
    · exact .inl h
    · exact absurd z (by simp)
/-- one behind the other, loose ones that needn't stay go -/
inductive Red (ps : List (Str × Str)) (stay : List Str) : List Str → List Str → Prop where
  | done (row : List Str) : Red ps stay row row
  | go {row n : List Str} (x : Str) (h : LooseIn ps row x) (hs : x ∉ stay) (t : Red ps stay (rem row x) n) : Red ps stay row n
def Nf (ps : List (Str × Str)) (stay row : List Str) : Prop := ∀ x, LooseIn ps row x → x ∈ stay
theorem Red.swap {ps : List (Str × Str)} {stay row n : List Str} (h : Red ps stay row n) : row.Nodup → Nf ps stay n → ∀ x, LooseIn ps row x → x ∉ stay → Red ps stay (rem row x) n := by
  induction h with
  | done row => intro _ hn x hx hs; exact absurd (hn x hx) hs
  | @go row n y hy ys t ih =>
    intro hd hn x hx hs
    by_cases e : x = y
    · subst e
      exact t
    · have h1 := diamond hd hx hy e
      have h2 := diamond hd hy hx (fun z => e z.symm)
      have q := ih (rem_nodup hd) hn x h1 hs
      rw [rem_comm] at q
      exact .go y h2 ys q
theorem Red.uniq {ps : List (Str × Str)} {stay row n : List Str} (h : Red ps stay row n) : row.Nodup → Nf ps stay n → ∀ m, Red ps stay row m → Nf ps stay m → n = m := by
  induction h with
  | done row =>
    intro _ hn m hm _
    cases hm with
    | done _ => rfl
    | go x hx hs _ => exact absurd (hn x hx) hs
  | @go row n y hy ys t ih =>
    intro hd hn m hm hnm
    exact ih (rem_nodup hd) hn m (hm.swap hd hnm y hy ys) hnm
theorem Red.trans {ps : List (Str × Str)} {stay row n m : List Str} (h : Red ps stay row n) : Red ps stay n m → Red ps stay row m := by
  induction h with
  | done row => exact fun q => q
  | go x hx hs _ ih => exact fun q => .go x hx hs (ih q)
/-- who comes is loose -/
theorem come_loose (ps : List (Str × Str)) (stand : List Str) (x : Str) : LooseIn ps (comeTo ps stand x) x := by
  refine ⟨stand.take (spotOf ps stand x), stand.drop (spotOf ps stand x), by unfold comeTo; simp, ?_, ?_⟩
  · intro y hy
    unfold spotOf at hy
    cases e : lastP (frd ps x) stand with
    | none =>
      rw [e] at hy
      exact lastP_no.mp e y (List.mem_of_mem_drop hy)
    | some k =>
      rw [e] at hy
      obtain ⟨f, h1, h2, h3⟩ := lastP_some e
      obtain ⟨j, hj⟩ := List.mem_iff_getElem?.mp hy
      rw [List.getElem?_drop] at hj
      exact h3 _ y (by show k < k + 1 + j; omega) hj
  · unfold spotOf
    cases e : lastP (frd ps x) stand with
    | none =>
      refine .inr ⟨fun y hy => lastP_no.mp e y (List.mem_of_mem_take hy), ?_⟩
      show stand.drop stand.length = []
      exact List.drop_length
    | some k =>
      obtain ⟨f, h1, h2, h3⟩ := lastP_some e
      refine .inl ⟨stand.take k, f, ?_, h2⟩
      show stand.take (k + 1) = _
      rw [List.take_add_one, h1]
      rfl
theorem come_rem {ps : List (Str × Str)} {stand : List Str} {x : Str} (hd : (x :: stand).Nodup) : rem (comeTo ps stand x) x = stand := by
  have e : comeTo ps stand x = stand.take (spotOf ps stand x) ++ x :: stand.drop (spotOf ps stand x) := by
    unfold comeTo
    simp
  have hn : (comeTo ps stand x).Nodup := (come_perm ps stand x).nodup_iff.mpr hd
  rw [e] at hn ⊢
  rw [rem_split hn, List.take_append_drop]
theorem stand_snoc {ps : List (Str × Str)} {o : List Str} (h : o ≠ []) : ∃ o' x, o = o' ++ [x] ∧ standOf ps o = comeTo ps (standOf ps o') x := by
  rcases List.eq_nil_or_concat o with z | ⟨l, x, z⟩
  · exact absurd z h
  · rw [List.concat_eq_append] at z
    exact ⟨l, x, z, by rw [z, standOf_app]⟩
theorem stand_red {ps : List (Str × Str)} : ∀ (n : Nat) (o : List Str), o.length = n → o.Nodup → Red ps [] (standOf ps o) []
  | 0, o, h, _ => by
    have e : o = [] := List.length_eq_zero_iff.mp h
    subst e
    exact .done []
  | n + 1, o, h, hd => by
    obtain ⟨o', x, rfl, e2⟩ := stand_snoc (ps := ps) (o := o) (fun z => by rw [z] at h; cases h)
    rw [List.length_append] at h
    have h' : o'.length = n := by
      have : o'.length + 1 = n + 1 := h
      omega
    have hd' : (x :: o').Nodup := ((List.perm_append_singleton x o').nodup_iff).mp hd
    have hs : (x :: standOf ps o').Nodup := ((stand_perm ps o').cons x).nodup_iff.mpr hd'
    rw [e2]
    refine .go x (come_loose ps _ x) (fun z => nomatch z) ?_
    rw [come_rem hs]
    exact stand_red n o' h' (List.nodup_cons.mp hd').2
/-- who is loose, taken out, comes in there again -/
theorem loose_come {ps : List (Str × Str)} {row : List Str} {x : Str} (irr : Irr ps) (hd : row.Nodup) (h : LooseIn ps row x) : comeTo ps (rem row x) x = row := by
  obtain ⟨a, b, e, hp⟩ := h
  have ei : row[a.length]? = some x := by rw [e]; simp
  have q := loose_iff (ps := ps) hd ei (irr x)
  rw [(looseB_iff e (irr x)).mpr hp] at q
  have z := of_decide_eq_true q
  have er : rem row x = row.take a.length ++ row.drop (a.length + 1) := by
    rw [e, rem_split (by rw [← e]; exact hd)]
    simp
  rw [er]
  exact z
/-! ### two more comparisons -/
section
variable {X : Cx}
def rNeT : R2 := fun x y H Q => ∃ (a b : Addr) (xs ys : List Str), x = .ref a ∧ y = .ref b ∧ TupAt H a (xs.map V.str) ∧ TupAt H b (ys.map V.str) ∧ Goods xs ∧ Goods ys ∧ Q (.bl (!decide (xs = ys))) H
theorem op_neT (hu : X.A.units + 64 < cLine) : OpR X (compareOp .NotEq) rNeT := by
  intro pins s σ H x y v u Q I rx ry h
  obtain ⟨a, b, xs, ys, rfl, rfl, ha, hb, g1, g2, q⟩ := h
  refine op_neD hu pins s σ H _ _ v u Q I rx ry ⟨_, _, .tup ha.sq (dp_strs xs), .tup hb.sq (dp_strs ys), sh_tuple g1, sh_tuple g2, ?_⟩
  have e : PyData.eqv (.tuple (xs.map .str)) (.tuple (ys.map .str)) = decide (xs = ys) := by
    rw [PyData.eqv, eqv_strs]
  rw [e]
  exact q
end
theorem Goods.rem {xs : List Str} {x : Str} (h : Goods xs) : Goods (Lk.rem xs x) := h.filter
theorem looseL_sub {ps : List (Str × Str)} {row : List Str} {x : Str} (h : x ∈ looseL ps row) : x ∈ row := by
  unfold looseL at h
  obtain ⟨⟨y, j⟩, hp, rfl⟩ := List.mem_map.mp h
  exact List.mem_of_getElem? (List.mem_zipIdx_iff_getElem?.mp (List.mem_filter.mp hp).1)
theorem nf_nil (ps : List (Str × Str)) : Nf ps [] [] := fun x hx => by
  obtain ⟨a, b, e, _⟩ := hx
  exact absurd e (by simp)

/-! ### promises -/
end Lk
set_option maxRecDepth 100000
set_option maxHeartbeats 4000000
namespace Lk
open PySem PySem.Spec PyProof.Rows L2

/-! ### how many that came later stand ahead -/
abbrev B3N := Addr × Str × Nat
def refsN (qs : List B3N) : List V := qs.map fun q => V.ref q.1
def PairsN (H : Hp) (qs : List B3N) : Prop := ∀ q ∈ qs, H q.1 = some (.tup [.str q.2.1, .int q.2.2])
theorem PairsN.same {H H' : Hp} {qs : List B3N} (s : Same H H') (h : PairsN H qs) : PairsN H' qs := fun b hb => s _ _ (h b hb)
theorem PairsN.oth {H H' : Hp} {b : Addr} {qs : List B3N} (s : Oth b H H') (hb : IsBox H b) (h : PairsN H qs) : PairsN H' qs := fun c hc => s _ _ (hb.ne_tup (h c hc)) (h c hc)
theorem PairsN.upd_ {H : Hp} {l : Addr} {ys : List V} {o' : HO} {qs : List B3N} (hl : H l = some (.lst ys)) (h : PairsN H qs) : PairsN (upd H l o') qs := fun c hc => (upd_ne (ne_of (h c hc) hl (fun z => nomatch z))).trans (h c hc)
theorem idx_at {order : List Str} {i : Nat} {x : Str} (hd : order.Nodup) (h : order[i]? = some x) : order.idxOf x = i := by
  have hx : x ∈ order := List.mem_of_getElem? h
  have hl : order.idxOf x < order.length := List.idxOf_lt_length_iff.mpr hx
  have e : order[order.idxOf x]? = some x := by
    rw [List.getElem?_eq_getElem hl, List.getElem_idxOf]
  exact nd_ix hd e h
/-! ### a walk's dict comprehension -/
/-! ### promises -/
end Lk
set_option maxRecDepth 100000
set_option maxHeartbeats 4000000
namespace Lk
open PySem PySem.Spec PyProof.Rows L2

/-! ### who goes, one after another: the hindmost one first -/
def someTo (ps : List (Str × Str)) (stay row : List Str) (n : Nat) : List Str := (looseTo ps row n).filter fun x => !decide (x ∈ stay)
def someL (ps : List (Str × Str)) (stay row : List Str) : List Str := (looseL ps row).filter fun x => !decide (x ∈ stay)
theorem someTo_all (ps : List (Str × Str)) (stay row : List Str) : someTo ps stay row row.length = someL ps stay row := by
  unfold someTo someL
  rw [looseTo_all]
theorem someTo_step {ps : List (Str × Str)} {stay row : List Str} {i : Nat} {x : Str} (h : row[i]? = some x) : someTo ps stay row (i + 1) = someTo ps stay row i ++ if (!decide (x ∈ stay) && looseB ps row i x) = true then [x] else [] := by
  unfold someTo
  rw [looseTo_step h, List.filter_append]
  congr 1
  by_cases c : looseB ps row i x = true
  · rw [if_pos c, c, Bool.and_true, List.filter_cons, List.filter_nil]
  · rw [if_neg c]
    simp [c]
theorem someL_sub {ps : List (Str × Str)} {stay row : List Str} {x : Str} (h : x ∈ someL ps stay row) : x ∈ looseL ps row ∧ x ∉ stay := by
  obtain ⟨h1, h2⟩ := List.mem_filter.mp h
  refine ⟨h1, ?_⟩
  simpa using h2
theorem someL_in {ps : List (Str × Str)} {stay row : List Str} {x : Str} (h : x ∈ looseL ps row) (hs : x ∉ stay) : x ∈ someL ps stay row :=
  List.mem_filter.mpr ⟨h, by simpa using hs⟩
def goneN (ps : List (Str × Str)) (stay : List Str) : Nat → List Str → List Str × List Str
  | 0, row => ([], row)
  | n + 1, row => match (someL ps stay row).getLast? with
    | none => ([], row)
    | some x => (x :: (goneN ps stay n (rem row x)).1, (goneN ps stay n (rem row x)).2)
def goneO (ps : List (Str × Str)) (stay row : List Str) : List Str := (goneN ps stay row.length row).1
def goneR (ps : List (Str × Str)) (stay row : List Str) : List Str := (goneN ps stay row.length row).2
theorem gone_none {ps : List (Str × Str)} {stay row : List Str} (h : someL ps stay row = []) : goneO ps stay row = [] ∧ goneR ps stay row = row := by
  unfold goneO goneR
  cases row.length with
  | zero => exact ⟨rfl, rfl⟩
  | succ n =>
    unfold goneN
    rw [h]
    exact ⟨rfl, rfl⟩
theorem last_mem {α : Type} {l : List α} {x : α} (h : l.getLast? = some x) : x ∈ l := by
  obtain ⟨ys, e⟩ := List.getLast?_eq_some_iff.mp h
  rw [e]
  simp
theorem gone_some {ps : List (Str × Str)} {stay row : List Str} {x : Str} (hd : row.Nodup) (h : (someL ps stay row).getLast? = some x) : goneO ps stay row = x :: goneO ps stay (rem row x) ∧ goneR ps stay row = goneR ps stay (rem row x) := by
  have hx := looseL_sub (someL_sub (last_mem h)).1
  have rl := rem_len hd hx
  unfold goneO goneR
  rw [← rl]
  show (goneN ps stay ((rem row x).length + 1) row).1 = _ ∧ _
  unfold goneN
  rw [h]
  cases (rem row x).length <;> exact ⟨rfl, rfl⟩
theorem gone_red {ps : List (Str × Str)} {stay : List Str} (irr : Irr ps) : ∀ (n : Nat) (row : List Str), row.length = n → row.Nodup → Red ps stay row (goneR ps stay row) ∧ Nf ps stay (goneR ps stay row) ∧ (goneO ps stay row).length ≤ n
  | n, row, hn, hd => by
    cases e : (someL ps stay row).getLast? with
    | none =>
      have e' := List.getLast?_eq_none_iff.mp e
      obtain ⟨g1, g2⟩ := gone_none e'
      rw [g1, g2]
      refine ⟨.done row, fun x hx => ?_, Nat.zero_le _⟩
      refine Classical.byContradiction fun c => ?_
      have := someL_in ((looseL_iff irr hd).mpr hx) c
      rw [e'] at this
      cases this
    | some x =>
      obtain ⟨g1, g2⟩ := gone_some hd e
      obtain ⟨m1, m2⟩ := someL_sub (last_mem e)
      have lx := (looseL_iff irr hd).mp m1
      have rl := rem_len hd lx.mem
      match n, hn with
      | 0, hn => omega
      | n + 1, hn =>
        obtain ⟨i1, i2, i3⟩ := gone_red irr n (rem row x) (by omega) (rem_nodup hd)
        rw [g1, g2]
        refine ⟨.go x lx m2 i1, i2, ?_⟩
        rw [List.length_cons]
        omega
theorem gone_uniq {ps : List (Str × Str)} {stay row m : List Str} (irr : Irr ps) (hd : row.Nodup) (h : Red ps stay row m) (hn : Nf ps stay m) : m = goneR ps stay row := by
  obtain ⟨r1, r2, _⟩ := gone_red (stay := stay) irr row.length row rfl hd
  exact h.uniq hd hn _ r1 r2
theorem Red.nodup {ps : List (Str × Str)} {stay row n : List Str} (h : Red ps stay row n) : row.Nodup → n.Nodup := by
  induction h with
  | done row => exact id
  | go x h hs t ih => exact fun hd => ih (rem_nodup hd)
theorem Red.len {ps : List (Str × Str)} {stay row n : List Str} (h : Red ps stay row n) : n.length ≤ row.length := by
  induction h with
  | done row => exact Nat.le_refl _
  | go x h hs t ih => exact Nat.le_trans ih (List.length_filter_le _ _)
theorem Red.sub {ps : List (Str × Str)} {stay row n : List Str} (h : Red ps stay row n) : ∀ y ∈ n, y ∈ row := by
  induction h with
  | done row => exact fun _ h => h
  | go x h hs t ih => exact fun y hy => (List.mem_filter.mp (ih y hy)).1
theorem erase_rem {row : List Str} {i : Nat} {x : Str} (hd : row.Nodup) (h : row[i]? = some x) : row.eraseIdx i = rem row x := by
  have e := split_at h
  have hi : i < row.length := (List.getElem?_eq_some_iff.mp h).1
  have e2 : rem row x = row.take i ++ row.drop (i + 1) := by
    rw [show rem row x = rem (row.take i ++ x :: row.drop (i + 1)) x by rw [← e]]
    exact rem_split (by rw [← e]; exact hd)
  rw [e2, List.eraseIdx_eq_take_drop_succ]
theorem erase_map {α : Type} (f : α → V) (xs : List α) (i : Nat) : (xs.map f).eraseIdx i = (xs.eraseIdx i).map f := by
  rw [List.eraseIdx_eq_take_drop_succ, List.eraseIdx_eq_take_drop_succ, List.map_append, List.map_take, List.map_drop]

/-! ### promises -/
def ButAt (K : PySem.W.Frag) (H : Hp) (p : Addr) (stay : List Str) : Prop := SqL K H p (stay.map V.str) ∨ SqT K H p (stay.map V.str)
def hindV (row : List Str) (out : Option Str) (v : V) : Prop := match out with
  | none => v = .non
  | some x => ∃ i : Nat, v = .int i ∧ row[i]? = some x
/-- the but list does not change -/
def ButKeeps (K : PySem.W.Frag) (H : Hp) (p : Addr) (stay : List Str) : Prop := ∀ H', Same H H' → ButAt K H' p stay
def spHind (K : PySem.W.Frag) : Sp := fun vs H Q _ => ∃ (d r p : Addr) (ps : List (Str × Str)) (row stay : List Str), vs = [.ref d, .ref r, .ref p] ∧ KnAt H d ps ∧ H r = some (.lst (row.map V.str)) ∧ row.length ≤ 100 ∧ (∀ H', Same H H' → ButAt K H' p stay) ∧
  ∀ v H', Same H H' → hindV row (someL ps stay row).getLast? v → Q v H'
def spStayed (K : PySem.W.Frag) : Sp := fun vs H Q _ => ∃ (d r p : Addr) (ps : List (Str × Str)) (row stay : List Str), vs = [.ref d, .ref r, .ref p] ∧ KnAt H d ps ∧ RowAt H r row ∧ row.Nodup ∧ row.length ≤ 100 ∧ (∀ H', Same H H' → ButAt K H' p stay) ∧
  ∀ T g t H', Same H H' → H g = none → H' T = some (.tup [.ref g, .ref t]) → H' g = some (.lst ((goneO ps stay row).map V.str)) → TupAt H' t ((goneR ps stay row).map V.str) → Q (.ref T) H'
def spGone (K : PySem.W.Frag) : Sp := fun vs H Q _ => ∃ (a r p : Addr) (ps : List (Str × Str)) (row stay : List Str), vs = [.ref a, .ref r, .ref p] ∧ FrAt H a ps ∧ ps.length ≤ 1000 ∧ RowAt H r row ∧ row.Nodup ∧ row.length ≤ 100 ∧ (∀ H', Same H H' → ButAt K H' p stay) ∧
  ∀ T g t H', Same H H' → H g = none → H' T = some (.tup [.ref g, .ref t]) → H' g = some (.lst ((goneO ps stay row).map V.str)) → TupAt H' t ((goneR ps stay row).map V.str) → Q (.ref T) H'
end Lk
set_option maxRecDepth 100000
set_option maxHeartbeats 4000000
namespace Lk
open PySem PySem.Spec PyProof.Rows L2
section
variable {X : Cx}
end
theorem PalsAt.upd_ {H : Hp} {l a : Addr} {ys : List V} {o' : HO} {ps : List (Str × Str)} (h : PalsAt H a ps) (hl : H l = some (.lst ys)) : PalsAt (upd H l o') a ps := by
  obtain ⟨bs, h1, h2, h3⟩ := h
  exact ⟨bs, (upd_ne (ne_of h1 hl (fun z => nomatch z))).trans h1, fun c hc => (upd_ne (ne_of (h2 c hc) hl (fun z => nomatch z))).trans (h2 c hc), h3⟩
/-! ### the law's own going -/
/-! ### a def with one keyword-only parameter that has a default -/
structure Cal3 (P : Program) (w : World) (K : PySem.W.Frag) (mg : Str → Option Value) (base : Heap) (k : Nat) (x : Str) (sp : Sp) (E : Addr) : Prop where
  ex : ∃ f fd, FnOk P w K mg base CX0 k f fd ["friends", "row", "but"] sp ∧ mg x = some (.ref f) ∧ PySem.W.keepIn K (.ref f) = true ∧ KBn K fd ["friends", "row", "but"] 2 ["but"] (fun us ws => us ++ ws) (fun vs zs => vs ++ zs) ∧ KBinds K fd ["friends", "row", "but"] ["but", "row", "friends"] gRev gRev ∧ (∃ ds, Vals [V.ref E] ds ∧ Binds K fd ["friends", "row", "but"] ds) ∧
    (∃ mv : List Value, KBn K fd ["friends", "row", "but"] 0 ["row", "friends"] (fun us ws => ws.reverse ++ mv) (fun vs zs => zs.reverse ++ [V.ref E]))
  emp : ∃ (o : Obj) (n : Nat), K.lookup E = some o ∧ o.cls = .type "tuple" ∧ o.data = .seq #[] n
theorem Cal3.but {P : Program} {w : World} {K : PySem.W.Frag} {mg : Str → Option Value} {base : Heap} {k : Nat} {x : Str} {sp : Sp} {E : Addr} (C : Cal3 P w K mg base k x sp E) (H : Hp) : ButAt K H E [] := by
  obtain ⟨o, n, h1, h2, h3⟩ := C.emp
  exact .inr (.inr ⟨o, #[], n, h1, h2, h3, Nat.zero_le _, .nil⟩)
section
variable {X : Cx} {k : Nat} {x : Str} {sp : Sp} {D : Addr} {p pos : Pos} {e : Expr} {es : List Expr} {t tk : TA} {kws : List Keyword}
end
abbrev p3 : List Str := ["friends", "row", "but"]
end Lk
set_option maxRecDepth 100000
set_option maxHeartbeats 4000000
namespace Lk
open PySem PySem.Spec PyProof.Rows L2

/-! ### of those who are left each bars one of them -/
def Ahead (row : List Str) (h x : Str) : Prop := ∃ a b, row = a ++ x :: b ∧ h ∈ a
theorem frd_sym (ps : List (Str × Str)) (a b : Str) : frd ps a b = frd ps b a := by
  exact frd_comm ps a b
theorem Ahead.mem {row : List Str} {h x : Str} (k : Ahead row h x) : h ∈ row ∧ x ∈ row := by
  obtain ⟨a, b, rfl, m⟩ := k
  exact ⟨List.mem_append_left _ m, by simp⟩
theorem Ahead.lt {row : List Str} {h x : Str} {i j : Nat} (hd : row.Nodup) (k : Ahead row h x) (hi : row[i]? = some h) (hj : row[j]? = some x) : i < j := by
  obtain ⟨a, b, rfl, m⟩ := k
  have e1 : (a ++ x :: b)[a.length]? = some x := by simp
  have e2 := nd_ix hd hj e1
  obtain ⟨n, hn⟩ := List.mem_iff_getElem?.mp m
  have ln : n < a.length := (List.getElem?_eq_some_iff.mp hn).1
  have e3 : (a ++ x :: b)[n]? = some h := by
    rw [List.getElem?_append_left ln]
    exact hn
  have e4 := nd_ix hd hi e3
  omega
theorem rem_app (a b : List Str) {x y : Str} (ne : x ≠ y) : rem (a ++ x :: b) y = rem a y ++ x :: rem b y := by
  unfold rem
  rw [List.filter_append, List.filter_cons]
  simp [ne]
theorem mem_rem {row : List Str} {x y : Str} : x ∈ rem row y ↔ x ∈ row ∧ x ≠ y := by
  unfold rem
  rw [List.mem_filter]
  simp
theorem Ahead.rem {row : List Str} {h x y : Str} (k : Ahead row h x) (n1 : h ≠ y) (n2 : x ≠ y) : Ahead (Lk.rem row y) h x := by
  obtain ⟨a, b, rfl, m⟩ := k
  exact ⟨Lk.rem a y, Lk.rem b y, rem_app a b n2, mem_rem.mpr ⟨m, n1⟩⟩
theorem Ahead.of_rem {row : List Str} {h x y : Str} (hd : row.Nodup) (k : Ahead (Lk.rem row y) h x) : Ahead row h x := by
  have hx := mem_rem.mp k.mem.2
  obtain ⟨a', b', e', m⟩ := k
  obtain ⟨a, b, e⟩ := List.append_of_mem hx.1
  have e2 : Lk.rem row y = Lk.rem a y ++ x :: Lk.rem b y := by rw [e]; exact rem_app a b hx.2
  have u := split_uniq (rem_nodup hd) e' e2
  rw [u.1] at m
  exact ⟨a, b, e, (mem_rem.mp m).1⟩
theorem Red.ahead {ps : List (Str × Str)} {stay row n : List Str} (r : Red ps stay row n) : row.Nodup → ∀ {h x : Str}, Ahead n h x → Ahead row h x := by
  induction r with
  | done row => exact fun _ {h x} k => k
  | go y hy hs t ih => exact fun hd {h x} k => (ih (rem_nodup hd) k).of_rem hd
theorem Red.keeps {ps : List (Str × Str)} {stay row n : List Str} (r : Red ps stay row n) : row.Nodup → ∀ {h x : Str}, x ∈ n → Ahead row h x → frd ps x h = true → Ahead n h x := by
  induction r with
  | done row => exact fun _ {h x} _ k _ => k
  | @go row n y hy hs t ih =>
    intro hd h x hx k hf
    have nx : x ≠ y := (mem_rem.mp (t.sub x hx)).2
    have nh : h ≠ y := fun z => by
      subst z
      obtain ⟨a, b, e, q1, _⟩ := hy
      obtain ⟨a', b', e', m⟩ := k
      have hxb : x ∈ b := by
        have hx' : x ∈ a ++ h :: b := by rw [← e, e']; simp
        rcases List.mem_append.mp hx' with z | z
        · exfalso
          obtain ⟨i, hi⟩ := List.mem_iff_getElem?.mp z
          have li : i < a.length := (List.getElem?_eq_some_iff.mp hi).1
          have r1 : row[i]? = some x := by rw [e, List.getElem?_append_left li]; exact hi
          have r2 : row[a.length]? = some h := by rw [e]; simp
          have := Ahead.lt hd ⟨a', b', e', m⟩ r2 r1
          omega
        · rcases List.mem_cons.mp z with z | z
          · exact absurd z nx
          · exact z
      have := q1 x hxb
      rw [frd_sym] at this
      rw [this] at hf
      cases hf
    exact ih (rem_nodup hd) hx (k.rem nh nx) hf
theorem optW_mem (w : Str) : w ∈ optW true w := by
  unfold optW
  simp
theorem words_friend {ps : List (Str × Str)} {row : List Str} {one other : Str} {i j : Nat} (h : i < j) (f : frd ps one other = true) : wordsOf ps row one other i j ≠ [] := fun z => by
  have m : ("friend" : Str) ∈ wordsOf ps row one other i j := by
    unfold wordsOf
    refine List.mem_append_right _ ?_
    rw [decide_eq_true h, f]
    exact optW_mem _
  rw [z] at m
  cases m
theorem words_behind {ps : List (Str × Str)} {row : List Str} {one other : Str} {i j : Nat} (h : i < j) (f : lastP (frd ps one) (row.take i) = none) : wordsOf ps row one other i j ≠ [] := fun z => by
  have m : ("behind" : Str) ∈ wordsOf ps row one other i j := by
    unfold wordsOf
    refine List.mem_append_left _ (List.mem_append_left _ ?_)
    rw [decide_eq_true h, decide_eq_true f]
    exact optW_mem _
  rw [z] at m
  cases m
theorem words_between {ps : List (Str × Str)} {row : List Str} {one other : Str} {i j k : Nat} (f : lastP (frd ps one) (row.take i) = some k) (h1 : k < j) (h2 : j < i) : wordsOf ps row one other i j ≠ [] := fun z => by
  have m : ("between" : Str) ∈ wordsOf ps row one other i j := by
    unfold wordsOf
    refine List.mem_append_left _ (List.mem_append_right _ ?_)
    rw [f]
    show _ ∈ optW (decide (k < j) && decide (j < i)) "between"
    rw [decide_eq_true h1, decide_eq_true h2]
    exact optW_mem _
  rw [z] at m
  cases m
theorem words_self {ps : List (Str × Str)} {row : List Str} {x : Str} {i : Nat} (hl : i ≤ row.length) : wordsOf ps row x x i i = [] := by
  unfold wordsOf
  rw [decide_eq_false (Nat.lt_irrefl i), Bool.and_false, Bool.false_and]
  have : btw i i (lastP (frd ps x) (row.take i)) = false := by
    unfold btw
    split
    · rfl
    · rw [decide_eq_false (Nat.lt_irrefl i), Bool.and_false]
  rw [this]
  rfl
theorem bars_left {ps : List (Str × Str)} {row left : List Str} {x : Str} {i : Nat} (hd : row.Nodup) (r : Red ps [] row left) (nf : Nf ps [] left) (hx : x ∈ left) (hi : row[i]? = some x) : ∃ z j, z ∈ left ∧ row[j]? = some z ∧ wordsOf ps row x z i j ≠ [] := by
  have ndl := r.nodup hd
  obtain ⟨a, b, e⟩ := List.append_of_mem hx
  have nl : ¬ LooseP ps a b x := fun z => by
    have := nf x ⟨a, b, e, z⟩
    cases this
  have place : ∀ z ∈ left, ∃ j, row[j]? = some z := fun z hz => List.mem_iff_getElem?.mp (r.sub z hz)
  have behind : ∀ z ∈ b, Ahead left x z := fun z hz => by
    obtain ⟨b1, b2, eb⟩ := List.append_of_mem hz
    exact ⟨a ++ x :: b1, b2, by rw [e, eb]; simp, by simp⟩
  by_cases c : ∃ y ∈ b, frd ps x y = true
  · obtain ⟨y, hy, f⟩ := c
    have my : y ∈ left := by rw [e]; simp [hy]
    obtain ⟨j, hj⟩ := place y my
    exact ⟨y, j, my, hj, words_friend ((r.ahead hd (behind y hy)).lt hd hi hj) f⟩
  · have nb : ∀ y ∈ b, frd ps x y = false := fun y hy => by
      cases f : frd ps x y with
      | false => rfl
      | true => exact absurd ⟨y, hy, f⟩ c
    have ahd : ∀ y ∈ a, Ahead left y x := fun y hy => ⟨a, b, e, hy⟩
    cases hk : lastP (frd ps x) (row.take i) with
    | none =>
      have na := lastP_no.mp hk
      have nfa : ∀ y ∈ a, frd ps x y = false := fun y hy => by
        obtain ⟨j, hj⟩ := place y (ahd y hy).mem.1
        have lt := (r.ahead hd (ahd y hy)).lt hd hj hi
        refine na y (List.mem_iff_getElem?.mpr ⟨j, ?_⟩)
        rw [List.getElem?_take, if_pos lt]
        exact hj
      cases b with
      | nil => exact absurd ⟨nb, .inr ⟨nfa, rfl⟩⟩ nl
      | cons z b' =>
        have mz : z ∈ left := by rw [e]; simp
        obtain ⟨j, hj⟩ := place z mz
        exact ⟨z, j, mz, hj, words_behind ((r.ahead hd (behind z (List.mem_cons_self ..))).lt hd hi hj) hk⟩
    | some k =>
      obtain ⟨h, h1, h2, h3⟩ := lastP_some hk
      have hki : k < i := by
        have := lastP_lt hk
        rw [List.length_take] at this
        omega
      rw [List.getElem?_take, if_pos hki] at h1
      have ahr : Ahead row h x := by
        have sp := split_at hi
        refine ⟨row.take i, row.drop (i + 1), sp, List.mem_iff_getElem?.mpr ⟨k, ?_⟩⟩
        rw [List.getElem?_take, if_pos hki]
        exact h1
      obtain ⟨a', b', e', m⟩ := r.keeps hd hx ahr h2
      have u := split_uniq ndl e' e
      rw [u.1] at m
      obtain ⟨a1, a2, ea⟩ := List.append_of_mem m
      cases a2 with
      | nil => exact absurd ⟨nb, .inl ⟨a1, h, ea, h2⟩⟩ nl
      | cons z a3 =>
        have mz : z ∈ left := by rw [e, ea]; simp
        obtain ⟨j, hj⟩ := place z mz
        have k1 : Ahead left h z := ⟨a1 ++ [h], a3 ++ x :: b, by rw [e, ea]; simp, by simp⟩
        have k2 : Ahead left z x := ahd z (by rw [ea]; simp)
        exact ⟨z, j, mz, hj, words_between hk ((r.ahead hd k1).lt hd h1 hj) ((r.ahead hd k2).lt hd hj hi)⟩
theorem nd_len : ∀ (l m : List Str), l.Nodup → (∀ x ∈ l, x ∈ m) → l.length ≤ m.length
  | [], _, _, _ => Nat.zero_le _
  | x :: l, m, h, s => by
    obtain ⟨n1, n2⟩ := List.nodup_cons.mp h
    obtain ⟨a, b, e⟩ := List.append_of_mem (s x (List.mem_cons_self ..))
    have ih := nd_len l (a ++ b) n2 fun y hy => by
      have ne : y ≠ x := fun z => n1 (z ▸ hy)
      have := s y (List.mem_cons_of_mem _ hy)
      rw [e] at this
      rcases List.mem_append.mp this with z | z
      · exact List.mem_append_left _ z
      · rcases List.mem_cons.mp z with z | z
        · exact absurd z ne
        · exact List.mem_append_right _ z
    rw [List.length_append] at ih
    rw [e, List.length_append, List.length_cons, List.length_cons]
    omega
/-! ### rings -/
def wordsAt (ps : List (Str × Str)) (row : List Str) (a b : Str) : List Str := wordsOf ps row a b (row.idxOf a) (row.idxOf b)
def barredL (ps : List (Str × Str)) (row left : List Str) (who : Str) : List (Str × Str) := left.flatMap fun o => (wordsAt ps row who o).map fun w => (o, w)
def nextB (ps : List (Str × Str)) (row left : List Str) (who : Str) : Str × Str := (barredL ps row left who).headD (who, "")
def ringN (ps : List (Str × Str)) (row left : List Str) : Nat → List (Str × Str) → Str → List (Str × Str)
  | 0, path, _ => path
  | n + 1, path, who => if who ∈ path.map (·.1) then path.drop ((path.map (·.1)).idxOf who) else ringN ps row left n (path ++ [(who, (nextB ps row left who).2)]) (nextB ps row left who).1
def ringOf (ps : List (Str × Str)) (row left : List Str) : List (Str × Str) := ringN ps row left (left.length + 1) [] (left.headD "")
theorem barred_mem {ps : List (Str × Str)} {row left : List Str} {who : Str} {q : Str × Str} : q ∈ barredL ps row left who ↔ q.1 ∈ left ∧ q.2 ∈ wordsAt ps row who q.1 := by
  unfold barredL
  rw [List.mem_flatMap]
  constructor
  · rintro ⟨o, ho, m⟩
    obtain ⟨w, hw, rfl⟩ := List.mem_map.mp m
    exact ⟨ho, hw⟩
  · rintro ⟨h1, h2⟩
    exact ⟨q.1, h1, List.mem_map.mpr ⟨q.2, h2, rfl⟩⟩
theorem barred_ne {ps : List (Str × Str)} {row left : List Str} {x : Str} (hd : row.Nodup) (r : Red ps [] row left) (nf : Nf ps [] left) (hx : x ∈ left) : barredL ps row left x ≠ [] := fun e => by
  obtain ⟨i, hi⟩ := List.mem_iff_getElem?.mp (r.sub x hx)
  obtain ⟨z, j, mz, hj, hw⟩ := bars_left hd r nf hx hi
  obtain ⟨w, hw⟩ := List.exists_mem_of_ne_nil _ hw
  have m : (z, w) ∈ barredL ps row left x := barred_mem.mpr ⟨mz, by
    show w ∈ wordsOf ps row x z (row.idxOf x) (row.idxOf z)
    rw [idx_at hd hi, idx_at hd hj]
    exact hw⟩
  rw [e] at m
  cases m
theorem next_mem {ps : List (Str × Str)} {row left : List Str} {x : Str} (h : barredL ps row left x ≠ []) : nextB ps row left x ∈ barredL ps row left x := by
  unfold nextB
  cases e : barredL ps row left x with
  | nil => exact absurd e h
  | cons q l => exact List.mem_cons_self ..
structure RingOk (ps : List (Str × Str)) (row left : List Str) (ring : List (Str × Str)) : Prop where
  two : 2 ≤ ring.length
  nd : (ring.map (·.1)).Nodup
  sub : ∀ x ∈ ring.map (·.1), x ∈ left
  bar : ∀ (i : Nat) (x w y : Str), ring[i]? = some (x, w) → ((ring.map (·.1)).drop 1 ++ (ring.map (·.1)).take 1)[i]? = some y → w ∈ wordsAt ps row x y
theorem ring_ok {ps : List (Str × Str)} {row left : List Str} (hd : row.Nodup) (r : Red ps [] row left) (nf : Nf ps [] left) : ∀ (m : Nat) (path : List (Str × Str)) (who : Str), m + path.length = left.length + 1 → (path.map (·.1)).Nodup → (∀ x ∈ path.map (·.1), x ∈ left) → who ∈ left →
    (∀ (i : Nat) (x w : Str), path[i]? = some (x, w) → ∃ y, (path.map (·.1) ++ [who])[i + 1]? = some y ∧ w ∈ wordsAt ps row x y) → RingOk ps row left (ringN ps row left m path who)
  | 0, path, who, hm, hn, hs, hw, hc => by
    have := nd_len _ _ hn hs
    rw [List.length_map] at this
    omega
  | m + 1, path, who, hm, hn, hs, hw, hc => by
    unfold ringN
    by_cases c : who ∈ path.map (·.1)
    · rw [if_pos c]
      have hk : (path.map (·.1)).idxOf who < (path.map (·.1)).length := List.idxOf_lt_length_iff.mpr c
      have ek : (path.map (·.1))[(path.map (·.1)).idxOf who]? = some who := by rw [List.getElem?_eq_getElem hk, List.getElem_idxOf]
      generalize (path.map (·.1)).idxOf who = k at hk ek
      rw [List.length_map] at hk
      have bar : ∀ (i : Nat) (x w y : Str), (path.drop k)[i]? = some (x, w) → (((path.drop k).map (·.1)).drop 1 ++ ((path.drop k).map (·.1)).take 1)[i]? = some y → w ∈ wordsAt ps row x y := by
        intro i x w y h1 h2
        rw [List.getElem?_drop] at h1
        obtain ⟨y', h3, h4⟩ := hc _ x w h1
        have et : ((path.drop k).map (·.1)).take 1 = [who] := by
          rw [List.map_drop]
          have hne : (path.map (·.1)).drop k = who :: (path.map (·.1)).drop (k + 1) := by
            rw [List.getElem?_eq_some_iff] at ek
            obtain ⟨q1, q2⟩ := ek
            rw [List.drop_eq_getElem_cons q1, q2]
          rw [hne]
          rfl
        have ed : (path.map (·.1) ++ [who])[k + i + 1]? = (((path.drop k).map (·.1)).drop 1 ++ ((path.drop k).map (·.1)).take 1)[i]? := by
          rw [et, List.map_drop, List.drop_drop, ← List.drop_append_of_le_length (l₂ := [who]) (by rw [List.length_map]; omega), List.getElem?_drop]
          congr 1
          omega
        rw [ed, h2] at h3
        cases h3
        exact h4
      have nd' : ((path.drop k).map (·.1)).Nodup := by
        rw [List.map_drop]
        exact hn.sublist (List.drop_sublist _ _)
      refine ⟨?_, nd', fun x hx => hs x ?_, bar⟩
      · rw [List.length_drop]
        refine Classical.byContradiction fun z => ?_
        have e1 : k + 1 = path.length := by omega
        obtain ⟨⟨x, w⟩, hx⟩ : ∃ q, path[k]? = some q := ⟨path[k]'hk, List.getElem?_eq_getElem hk⟩
        have ex : x = who := by
          rw [List.getElem?_map, hx] at ek
          exact Option.some.inj ek
        have ed : (path.drop k) = [(x, w)] := by
          have q := (List.getElem?_eq_some_iff.mp hx)
          rw [List.drop_eq_getElem_cons hk, q.2, List.drop_eq_nil_of_le (by omega)]
        have := bar 0 x w x (by rw [ed]; rfl) (by rw [ed]; rfl)
        have hxr : row.idxOf x ≤ row.length := List.idxOf_le_length
        unfold wordsAt at this
        rw [words_self hxr] at this
        cases this
      · rw [List.map_drop] at hx
        exact List.mem_of_mem_drop hx
    · rw [if_neg c]
      have nx := barred_mem.mp (next_mem (barred_ne hd r nf hw))
      refine ring_ok hd r nf m _ _ ?_ ?_ ?_ nx.1 ?_
      · rw [List.length_append]
        show m + (path.length + 1) = _
        omega
      · rw [List.map_append]
        refine List.nodup_append.mpr ⟨hn, by simp, ?_⟩
        intro x hx y hy
        have ey : y = who := by simpa using hy
        rw [ey]
        exact fun z => c (z ▸ hx)
      · intro x hx
        rw [List.map_append] at hx
        rcases List.mem_append.mp hx with z | z
        · exact hs x z
        · have : x = who := by simpa using z
          rw [this]
          exact hw
      · intro i x w h
        rw [List.map_append]
        show ∃ y, (path.map (·.1) ++ [who] ++ [(nextB ps row left who).1])[i + 1]? = some y ∧ _
        by_cases hi : i < path.length
        · rw [List.getElem?_append_left hi] at h
          obtain ⟨y, h1, h2⟩ := hc i x w h
          refine ⟨y, ?_, h2⟩
          rw [List.getElem?_append_left (by rw [List.length_append, List.length_map]; show i + 1 < path.length + 1; omega)]
          exact h1
        · have li : i < (path ++ [(who, (nextB ps row left who).2)]).length := (List.getElem?_eq_some_iff.mp h).1
          rw [List.length_append] at li
          have ei : i = path.length := by
            have : i < path.length + 1 := li
            omega
          subst ei
          have : (path ++ [(who, (nextB ps row left who).2)])[path.length]? = some (who, (nextB ps row left who).2) := by simp
          rw [this] at h
          cases h
          refine ⟨(nextB ps row left who).1, ?_, nx.2⟩
          have le : (path.map (·.1) ++ [who]).length = path.length + 1 := by rw [List.length_append, List.length_map]; rfl
          rw [← le]
          simp
theorem ringOf_ok {ps : List (Str × Str)} {row left : List Str} (hd : row.Nodup) (r : Red ps [] row left) (nf : Nf ps [] left) (ne : left ≠ []) : RingOk ps row left (ringOf ps row left) := by
  refine ring_ok hd r nf _ [] _ rfl List.nodup_nil (fun _ h => nomatch h) ?_ (fun i x w h => by simp at h)
  cases left with
  | nil => exact absurd rfl ne
  | cons a l => exact List.mem_cons_self ..
theorem ring_len {ps : List (Str × Str)} {row left : List Str} (h : RingOk ps row left ring) : ring.length ≤ left.length := by
  have := nd_len _ _ h.nd h.sub
  rw [List.length_map] at this
  exact this
/-! ### walks within walks -/
/-! ### promises -/
/-- what order_of tells: p the list in it -/
def OrdAt (H : Hp) (p : Addr) (word : Str) (ps : List (Str × Str)) (row : List Str) : Prop :=
  (goneR ps [] row = [] ∧ word = "order" ∧ H p = some (.lst ((goneO ps [] row).reverse.map V.str))) ∨ (goneR ps [] row ≠ [] ∧ word = "ring" ∧ ∃ bs : List B3, H p = some (.lst (refs bs)) ∧ PairsAt H bs ∧ bs.map (·.2) = ringOf ps row (goneR ps [] row))
theorem OrdAt.same {H H' : Hp} {p : Addr} {word : Str} {ps : List (Str × Str)} {row : List Str} (s : Same H H') (h : OrdAt H p word ps row) : OrdAt H' p word ps row :=
  h.elim (fun ⟨h1, h2, h3⟩ => .inl ⟨h1, h2, s _ _ h3⟩) (fun ⟨h1, h2, bs, h3, h4, h5⟩ => .inr ⟨h1, h2, bs, s _ _ h3, h4.same s, h5⟩)
end Lk
set_option maxRecDepth 100000
set_option maxHeartbeats 4000000
namespace Lk
open PySem PySem.Spec PyProof.Rows L2
/-! ### len(set(xs)), xs a list of texts, none of them twice -/
section
variable {P : Program} {w : World} {A : Around} {E : Value → Shared → Prop} {s : Shared}
end
section
variable {X : Cx}
end
end Lk
set_option maxRecDepth 100000
set_option maxHeartbeats 4000000
namespace Lk
open PySem PySem.Spec PyProof.Rows L2

/-! ### who stands ahead of whom, by places -/
theorem ix_at {row : List Str} {x : Str} (hx : x ∈ row) : row[row.idxOf x]? = some x := by
  have hl : row.idxOf x < row.length := List.idxOf_lt_length_iff.mpr hx
  rw [List.getElem?_eq_getElem hl, List.getElem_idxOf]
theorem ahead_ix {row : List Str} {x y : Str} (hd : row.Nodup) : Ahead row x y ↔ x ∈ row ∧ y ∈ row ∧ row.idxOf x < row.idxOf y := by
  constructor
  · intro k
    exact ⟨k.mem.1, k.mem.2, k.lt hd (ix_at k.mem.1) (ix_at k.mem.2)⟩
  · rintro ⟨hx, hy, h⟩
    refine ⟨row.take (row.idxOf y), row.drop (row.idxOf y + 1), split_at (ix_at hy), ?_⟩
    exact List.mem_iff_getElem?.mpr ⟨row.idxOf x, by rw [List.getElem?_take, if_pos h]; exact ix_at hx⟩
theorem mem_take_ix {row : List Str} {x : Str} {i : Nat} (hd : row.Nodup) : x ∈ row.take i ↔ x ∈ row ∧ row.idxOf x < i := by
  constructor
  · intro h
    obtain ⟨j, hj⟩ := List.mem_iff_getElem?.mp h
    rw [List.getElem?_take] at hj
    split at hj
    · rename_i c
      rw [idx_at hd hj]
      exact ⟨List.mem_of_getElem? hj, c⟩
    · cases hj
  · rintro ⟨h1, h2⟩
    exact List.mem_iff_getElem?.mpr ⟨row.idxOf x, by rw [List.getElem?_take, if_pos h2]; exact ix_at h1⟩
theorem rem_ix {row : List Str} {x u v : Str} (hd : row.Nodup) (hu : u ∈ row) (hv : v ∈ row) (nu : u ≠ x) (nv : v ≠ x) : (rem row x).idxOf u < (rem row x).idxOf v ↔ row.idxOf u < row.idxOf v := by
  have mu := mem_rem.mpr ⟨hu, nu⟩
  have mv := mem_rem.mpr ⟨hv, nv⟩
  constructor
  · intro h
    exact ((ahead_ix hd).mp (((ahead_ix (rem_nodup hd)).mpr ⟨mu, mv, h⟩).of_rem hd)).2.2
  · intro h
    exact ((ahead_ix (rem_nodup hd)).mp (((ahead_ix hd).mpr ⟨hu, hv, h⟩).rem nu nv)).2.2

/-! ### by which word one bars another -/
def BarsBy (ps : List (Str × Str)) (row : List Str) (a b w : Str) : Prop :=
  (w = "behind" ∧ (∀ h ∈ row, row.idxOf h < row.idxOf a → frd ps a h = false) ∧ row.idxOf a < row.idxOf b) ∨
  (w = "between" ∧ (∃ h ∈ row, frd ps a h = true ∧ row.idxOf h < row.idxOf a ∧ (∀ g ∈ row, row.idxOf g < row.idxOf a → frd ps a g = true → row.idxOf g ≤ row.idxOf h) ∧ row.idxOf h < row.idxOf b) ∧ row.idxOf b < row.idxOf a) ∨
  (w = "friend" ∧ row.idxOf a < row.idxOf b ∧ frd ps a b = true)
def Bars (ps : List (Str × Str)) (row : List Str) (a b : Str) : Prop := ∃ w, BarsBy ps row a b w
/-- who can have come last, by places -/
theorem loose_ix {ps : List (Str × Str)} {row : List Str} {x : Str} (hd : row.Nodup) : LooseIn ps row x ↔ x ∈ row ∧ (∀ y ∈ row, row.idxOf x < row.idxOf y → frd ps x y = false) ∧ ((∃ f ∈ row, row.idxOf f + 1 = row.idxOf x ∧ frd ps x f = true) ∨ ((∀ y ∈ row, row.idxOf y < row.idxOf x → frd ps x y = false) ∧ ∀ y ∈ row, ¬ row.idxOf x < row.idxOf y)) := by
  have parts : ∀ {a b : List Str}, row = a ++ x :: b → row.idxOf x = a.length ∧ (∀ y, y ∈ a ↔ y ∈ row ∧ row.idxOf y < row.idxOf x) ∧ (∀ y, y ∈ b ↔ y ∈ row ∧ row.idxOf x < row.idxOf y) := by
    intro a b e
    have ex : row.idxOf x = a.length := idx_at hd (by rw [e]; simp)
    have ta : row.take (row.idxOf x) = a := by rw [ex, e]; simp
    refine ⟨ex, fun y => ?_, fun y => ?_⟩
    · rw [← ta, mem_take_ix hd]
    · constructor
      · intro hy
        obtain ⟨j, hj⟩ := List.mem_iff_getElem?.mp hy
        have g : row[a.length + 1 + j]? = some y := by
          rw [e, List.getElem?_append_right (by omega), show a.length + 1 + j - a.length = j + 1 by omega, List.getElem?_cons_succ]
          exact hj
        refine ⟨List.mem_of_getElem? g, ?_⟩
        rw [idx_at hd g]
        omega
      · rintro ⟨hy, h⟩
        have hm : y ∈ a ++ x :: b := e ▸ hy
        rcases List.mem_append.mp hm with m | m
        · have := ((mem_take_ix hd).mp (ta.symm ▸ m : y ∈ row.take (row.idxOf x))).2
          omega
        · rcases List.mem_cons.mp m with z | z
          · subst z
            omega
          · exact z
  constructor
  · rintro ⟨a, b, e, q1, q2⟩
    obtain ⟨ex, ha, hb⟩ := parts e
    refine ⟨by rw [e]; simp, fun y hy h => q1 y ((hb y).mpr ⟨hy, h⟩), ?_⟩
    rcases q2 with ⟨a', f, ea, hf⟩ | ⟨h1, h2⟩
    · refine .inl ⟨f, ((ha f).mp (by rw [ea]; simp)).1, ?_, hf⟩
      have : row.idxOf f = a'.length := idx_at hd (by rw [e, ea]; simp)
      rw [this, ex, ea]
      simp
    · refine .inr ⟨fun y hy h => h1 y ((ha y).mpr ⟨hy, h⟩), fun y hy h => ?_⟩
      have := (hb y).mpr ⟨hy, h⟩
      rw [h2] at this
      cases this
  · rintro ⟨hx, q1, q2⟩
    obtain ⟨a, b, e⟩ := List.append_of_mem hx
    obtain ⟨ex, ha, hb⟩ := parts e
    refine ⟨a, b, e, fun y hy => q1 y ((hb y).mp hy).1 ((hb y).mp hy).2, ?_⟩
    rcases q2 with ⟨f, hf, h1, h2⟩ | ⟨h1, h2⟩
    · refine .inl ?_
      have hfa : f ∈ a := (ha f).mpr ⟨hf, by omega⟩
      have hne : a ≠ [] := fun z => by rw [z] at hfa; cases hfa
      refine ⟨a.dropLast, a.getLast hne, (List.dropLast_concat_getLast hne).symm, ?_⟩
      have ge : row[a.length - 1]? = some (a.getLast hne) := by
        have lp : 0 < a.length := List.length_pos_iff.mpr hne
        rw [e, List.getElem?_append_left (by omega), ← List.getLast?_eq_getElem?, List.getLast?_eq_some_getLast hne]
      have gf := ix_at hf
      rw [show row.idxOf f = a.length - 1 by omega, ge] at gf
      rw [Option.some.inj gf]
      exact h2
    · refine .inr ⟨fun y hy => h1 y ((ha y).mp hy).1 ((ha y).mp hy).2, ?_⟩
      cases b with
      | nil => rfl
      | cons y b => exact absurd ((hb y).mp List.mem_cons_self).2 (h2 y ((hb y).mp List.mem_cons_self).1)
theorem loose_bars {ps : List (Str × Str)} {row : List Str} {x : Str} (hd : row.Nodup) (hx : x ∈ row) : LooseIn ps row x ↔ ∀ b ∈ row, ¬ Bars ps row x b := by
  rw [loose_ix hd]
  constructor
  · rintro ⟨_, q1, q2⟩ b hb ⟨w, h⟩
    rcases h with ⟨_, h1, h2⟩ | ⟨_, ⟨h, h1, h2, h3, h4, h5⟩, h6⟩ | ⟨_, h1, h2⟩
    · rcases q2 with ⟨f, hf, e, hf2⟩ | ⟨_, h3⟩
      · rw [h1 f hf (by omega)] at hf2
        cases hf2
      · exact h3 b hb h2
    · rcases q2 with ⟨f, hf, e, hf2⟩ | ⟨h7, _⟩
      · have := h4 f hf (by omega) hf2
        omega
      · rw [h7 h h1 h3] at h2
        cases h2
    · rw [q1 b hb h1] at h2
      cases h2
  · intro q
    have fr : ∀ y ∈ row, row.idxOf x < row.idxOf y → frd ps x y = false := fun y hy h => by
      refine Bool.eq_false_iff.mpr fun c => ?_
      exact q y hy ⟨"friend", .inr (.inr ⟨rfl, h, c⟩)⟩
    refine ⟨hx, fr, ?_⟩
    by_cases c : ∃ h ∈ row, frd ps x h = true ∧ row.idxOf h < row.idxOf x
    · refine .inl ?_
      -- the last one of these
      have : ∀ n, ∀ h ∈ row, frd ps x h = true → row.idxOf h < row.idxOf x → row.idxOf x - row.idxOf h ≤ n → ∃ f ∈ row, row.idxOf f + 1 = row.idxOf x ∧ frd ps x f = true := by
        intro n
        induction n with
        | zero => intro h _ _ h3 h4; omega
        | succ n ih =>
          intro h h1 h2 h3 h4
          by_cases c2 : ∃ g ∈ row, row.idxOf g < row.idxOf x ∧ frd ps x g = true ∧ row.idxOf h < row.idxOf g
          · obtain ⟨g, g1, g2, g3, g4⟩ := c2
            exact ih g g1 g3 g2 (by omega)
          · refine ⟨h, h1, ?_, h2⟩
            refine Classical.byContradiction fun c3 => ?_
            have hl : row.idxOf h + 1 < row.length := Nat.lt_trans (by omega : row.idxOf h + 1 < row.idxOf x) (List.idxOf_lt_length_iff.mpr hx)
            have gz := List.getElem?_eq_getElem hl
            have iz := idx_at hd gz
            refine q _ (List.mem_of_getElem? gz) ⟨"between", .inr (.inl ⟨rfl, ⟨h, h1, h2, h3, fun g g1 g2 g3 => ?_, by omega⟩, by omega⟩)⟩
            exact Nat.not_lt.mp fun g4 => c2 ⟨g, g1, g2, g3, g4⟩
      obtain ⟨h, h1, h2, h3⟩ := c
      exact this _ h h1 h2 h3 (Nat.le_refl _)
    · have no : ∀ y ∈ row, row.idxOf y < row.idxOf x → frd ps x y = false := fun y hy h => Bool.eq_false_iff.mpr fun z => c ⟨y, hy, z, h⟩
      exact .inr ⟨no, fun y hy h => q y hy ⟨"behind", .inl ⟨rfl, no, h⟩⟩⟩
/-- of the others it changes nothing whether one who can have come last is there -/
theorem barsby_rem {ps : List (Str × Str)} {row : List Str} {x u v w : Str} (hd : row.Nodup) (lx : LooseIn ps row x) (hu : u ∈ row) (hv : v ∈ row) (nu : u ≠ x) (nv : v ≠ x) : BarsBy ps (rem row x) u v w ↔ BarsBy ps row u v w := by
  obtain ⟨hx, q1, _⟩ := (loose_ix hd).mp lx
  have nf : row.idxOf x < row.idxOf u → frd ps u x = false := fun h => by rw [frd_comm]; exact q1 u hu h
  have ii : ∀ {y z : Str}, y ∈ row → z ∈ row → y ≠ x → z ≠ x → ((rem row x).idxOf y < (rem row x).idxOf z ↔ row.idxOf y < row.idxOf z) := fun h1 h2 h3 h4 => rem_ix hd h1 h2 h3 h4
  unfold BarsBy
  refine or_congr (and_congr Iff.rfl (and_congr ?_ (ii hu hv nu nv))) (or_congr (and_congr Iff.rfl (and_congr ?_ (ii hv hu nv nu))) (and_congr Iff.rfl (and_congr (ii hu hv nu nv) Iff.rfl)))
  · constructor
    · intro h y hy hl
      by_cases c : y = x
      · rw [c] at hl ⊢
        exact nf hl
      · exact h y (mem_rem.mpr ⟨hy, c⟩) ((ii hy hu c nu).mpr hl)
    · intro h y hy hl
      have m := mem_rem.mp hy
      exact h y m.1 ((ii m.1 hu m.2 nu).mp hl)
  · constructor
    · rintro ⟨h, h1, h2, h3, h4, h5⟩
      have m := mem_rem.mp h1
      refine ⟨h, m.1, h2, (ii m.1 hu m.2 nu).mp h3, fun g g1 g2 g3 => ?_, (ii m.1 hv m.2 nv).mp h5⟩
      by_cases c : g = x
      · rw [c] at g2 g3
        rw [nf g2] at g3
        cases g3
      · have := h4 g (mem_rem.mpr ⟨g1, c⟩) ((ii g1 hu c nu).mpr g2) g3
        exact Nat.not_lt.mp fun z => absurd ((ii m.1 g1 m.2 c).mpr z) (by omega)
    · rintro ⟨h, h1, h2, h3, h4, h5⟩
      have nh : h ≠ x := fun z => by
        rw [z] at h2 h3
        rw [nf h3] at h2
        cases h2
      refine ⟨h, mem_rem.mpr ⟨h1, nh⟩, h2, (ii h1 hu nh nu).mpr h3, fun g g1 g2 g3 => ?_, (ii h1 hv nh nv).mpr h5⟩
      have m := mem_rem.mp g1
      have := h4 g m.1 ((ii m.1 hu m.2 nu).mp g2) g3
      exact Nat.not_lt.mp fun z => absurd ((ii h1 m.1 nh m.2).mp z) (by omega)
theorem idx_snoc {o : List Str} {x u : Str} (hu : u ∈ o) : (o ++ [x]).idxOf u = o.idxOf u := by
  rw [List.idxOf_append, if_pos hu]
theorem idx_snoc_last {o : List Str} {x : Str} (hx : x ∉ o) : (o ++ [x]).idxOf x = o.length := by
  rw [List.idxOf_append, if_neg hx]
  simp
/-- the orders are just the lists in which each stands ahead of all that it bars -/
theorem lin_iff {ps : List (Str × Str)} (irr : Irr ps) : ∀ (n : Nat) (order row : List Str), order.length = n → order.Nodup → order.Perm row → (standOf ps order = row ↔ ∀ u ∈ row, ∀ v ∈ row, Bars ps row u v → order.idxOf u < order.idxOf v)
  | 0, order, row, hn, hd, pm => by
    have e : order = [] := List.length_eq_zero_iff.mp hn
    subst e
    have e2 : row = [] := List.nil_perm.mp pm
    subst e2
    exact ⟨(fun _ u hu => nomatch hu), fun _ => rfl⟩
  | n + 1, order, row, hn, hd, pm => by
    rcases List.eq_nil_or_concat order with z | ⟨o, x, z⟩
    · rw [z] at hn
      cases hn
    rw [List.concat_eq_append] at z
    subst z
    have hdr : row.Nodup := pm.nodup_iff.mp hd
    have hd' : (x :: o).Nodup := ((List.perm_append_singleton x o).nodup_iff).mp hd
    obtain ⟨nx, hdo⟩ := List.nodup_cons.mp hd'
    have hx : x ∈ row := pm.mem_iff.mp (by simp)
    have on : o.length = n := by
      rw [List.length_append] at hn
      have : o.length + 1 = n + 1 := hn
      omega
    have pr : o.Perm (rem row x) := by
      have p1 : (x :: o).Perm row := (List.perm_append_singleton x o).symm.trans pm
      have p2 : (rem (x :: o) x).Perm (rem row x) := p1.filter _
      have e1 : rem (x :: o) x = o := rem_split (a := []) hd'
      rw [e1] at p2
      exact p2
    have mo : ∀ u ∈ row, u ≠ x → u ∈ o := fun u hu ne => pr.mem_iff.mpr (mem_rem.mpr ⟨hu, ne⟩)
    have ih := lin_iff irr n o (rem row x) on hdo pr
    rw [standOf_app]
    constructor
    · intro e u hu v hv bv
      have hs : (x :: standOf ps o).Nodup := ((stand_perm ps o).cons x).nodup_iff.mpr hd'
      have er := come_rem (ps := ps) hs
      have lx := come_loose ps (standOf ps o) x
      rw [e] at er lx
      have nu : u ≠ x := fun z => by
        subst z
        exact (loose_bars hdr hx).mp lx v hv bv
      have uo := mo u hu nu
      rw [idx_snoc uo]
      by_cases cv : v = x
      · subst cv
        rw [idx_snoc_last nx]
        exact List.idxOf_lt_length_iff.mpr uo
      · rw [idx_snoc (mo v hv cv)]
        obtain ⟨w, bw⟩ := bv
        exact ih.mp er.symm u (mem_rem.mpr ⟨hu, nu⟩) v (mem_rem.mpr ⟨hv, cv⟩) ⟨w, (barsby_rem hdr lx hu hv nu cv).mpr bw⟩
    · intro q
      have lx : LooseIn ps row x := (loose_bars hdr hx).mpr fun b hb bb => by
        have h := q x hx b hb bb
        rw [idx_snoc_last nx] at h
        have : (o ++ [x]).idxOf b < (o ++ [x]).length := List.idxOf_lt_length_iff.mpr (pm.mem_iff.mpr hb)
        rw [List.length_append] at this
        have : (o ++ [x]).idxOf b < o.length + 1 := this
        omega
      have es : standOf ps o = rem row x := ih.mpr fun u hu v hv ⟨w, bw⟩ => by
        have mu := mem_rem.mp hu
        have mv := mem_rem.mp hv
        have h := q u mu.1 v mv.1 ⟨w, (barsby_rem hdr lx mu.1 mv.1 mu.2 mv.2).mp bw⟩
        rw [idx_snoc (mo u mu.1 mu.2), idx_snoc (mo v mv.1 mv.2)] at h
        exact h
      rw [es]
      exact loose_come irr hdr lx
end Lk
set_option maxRecDepth 100000
set_option maxHeartbeats 4000000
namespace Lk
open PySem PySem.Spec PyProof.Rows L2

/-! ### rows, be they lists or tuples -/
theorem RowAt.sq {K : PySem.W.Frag} {H : Hp} {a : Addr} {row : List Str} (h : RowAt H a row) : SqL K H a (row.map V.str) ∨ SqT K H a (row.map V.str) := h.elim (fun e => .inr e.sq) (fun e => .inl (.inl (.inl e)))
theorem RowAt.at_ {H H' : Hp} {a : Addr} {row : List Str} (h : RowAt H a row) (e : H' a = H a) : RowAt H' a row := by
  rcases h with ⟨o, h1, h2⟩ | h
  · exact .inl ⟨o, h1, e.trans h2⟩
  · exact .inr (e.trans h)
theorem RowAt.some_ {H : Hp} {a : Addr} {row : List Str} (h : RowAt H a row) : ∃ o, H a = some o := h.elim (fun ⟨_, _, e⟩ => ⟨_, e⟩) (fun e => ⟨_, e⟩)
theorem same_eq {H H' : Hp} {a : Addr} {o : HO} (s : Same H H') (h : H a = some o) : H' a = H a := (s _ _ h).trans h.symm
theorem RowAt.kept {H H' : Hp} {a : Addr} {row : List Str} (h : RowAt H a row) (s : Same H H') : H' a = H a := by
  obtain ⟨o, e⟩ := h.some_
  exact same_eq s e
theorem RowAt.oth {H H' : Hp} {a b : Addr} {row : List Str} (h : RowAt H a row) (s : Oth b H H') (hb : IsBox H b) : RowAt H' a row := h.elim (fun e => .inl (e.oth s hb)) (fun e => .inr (s _ _ (hb.ne_strs e) e))
section
variable {X : Cx}
/-- a cut of a row -/
def rSlR : V → Option Int → Option Int → Hp → VK → Prop := fun x lo hi H Q => ∃ a row, x = .ref a ∧ RowAt H a row ∧ ∀ p H', Same H H' → RowAt H' p (cutL row lo hi) → Q (.ref p) H'
theorem sl_row : SlR X rSlR := by
  intro pins s σ H x v vl vu lo hi sl Q I rx hs pl pu h
  obtain ⟨a, row, rfl, hrow, q⟩ := h
  rcases hrow with e | e
  · refine sl_tupM pins s σ H _ v vl vu lo hi sl Q I rx hs pl pu ⟨a, _, rfl, e, fun t H' s' t' => q t H' s' (.inl ?_)⟩
    rw [cutV_map] at t'
    exact t'
  · refine sl_list pins s σ H _ v vl vu lo hi sl Q I rx hs pl pu ⟨a, _, rfl, .inl (.inl e), fun p hp => q p _ (same_upd hp) (.inr ?_)⟩
    rw [cutV_map]
    exact upd_same
/-- one of a row -/
def rIxR : R2 := fun x y H Q => ∃ (a : Addr) (row : List Str) (i : Int) (z : Str), x = .ref a ∧ y = .int i ∧ RowAt H a row ∧ atI (row.map V.str) i = some (.str z) ∧ Q (.str z) H
theorem ix_row : IxR X rIxR := by
  intro value slice pins s σ H x y v u Q I rx ry h hs
  obtain ⟨a, row, i, z, rfl, rfl, hrow, hz, q⟩ := h
  rcases hrow with e | e
  · exact ix_tup value slice pins s σ H _ _ v u Q I rx ry ⟨a, _, i, _, rfl, rfl, e.sq, hz, q⟩ hs
  · exact ix_list value slice pins s σ H _ _ v u Q I rx ry ⟨a, _, i, _, rfl, rfl, .inl (.inl e), hz, q⟩ hs
/-- for place, one in enumerate(row), row a name -/
def iRowE (i : Nat) : TI := fun σ H R => ∃ a row, σ[i]? = some (some (.ref a)) ∧ RowAt H a row ∧ ∀ (J : It) (G : Hp → Prop), Walk J (row.map V.str).length G (YPair (fun k => some (.int (k : Nat))) (fun k => (row.map V.str)[k]?)) → (∀ H', H' a = H a → G H') → R J H
theorem pi_rowE {elts : List Expr} {kk : Nat} {p pos tpos : Pos} {e : Expr} {i : Nat} (hg : Gl X "enumerate") (hm : X.mg "enumerate" = none) (he : PE X e (tVar i)) (hs : starEach [e] X.env = [(false, eval e X.env)] := by rfl) :
    PI X (.Tuple elts kk tpos) (.Call (.Name "enumerate" p) [e] [] pos) (iRowE i) := by
  constructor
  intro pins s σ H R I h
  obtain ⟨a, row, hi, hrow, q⟩ := h
  rcases hrow with t | t
  · refine (pi_enumT (pos := pos) (tpos := tpos) (elts := elts) (kk := kk) hg hm (pa_cons he pa_nil hs) hs).run pins s σ H R I ⟨.ref a, hi, a, _, rfl, t.sq, q _ _ walk_enumT ?_⟩
    intro H' eq
    obtain ⟨o, h1, h2⟩ := t
    exact TupAt.sq (show TupAt H' a (row.map V.str) from ⟨o, h1, eq.trans h2⟩)
  · exact (pi_enum (pos := pos) (tpos := tpos) (elts := elts) (kk := kk) hg hm (pa_cons he pa_nil hs) hs).run pins s σ H R I ⟨.ref a, hi, a, _, rfl, .inl (.inl t), q _ _ walk_enum fun H' eq => .inl (.inl (eq.trans t))⟩
end

/-! ### list comprehensions that leave some out -/
end Lk
set_option maxRecDepth 100000
set_option maxHeartbeats 4000000
namespace Lk
open PySem PySem.Spec PyProof.Rows L2

/-! ### list comprehensions, by what comes of each one -/
section
variable {J : It} {n : Nat} {G : Hp → Prop} {Y : Nat → Hp → V → Hp → Prop} {g : TG} {tt : TT} {te : TE} {vs : List Nat} {σ : L2.St} {H1 : Hp} {D : Addr} {Qd : Hp → Prop}
/-- each one's value is f of its place -/
theorem lc_vals (w : Walk J n G Y) (f : Nat → V) (hn : n ≤ 1000) (hD : H1 D = none) (hG : ∀ H', Same H1 H' → G H')
    (hs : ∀ (i : Nat) (x : V) (H H' : Hp) (k : V → Hp → Prop), i < n → Same H1 H → Y i H x H' → (∀ H4, Same H H4 → k (f i) H4) → g x (wipe σ vs) H' fun σ2 H2 => wipe σ2 vs = wipe σ vs ∧ te σ2 H2 k)
    (hd : ∀ H, Same H1 H → H D = some (.lst ((List.range n).map f)) → Qd H) :
    ∃ W : Nat → Nat → Hp → Prop, (∃ m, W 0 m (upd H1 D (.lst []))) ∧ ∀ i m H, W i m H →
      (J.stop i H ∧ Qd H) ∨ (J.go i H ∧ ∃ Nx : Hp → Prop, (∀ H', Nx H' → ∃ m', m' < m ∧ W (i + 1) m' H') ∧ ∀ x H', J.yld i H x H' → g x (wipe σ vs) H' fun σ2 H2 => wipe σ2 vs = wipe σ vs ∧ tYes σ2 H2 fun b H3 =>
        if b = true then te σ2 H3 fun y H4 => ∃ acc, H4 D = some (.lst acc) ∧ acc.length < sizeLine ∧ Nx (upd H4 D (.lst (acc ++ [y]))) else Nx H3) := by
  refine lc_it w (fun i H' => Same H1 H' ∧ H' D = some (.lst ((List.range i).map f))) ⟨same_upd hD, upd_same⟩ (fun i H' _ h => hG H' h.1) ?_ (fun H h => hd H h.1 h.2)
  rintro i v H H' hi ⟨s1, d1⟩ y
  refine hs i v H H' _ hi s1 y fun H4 s4 => ?_
  refine ⟨_, s4 _ _ d1, ?_, fun b o e => ?_, ?_⟩
  · rw [List.length_map, List.length_range]
    exact small1000 (by omega)
  · rw [upd_ne (ne_of_none e hD)]
    exact s4 _ _ (s1 _ _ e)
  · rw [upd_same, List.range_succ, List.map_append]
    rfl
/-- texts -/
theorem lc_strs (w : Walk J n G Y) (xs : List Str) (hl : xs.length = n) (hn : n ≤ 1000) (hD : H1 D = none) (hG : ∀ H', Same H1 H' → G H')
    (hs : ∀ (i : Nat) (x : Str) (v : V) (H H' : Hp) (k : V → Hp → Prop), xs[i]? = some x → Same H1 H → Y i H v H' → (∀ H4, Same H H4 → k (.str x) H4) → g v (wipe σ vs) H' fun σ2 H2 => wipe σ2 vs = wipe σ vs ∧ te σ2 H2 k)
    (hd : ∀ H, Same H1 H → H D = some (.lst (xs.map V.str)) → Qd H) :
    ∃ W : Nat → Nat → Hp → Prop, (∃ m, W 0 m (upd H1 D (.lst []))) ∧ ∀ i m H, W i m H →
      (J.stop i H ∧ Qd H) ∨ (J.go i H ∧ ∃ Nx : Hp → Prop, (∀ H', Nx H' → ∃ m', m' < m ∧ W (i + 1) m' H') ∧ ∀ x H', J.yld i H x H' → g x (wipe σ vs) H' fun σ2 H2 => wipe σ2 vs = wipe σ vs ∧ tYes σ2 H2 fun b H3 =>
        if b = true then te σ2 H3 fun y H4 => ∃ acc, H4 D = some (.lst acc) ∧ acc.length < sizeLine ∧ Nx (upd H4 D (.lst (acc ++ [y]))) else Nx H3) := by
  refine lc_it w (fun i H' => Same H1 H' ∧ H' D = some (.lst ((xs.take i).map V.str))) ⟨same_upd hD, upd_same⟩ (fun i H' _ h => hG H' h.1) ?_ (fun H h => hd H h.1 ?_)
  · rintro i v H H' hi ⟨s1, d1⟩ y
    obtain ⟨x, hx⟩ : ∃ x, xs[i]? = some x := ⟨xs[i]'(by omega), List.getElem?_eq_getElem (by omega)⟩
    refine hs i x v H H' _ hx s1 y fun H4 s4 => ?_
    refine ⟨_, s4 _ _ d1, ?_, fun b o e => ?_, ?_⟩
    · rw [List.length_map, List.length_take]
      exact small1000 (by omega)
    · rw [upd_ne (ne_of_none e hD)]
      exact s4 _ _ (s1 _ _ e)
    · rw [upd_same, List.take_add_one, hx, List.map_append]
      rfl
  · have d1 := h.2
    rw [List.take_of_length_le (by omega)] at d1
    exact d1
/-- those that p takes -/
theorem lc_take {xs : List Str} (w : Walk J (xs.map V.str).length G Y) (p : Str → Bool) (hn : xs.length ≤ 1000) (hD : H1 D = none) (hG : ∀ H', Same H1 H' → G H')
    (hs : ∀ (i : Nat) (x : Str) (v : V) (H H' : Hp) (k : V → Hp → Prop) (k0 : Hp → Prop), xs[i]? = some x → Same H1 H → Y i H v H' → (p x = true → ∀ H4, Same H H4 → k (.str x) H4) → (p x = false → ∀ H4, Same H H4 → k0 H4) →
      g v (wipe σ vs) H' fun σ2 H2 => wipe σ2 vs = wipe σ vs ∧ tt σ2 H2 fun b H3 => if b = true then te σ2 H3 k else k0 H3)
    (hd : ∀ H, Same H1 H → H D = some (.lst ((xs.filter p).map V.str)) → Qd H) :
    ∃ W : Nat → Nat → Hp → Prop, (∃ m, W 0 m (upd H1 D (.lst []))) ∧ ∀ i m H, W i m H →
      (J.stop i H ∧ Qd H) ∨ (J.go i H ∧ ∃ Nx : Hp → Prop, (∀ H', Nx H' → ∃ m', m' < m ∧ W (i + 1) m' H') ∧ ∀ x H', J.yld i H x H' → g x (wipe σ vs) H' fun σ2 H2 => wipe σ2 vs = wipe σ vs ∧ tt σ2 H2 fun b H3 =>
        if b = true then te σ2 H3 fun y H4 => ∃ acc, H4 D = some (.lst acc) ∧ acc.length < sizeLine ∧ Nx (upd H4 D (.lst (acc ++ [y]))) else Nx H3) := by
  refine lc_it w (fun i H' => Same H1 H' ∧ H' D = some (.lst (((xs.take i).filter p).map V.str))) ⟨same_upd hD, upd_same⟩ (fun i H' _ h => hG H' h.1) ?_ ?_
  · rintro i v H H' hi ⟨s1, d1⟩ y
    rw [List.length_map] at hi
    obtain ⟨x, hx⟩ : ∃ x, xs[i]? = some x := ⟨xs[i], List.getElem?_eq_getElem hi⟩
    have ft : (xs.take (i + 1)).filter p = (xs.take i).filter p ++ if p x = true then [x] else [] := by
      rw [List.take_add_one, hx, List.filter_append]
      show _ ++ List.filter p [x] = _
      rw [List.filter_cons, List.filter_nil]
    refine hs i x v H H' _ _ hx s1 y (fun c H4 s4 => ?_) (fun c H4 s4 => ?_)
    · rw [if_pos c] at ft
      refine ⟨_, s4 _ _ d1, ?_, fun b o e => ?_, ?_⟩
      · rw [List.length_map]
        exact small1000 (Nat.le_trans (List.length_filter_le _ _) (by rw [List.length_take]; omega))
      · rw [upd_ne (ne_of_none e hD)]
        exact s4 _ _ (s1 _ _ e)
      · rw [upd_same, ft, List.map_append]
        rfl
    · rw [if_neg (by rw [c]; exact Bool.false_ne_true), List.append_nil] at ft
      exact ⟨s1.trans s4, by rw [ft]; exact s4 _ _ d1⟩
  · rintro H ⟨s1, d1⟩
    rw [List.length_map, List.take_of_length_le (Nat.le_refl _)] at d1
    exact hd H s1 d1
end
theorem trues_all (n : Nat) : ((List.range n).map fun _ => V.bl true) = (List.replicate n true).map V.bl := by
  rw [List.map_const', List.length_range, List.map_replicate]
end Lk
set_option maxRecDepth 100000
set_option maxHeartbeats 4000000
namespace Lk
open PySem PySem.Spec PyProof.Rows L2
/-! ### the set of a tuple of texts -/
section
variable {P : Program} {w : World} {A : Around} {E : Value → Shared → Prop} {s : Shared}
end
section
variable {X : Cx}
end
end Lk
set_option maxRecDepth 100000
set_option maxHeartbeats 4000000
namespace Lk
open PySem PySem.Spec PyProof.Rows L2
theorem ord_ring {ps : List (Str × Str)} {row : List Str} (irr : Irr ps) (hd : row.Nodup) (ne : goneR ps [] row ≠ []) : RingOk ps row (goneR ps [] row) (ringOf ps row (goneR ps [] row)) := by
  obtain ⟨r1, r2, _⟩ := gone_red (stay := []) irr row.length row rfl hd
  exact ringOf_ok hd r1 r2 ne
theorem ord_len {ps : List (Str × Str)} {row : List Str} {bs : List B3} (irr : Irr ps) (hd : row.Nodup) (ne : goneR ps [] row ≠ []) (e : bs.map (·.2) = ringOf ps row (goneR ps [] row)) : bs.length ≤ row.length := by
  obtain ⟨r1, _, _⟩ := gone_red (stay := []) irr row.length row rfl hd
  have h := ring_len (ord_ring irr hd ne)
  rw [← e, List.length_map] at h
  exact Nat.le_trans h r1.len
theorem OrdAt.lst {H : Hp} {p : Addr} {w : Str} {ps : List (Str × Str)} {row : List Str} (irr : Irr ps) (hd : row.Nodup) (hn : row.length ≤ 100) (h : OrdAt H p w ps row) : ∃ xs, H p = some (.lst xs) ∧ xs.length ≤ 100 ∧
    (∀ ke H', Same H H' → H' ke = some (.lst xs) → OrdAt H' ke w ps row) ∧ (∀ ke o', ke ≠ p → H ke = some (.lst xs) → OrdAt (upd H p o') ke w ps row) := by
  obtain ⟨_, _, gl⟩ := gone_red (stay := []) irr row.length row rfl hd
  rcases h with ⟨a1, a2, a3⟩ | ⟨a1, a2, bs, a3, a4, a5⟩
  · exact ⟨_, a3, by rw [List.length_map, List.length_reverse]; omega, fun ke H' s e => .inl ⟨a1, a2, e⟩, fun ke o' ne e => .inl ⟨a1, a2, (upd_ne ne).trans e⟩⟩
  · have bl := ord_len irr hd a1 a5
    refine ⟨_, a3, by show (bs.map _).length ≤ 100; rw [List.length_map]; omega, fun ke H' s e => .inr ⟨a1, a2, bs, e, a4.same s, a5⟩, fun ke o' ne e => .inr ⟨a1, a2, bs, (upd_ne ne).trans e, fun c hc => ?_, a5⟩⟩
    exact (upd_ne (ne_of (a4 c hc) a3 (fun z => nomatch z))).trans (a4 c hc)
end Lk
set_option maxRecDepth 100000
set_option maxHeartbeats 4000000
namespace Lk
open PySem PySem.Spec PyProof.Rows L2

/-! ### letters -/
/-! ### promises of the small judges -/
def LinksOk (H : Hp) (p : Addr) (bs : List B3) : Prop := H p = some (.lst (refs bs)) ∧ PairsAt H bs ∧ (∀ b ∈ bs, NameOk b.2.1) ∧ (bs.map (·.2.1)).Nodup ∧ bs ≠ [] ∧ bs.length ≤ 100
theorem LinksOk.same {H H' : Hp} {p : Addr} {bs : List B3} (s : Same H H') (h : LinksOk H p bs) : LinksOk H' p bs := ⟨s _ _ h.1, h.2.1.same s, h.2.2⟩
end Lk
set_option maxRecDepth 100000
set_option maxHeartbeats 4000000
namespace Lk
open PySem PySem.Spec PyProof.Rows L2

/-! ### whoever comes, the same are left -/
theorem come_nodup {ps : List (Str × Str)} {row : List Str} {x : Str} (hd : row.Nodup) (nx : x ∉ row) : (comeTo ps row x).Nodup := (come_perm ps row x).nodup_iff.mpr (List.nodup_cons.mpr ⟨nx, hd⟩)
theorem gone_come {ps : List (Str × Str)} {row : List Str} {x : Str} (irr : Irr ps) (hd : row.Nodup) (nx : x ∉ row) : goneR ps [] (comeTo ps row x) = goneR ps [] row := by
  have hs : (x :: row).Nodup := List.nodup_cons.mpr ⟨nx, hd⟩
  obtain ⟨r1, r2, _⟩ := gone_red (stay := []) irr row.length row rfl hd
  have lx := come_loose ps row x
  have er := come_rem (ps := ps) hs
  have r : Red ps [] (comeTo ps row x) (goneR ps [] row) := .go x lx (fun z => nomatch z) (by rw [er]; exact r1)
  exact (gone_uniq irr (come_nodup hd nx) r r2).symm
def rowN (ps : List (Str × Str)) (row later : List Str) : List Str := later.foldl (comeTo ps) row
/-- what order_of told, and who came since -/
def MatAt (H : Hp) (p : Addr) (word : Str) (ps : List (Str × Str)) (row more : List Str) : Prop :=
  (word = "ring" ∧ goneR ps [] row ≠ [] ∧ ∃ bs : List B3, H p = some (.lst (refs bs)) ∧ PairsAt H bs ∧ bs.map (·.2) = ringOf ps row (goneR ps [] row)) ∨ (word = "order" ∧ goneR ps [] row = [] ∧ H p = some (.lst (((goneO ps [] row).reverse ++ more).map V.str)))
theorem MatAt.same {H H' : Hp} {p : Addr} {word : Str} {ps : List (Str × Str)} {row more : List Str} (s : Same H H') (h : MatAt H p word ps row more) : MatAt H' p word ps row more :=
  h.elim (fun ⟨h1, h2, bs, h3, h4, h5⟩ => .inl ⟨h1, h2, bs, s _ _ h3, h4.same s, h5⟩) (fun ⟨h1, h2, h3⟩ => .inr ⟨h1, h2, s _ _ h3⟩)
theorem OrdAt.word {H : Hp} {p : Addr} {w : Str} {ps : List (Str × Str)} {row : List Str} (h : OrdAt H p w ps row) : (w = "ring" ∧ goneR ps [] row ≠ []) ∨ (w = "order" ∧ goneR ps [] row = []) := h.elim (fun h => .inr ⟨h.2.1, h.1⟩) (fun h => .inl ⟨h.2.1, h.1⟩)
end Lk
set_option maxRecDepth 100000
set_option maxHeartbeats 4000000
namespace Lk
open PySem PySem.Spec PyProof.Rows L2

/-! ### behind whom one came -/
/-- the name at a place -/
def nameAt (row : List Str) : Option Nat → Option Str
  | none => none
  | some k => row[k]?
end Lk
set_option maxRecDepth 100000
set_option maxHeartbeats 4000000
namespace Lk
open PySem PySem.Spec PyProof.Rows L2

/-! ### lists of lists -/
abbrev LA := Addr × List Str
def ListsAt (H : Hp) (ls : List LA) : Prop := ∀ q ∈ ls, H q.1 = some (.lst (q.2.map V.str))
theorem ListsAt.same {H H' : Hp} {ls : List LA} (s : Same H H') (h : ListsAt H ls) : ListsAt H' ls := fun q hq => s _ _ (h q hq)
theorem ListsAt.app {H : Hp} {ls ms : List LA} (h : ListsAt H ls) (h' : ListsAt H ms) : ListsAt H (ls ++ ms) := fun q hq => (List.mem_append.mp hq).elim (h q) (h' q)
end Lk
set_option maxRecDepth 100000
set_option maxHeartbeats 4000000
namespace Lk
open PySem PySem.Spec PyProof.Rows L2

/-! ### small things that can be written -/
structure Fit (n w : Nat) (d : PyData) : Prop where
  sh : d.showable = true
  nd : d.hasDict = false
  dp : d.depth ≤ n
  lv : d.leavesShort 13 = true
  wt : d.weight ≤ w
theorem Fit.mono {n w n' w' : Nat} {d : PyData} (h : Fit n w d) (h1 : n ≤ n') (h2 : w ≤ w') : Fit n' w' d := ⟨h.sh, h.nd, Nat.le_trans h.dp h1, h.lv, Nat.le_trans h.wt h2⟩
section
variable {X : Cx}
end
theorem dpAll_map {α : Type} {K : PySem.W.Frag} {H : Hp} (f : α → V) (g : α → PyData) : ∀ {xs : List α}, (∀ x ∈ xs, Dp K H (f x) (g x)) → DpAll K H (xs.map f) (xs.map g)
  | [], _ => .nil
  | x :: xs, h => .cons (h x List.mem_cons_self) (dpAll_map f g fun y hy => h y (List.mem_cons_of_mem _ hy))
/-- friends, as they are written -/
def palsD (ps : List (Str × Str)) : PyData := .tuple (ps.map fun p => .tuple [.str p.1, .str p.2])
theorem PalsAt.dp {K : PySem.W.Frag} {H : Hp} {a : Addr} {ps : List (Str × Str)} (h : PalsAt H a ps) : Dp K H (.ref a) (palsD ps) := by
  obtain ⟨bs, h1, h2, rfl⟩ := h
  unfold palsD
  rw [List.map_map]
  refine .tup (.inl (.inl h1)) (dpAll_map _ _ fun b hb => ?_)
  exact .tup (.inl (.inl (h2 b hb))) (.cons (.str _) (.cons (.str _) .nil))
end Lk
set_option maxRecDepth 100000
set_option maxHeartbeats 4000000
namespace Lk
open PySem PySem.Spec PyProof.Rows L2

/-! ### neighbours exchanged -/
def swapL (l : List Str) (i : Nat) (x y : Str) : List Str := l.take i ++ [y, x] ++ l.drop (i + 2)
/-! ### how many pairs stand the other way about -/
/-! ### promises -/
/-- people, friends, an order, its row -/
def spWorld : Sp := fun vs H Q _ => ∃ (b : Addr) (least utmost : Nat), vs = [.ref b, .int least, .int utmost] ∧ IsBox H b ∧ least ≤ utmost ∧ utmost ≤ 26 ∧
  ∀ (T a l o t : Addr) (bs : List B3) (pool order : List Str) (H' : Hp), Oth b H H' → IsBox H' b → H' T = some (.tup [.ref a, .ref l, .ref o, .ref t]) → H a = none → H l = none → H o = none → H' a = some (.tup (refs bs)) → PairsAt H' bs → (∃ cs : List B3, bs = cs.mergeSort (PySem.W.dataLe false encP)) → H' l = some (.lst (pool.map V.str)) → H' o = some (.lst (order.map V.str)) →
    TupAt H' t ((standOf (bs.map (·.2)) order).map V.str) → l ≠ o → pool.Nodup → (∀ x ∈ pool, NameOk x) → order.Perm pool → OfPool pool (bs.map (·.2)) → bs.length ≤ 1000 → least ≤ pool.length → pool.length ≤ utmost → Q (.ref T) H'
end Lk
set_option maxRecDepth 100000
set_option maxHeartbeats 4000000
namespace Lk
open PySem PySem.Spec PyProof.Rows L2

/-! ### hosts, as they are told -/
abbrev B3O := Addr × Str × Option Str
def optV : Option Str → V
  | none => .non
  | some y => .str y
def refsO (qs : List B3O) : List V := qs.map fun q => V.ref q.1
def PairsO (H : Hp) (qs : List B3O) : Prop := ∀ q ∈ qs, H q.1 = some (.tup [.str q.2.1, optV q.2.2])
theorem PairsO.same {H H' : Hp} {qs : List B3O} (s : Same H H') (h : PairsO H qs) : PairsO H' qs := fun b hb => s _ _ (h b hb)
theorem PairsO.upd_ {H : Hp} {l : Addr} {ys : List V} {o' : HO} {qs : List B3O} (hl : H l = some (.lst ys)) (h : PairsO H qs) : PairsO (upd H l o') qs := fun c hc => (upd_ne (ne_of (h c hc) hl (fun z => nomatch z))).trans (h c hc)
def hostO (ps : List (Str × Str)) (row : List Str) (x : Str) : Option Str := nameAt row (lastP (frd ps x) (row.take (row.idxOf x)))
def hungL (ps : List (Str × Str)) (row : List Str) (n : Nat) : List (Str × Option Str) := (row.take n).map fun x => (x, hostO ps row x)
theorem hungL_step {ps : List (Str × Str)} {row : List Str} {i : Nat} {x : Str} (h : row[i]? = some x) : hungL ps row (i + 1) = hungL ps row i ++ [(x, hostO ps row x)] := by
  unfold hungL
  rw [List.take_add_one, h, List.map_append]
  rfl
theorem hungL_len (ps : List (Str × Str)) (row : List Str) (n : Nat) : (hungL ps row n).length ≤ row.length := by
  unfold hungL
  rw [List.length_map, List.length_take]
  omega
theorem hostO_at {ps : List (Str × Str)} {row : List Str} {i : Nat} {x : Str} (hd : row.Nodup) (h : row[i]? = some x) : hostO ps row x = nameAt row (lastP (frd ps x) (row.take i)) := by
  unfold hostO
  rw [idx_at hd h]
theorem stand_gone {ps : List (Str × Str)} {order : List Str} (irr : Irr ps) (hd : order.Nodup) : goneR ps [] (standOf ps order) = [] := (gone_uniq irr ((stand_perm ps order).nodup_iff.mpr hd) (stand_red order.length order rfl hd) (nf_nil ps)).symm

/-! ### promises -/
def spSomeO : Sp := fun vs H Q _ => ∃ (a r : Addr) (ps : List (Str × Str)) (row : List Str), vs = [.ref a, .ref r] ∧ FrAt H a ps ∧ ps.length ≤ 1000 ∧ RowAt H r row ∧ row.Nodup ∧ row.length ≤ 100 ∧ goneR ps [] row = [] ∧
  ∀ p H', Same H H' → H p = none → H' p = some (.lst ((goneO ps [] row).reverse.map V.str)) → Q (.ref p) H'
def spHung : Sp := fun vs H Q _ => ∃ (a r : Addr) (ps : List (Str × Str)) (row : List Str), vs = [.ref a, .ref r] ∧ FrAt H a ps ∧ ps.length ≤ 1000 ∧ RowAt H r row ∧ row.Nodup ∧ row.length ≤ 100 ∧ goneR ps [] row = [] ∧
  ∀ p (qs : List B3O) H', Same H H' → H p = none → H' p = some (.lst (refsO qs)) → PairsO H' qs → qs.map (·.2) = hungL ps row row.length → Q (.ref p) H'
/-- whom each bars, and more -/
def LedTo (H : Hp) (D : Addr) (ps : List (Str × Str)) (stand : List Str) (n : Nat) : Prop := ∃ kvs, H D = some (.dK kvs) ∧ kvs.length ≤ 100 ∧ ∀ x ∈ stand.take n, ∃ (la : Addr) (ys : List Str), valV kvs (.inr x) = some (.ref la) ∧ H la = some (.lst (ys.map V.str)) ∧ ys.Nodup ∧ (∀ y ∈ ys, y ∈ stand) ∧ ∀ y ∈ stand, wordsAt ps stand x y ≠ [] → y ∈ ys
theorem LedTo.same {H H' : Hp} {D : Addr} {ps : List (Str × Str)} {stand : List Str} {n : Nat} (s : Same H H') (h : LedTo H D ps stand n) : LedTo H' D ps stand n := by
  obtain ⟨kvs, h1, hk, h2⟩ := h
  refine ⟨kvs, s _ _ h1, hk, fun x hx => ?_⟩
  obtain ⟨la, ys, q1, q2, q3⟩ := h2 x hx
  exact ⟨la, ys, q1, s _ _ q2, q3⟩
end Lk
set_option maxRecDepth 100000
set_option maxHeartbeats 4000000
namespace Lk
open PySem PySem.Spec PyProof.Rows L2

/-! ### deeds: nobody: a serving; somebody: its coming -/
abbrev Deed := Option Str
def deedL : Deed → List Str
  | none => ["serve"]
  | some x => ["come", x]
abbrev LD := Addr × Deed
def DeedsAt (H : Hp) (ds : List LD) : Prop := ∀ q ∈ ds, TupAt H q.1 ((deedL q.2).map V.str)
theorem DeedsAt.same {H H' : Hp} {ds : List LD} (s : Same H H') (h : DeedsAt H ds) : DeedsAt H' ds := fun q hq => (h q hq).same s
/-- the row and those who were served, behind one deed -/
def stepD (ps : List (Str × Str)) (st : List Str × List Str) (met : List Str) : Deed → Option (List Str × List Str)
  | none => if st.1 = [] then none else some (st.1.drop 1, st.2 ++ st.1.take 1)
  | some x => if x ∈ met then none else some (comeTo ps st.1 x, st.2)
def comers (ds : List Deed) : List Str := ds.filterMap id
def goD (ps : List (Str × Str)) : List Deed → List Str × List Str → List Str → Option (List Str × List Str)
  | [], st, _ => some st
  | d :: ds, st, met => match stepD ps st met d with
    | none => none
    | some st' => goD ps ds st' (met ++ d.toList)
/-- nobody is in it twice, and none but those who came or were there -/
theorem go_perm {ps : List (Str × Str)} : ∀ (ds : List Deed) (st : List Str × List Str) (met : List Str) (st' : List Str × List Str), goD ps ds st met = some st' → (st'.2 ++ st'.1).Perm (comers ds ++ (st.2 ++ st.1))
  | [], st, met, st', h => by
    have e : st = st' := Option.some.inj h
    subst e
    exact List.Perm.refl _
  | d :: ds, st, met, st', h => by
    have h' : (match stepD ps st met d with | none => none | some s2 => goD ps ds s2 (met ++ d.toList)) = some st' := h
    cases e : stepD ps st met d with
    | none => rw [e] at h'; cases h'
    | some s2 =>
      rw [e] at h'
      have ih := go_perm ds s2 (met ++ d.toList) st' h'
      refine ih.trans ?_
      cases d with
      | none =>
        have e2 : (if st.1 = [] then none else some (st.1.drop 1, st.2 ++ st.1.take 1)) = some s2 := e
        by_cases c : st.1 = []
        · rw [if_pos c] at e2
          cases e2
        · rw [if_neg c] at e2
          have e3 := Option.some.inj e2
          subst e3
          show (comers ds ++ ((st.2 ++ st.1.take 1) ++ st.1.drop 1)).Perm (comers ds ++ (st.2 ++ st.1))
          rw [List.append_assoc, List.take_append_drop]
      | some x =>
        have e2 : (if x ∈ met then none else some (comeTo ps st.1 x, st.2)) = some s2 := e
        by_cases c : x ∈ met
        · rw [if_pos c] at e2
          cases e2
        · rw [if_neg c] at e2
          have e3 := Option.some.inj e2
          subst e3
          show (comers ds ++ (st.2 ++ comeTo ps st.1 x)).Perm (x :: comers ds ++ (st.2 ++ st.1))
          have p1 : (st.2 ++ comeTo ps st.1 x).Perm (x :: (st.2 ++ st.1)) := (List.Perm.append_left _ (come_perm ps st.1 x)).trans List.perm_middle
          exact (List.Perm.append_left _ p1).trans List.perm_middle
/-! ### promises -/
end Lk
set_option maxRecDepth 100000
set_option maxHeartbeats 4000000
namespace Lk
open PySem PySem.Spec PyProof.Rows L2

/-! ### back through servings -/
/-- no friend of it stands behind it -/
def NoBeh (ps : List (Str × Str)) (row : List Str) (x : Str) : Prop := ∃ c d, row = c ++ x :: d ∧ ∀ y ∈ d, frd ps x y = false
theorem LooseIn.nb {ps : List (Str × Str)} {row : List Str} {x : Str} (h : LooseIn ps row x) : NoBeh ps row x := by
  obtain ⟨a, b, e, h1, _⟩ := h
  exact ⟨a, b, e, h1⟩
theorem NoBeh.mem {ps : List (Str × Str)} {row : List Str} {x : Str} (h : NoBeh ps row x) : x ∈ row := by
  obtain ⟨a, b, rfl, _⟩ := h
  simp
theorem NoBeh.cons {ps : List (Str × Str)} {row : List Str} {x : Str} (y : Str) (h : NoBeh ps row x) : NoBeh ps (y :: row) x := by
  obtain ⟨a, b, rfl, h1⟩ := h
  exact ⟨y :: a, b, rfl, h1⟩
theorem NoBeh.rem_ {ps : List (Str × Str)} {row : List Str} {x y : Str} (h : NoBeh ps row x) (ne : x ≠ y) : NoBeh ps (rem row y) x := by
  obtain ⟨a, b, rfl, h1⟩ := h
  refine ⟨rem a y, rem b y, ?_, fun z hz => h1 z (List.mem_filter.mp hz).1⟩
  unfold rem
  rw [List.filter_append, List.filter_cons]
  simp [ne]
theorem diamondN {ps : List (Str × Str)} {row : List Str} {x y : Str} (hd : row.Nodup) (hx : LooseIn ps row x) (hy : NoBeh ps row y) (ne : x ≠ y) : LooseIn ps (rem row y) x := by
  obtain ⟨a, b, e, h1, h2⟩ := hx
  have my : y ∈ row := hy.mem
  obtain ⟨c, d, e', g1⟩ := hy
  have my' : y ∈ a ∨ y ∈ b := by
    rw [e] at my
    rcases List.mem_append.mp my with z | z
    · exact .inl z
    · rcases List.mem_cons.mp z with z | z
      · exact absurd z.symm ne
      · exact .inr z
  rcases my' with m | m
  · obtain ⟨a1, a2, rfl⟩ := List.append_of_mem m
    have e2 : row = a1 ++ y :: (a2 ++ x :: b) := by rw [e]; simp
    have er : rem row y = (a1 ++ a2) ++ x :: b := by
      rw [e2, rem_split (by rw [← e2]; exact hd)]
      simp
    refine ⟨a1 ++ a2, b, er, h1, ?_⟩
    obtain ⟨_, u2⟩ := split_uniq hd e2 e'
    rcases h2 with ⟨a', f, ea, hf⟩ | ⟨na, nb⟩
    · rcases List.eq_nil_or_concat a2 with z | ⟨l, g, z⟩
      · subst z
        have q := List.append_inj' ea (by rfl)
        have ey : y = f := (List.cons.inj q.2).1
        have bad := g1 x (by rw [← u2]; simp)
        rw [frd_comm, ey, hf] at bad
        cases bad
      · rw [List.concat_eq_append] at z
        subst z
        have ea' : (a1 ++ y :: l) ++ [g] = a' ++ [f] := by rw [← ea]; simp
        have q := List.append_inj' ea' rfl
        have eg : g = f := (List.cons.inj q.2).1
        exact .inl ⟨a1 ++ l, g, by simp, by rw [eg]; exact hf⟩
    · exact .inr ⟨fun z hz => na z (by
        rcases List.mem_append.mp hz with w | w
        · exact List.mem_append_left _ w
        · exact List.mem_append_right _ (List.mem_cons_of_mem _ w)), nb⟩
  · obtain ⟨b1, b2, rfl⟩ := List.append_of_mem m
    have e2 : row = (a ++ x :: b1) ++ y :: b2 := by rw [e]; simp
    have er : rem row y = a ++ x :: (b1 ++ b2) := by
      rw [e2, rem_split (by rw [← e2]; exact hd)]
      simp
    refine ⟨a, b1 ++ b2, er, fun z hz => h1 z (by
        rcases List.mem_append.mp hz with w | w
        · exact List.mem_append_left _ w
        · exact List.mem_append_right _ (List.mem_cons_of_mem _ w)), ?_⟩
    rcases h2 with h | ⟨_, z⟩
    · exact .inl h
    · exact absurd z (by simp)
/-- back from a row, `m` served, to one with `m0` served: the last deed first; whoever has to stay at that moment stays -/
inductive Way (ps : List (Str × Str)) (stay : Nat → List Str) (sv : List Str) (m0 : Nat) : Nat → List Str → List Deed → List Str → Prop where
  | done (row : List Str) : Way ps stay sv m0 m0 row [] row
  | go {m : Nat} {row : List Str} {ds : List Deed} {fin : List Str} (x : Str) (h : LooseIn ps row x) (hs : x ∉ stay m) (t : Way ps stay sv m0 m (rem row x) ds fin) : Way ps stay sv m0 m row (some x :: ds) fin
  | back {m : Nat} {row : List Str} {ds : List Deed} {fin : List Str} (y : Str) (h : sv[m]? = some y) (t : Way ps stay sv m0 m (y :: row) ds fin) : Way ps stay sv m0 (m + 1) row (none :: ds) fin
section
variable {ps : List (Str × Str)} {stay stay' : Nat → List Str} {sv : List Str} {m0 m1 m : Nat} {row mid fin : List Str} {ds ds' : List Deed}
theorem Way.le (h : Way ps stay sv m0 m row ds fin) : m0 ≤ m := by
  induction h with
  | done _ => exact Nat.le_refl _
  | go x h hs t ih => exact ih
  | back y h t ih => omega
theorem Way.trans (h : Way ps stay sv m1 m row ds mid) : Way ps stay sv m0 m1 mid ds' fin → Way ps stay sv m0 m row (ds ++ ds') fin := by
  induction h with
  | done _ => exact id
  | go x h hs t ih => exact fun k => .go x h hs (ih k)
  | back y h t ih => exact fun k => .back y h (ih k)
theorem line_back {y : Str} (h : sv[m]? = some y) : sv.take (m + 1) ++ row = sv.take m ++ y :: row := by
  rw [List.take_add_one, h]
  simp
theorem nd_right {a b : List Str} (h : (a ++ b).Nodup) : b.Nodup := (List.nodup_append.mp h).2.1
theorem nd_rem {a b : List Str} {x : Str} (h : (a ++ b).Nodup) : (a ++ rem b x).Nodup := h.sublist (List.Sublist.append_left List.filter_sublist _)
theorem Way.sub (h : Way ps stay sv m0 m row ds fin) : ∀ x ∈ fin, x ∈ sv.take m ++ row := by
  induction h with
  | done _ => exact fun x hx => List.mem_append_right _ hx
  | go y h hs t ih =>
    intro x hx
    rcases List.mem_append.mp (ih x hx) with z | z
    · exact List.mem_append_left _ z
    · exact List.mem_append_right _ (List.mem_filter.mp z).1
  | back y h t ih =>
    intro x hx
    rw [line_back h]
    exact ih x hx
theorem rem_no {row : List Str} {x : Str} (h : x ∉ row) : rem row x = row := List.filter_eq_self.mpr fun y hy => by
  have : ¬ y = x := fun z => h (z ▸ hy)
  simp [this]
/-- who could go once may be gone at once -/
theorem Way.swap (h : Way ps stay sv m0 m row ds fin) : (sv.take m ++ row).Nodup → ∀ x, NoBeh ps row x → ∃ ds', Way ps stay sv m0 m (rem row x) ds' (rem fin x) := by
  induction h with
  | done row => exact fun _ x _ => ⟨[], .done _⟩
  | @go m row ds fin y hy hs t ih =>
    intro hd x hx
    by_cases e : y = x
    · subst e
      have ny : y ∉ fin := fun z => by
        have q := t.sub y z
        have dj := (List.nodup_append.mp hd).2.2
        rcases List.mem_append.mp q with u | u
        · exact dj y u y hx.mem rfl
        · have := (List.mem_filter.mp u).2
          simp at this
      rw [rem_no ny]
      exact ⟨ds, t⟩
    · obtain ⟨ds', w⟩ := ih (nd_rem hd) x (hx.rem_ (fun z => e z.symm))
      rw [rem_comm] at w
      exact ⟨some y :: ds', .go y (diamondN (nd_right hd) hy hx e) hs w⟩
  | @back m row ds fin y hy t ih =>
    intro hd x hx
    rw [line_back hy] at hd
    have ne : y ≠ x := fun z => by
      have := (List.nodup_cons.mp (nd_right hd)).1
      exact this (z ▸ hx.mem)
    obtain ⟨ds', w⟩ := ih hd x (hx.cons y)
    have e : rem (y :: row) x = y :: rem row x := by
      unfold rem
      rw [List.filter_cons]
      simp [ne]
    rw [e] at w
    exact ⟨none :: ds', .back y hy w⟩
theorem Red.nd2 {s : List Str} {a row n : List Str} (r : Red ps s row n) : (a ++ row).Nodup → (a ++ n).Nodup := by
  induction r with
  | done _ => exact id
  | go x _ _ t ih => exact fun h => ih (nd_rem h)
/-! ### histories are such ways -/
def Free (stay : Nat → List Str) : Nat → List Deed → Prop
  | _, [] => True
  | m, none :: ds => Free stay (m + 1) ds
  | m, some x :: ds => x ∉ stay m ∧ Free stay m ds
theorem go_pre : ∀ (ds : List Deed) {st : List Str × List Str} {met : List Str} {st' : List Str × List Str}, goD ps ds st met = some st' → ∃ e, st'.2 = st.2 ++ e
  | [], st, met, st', h => by
    have e : st = st' := Option.some.inj h
    subst e
    exact ⟨[], by simp⟩
  | d :: ds, st, met, st', h => by
    have h' : (match stepD ps st met d with | none => none | some s2 => goD ps ds s2 (met ++ d.toList)) = some st' := h
    cases e : stepD ps st met d with
    | none => rw [e] at h'; cases h'
    | some s2 =>
      rw [e] at h'
      obtain ⟨e3, q⟩ := go_pre ds h'
      cases d with
      | none =>
        have e2 : (if st.1 = [] then none else some (st.1.drop 1, st.2 ++ st.1.take 1)) = some s2 := e
        by_cases c : st.1 = []
        · rw [if_pos c] at e2
          cases e2
        · rw [if_neg c] at e2
          have e5 := Option.some.inj e2
          subst e5
          exact ⟨st.1.take 1 ++ e3, by rw [q, List.append_assoc]⟩
      | some x =>
        have e2 : (if x ∈ met then none else some (comeTo ps st.1 x, st.2)) = some s2 := e
        by_cases c : x ∈ met
        · rw [if_pos c] at e2
          cases e2
        · rw [if_neg c] at e2
          have e5 := Option.some.inj e2
          subst e5
          exact ⟨e3, q⟩
theorem go_way : ∀ (ds : List Deed) {st0 gn0 met st gn : List Str}, goD ps ds (st0, gn0) met = some (st, gn) → (∀ x ∈ gn0 ++ st0, x ∈ met) → (gn0 ++ st0).Nodup → Free stay gn0.length ds → (∃ more, sv = gn ++ more) → Way ps stay sv gn0.length gn.length st ds.reverse st0
  | [], st0, gn0, met, st, gn, h, _, _, _, _ => by
    have e : (st0, gn0) = (st, gn) := Option.some.inj h
    have e1 : st0 = st := congrArg Prod.fst e
    have e2 : gn0 = gn := congrArg Prod.snd e
    subst e1
    subst e2
    exact .done _
  | none :: ds, st0, gn0, met, st, gn, h, hm, hd, hf, hs => by
    have h' : (match (if st0 = [] then none else some (st0.drop 1, gn0 ++ st0.take 1)) with | none => none | some s2 => goD ps ds s2 (met ++ [])) = some (st, gn) := h
    cases st0 with
    | nil =>
      rw [if_pos rfl] at h'
      cases h'
    | cons y st1 =>
      rw [if_neg (by simp), List.append_nil] at h'
      have h2 : goD ps ds (st1, gn0 ++ [y]) met = some (st, gn) := h'
      have hd2 : ((gn0 ++ [y]) ++ st1).Nodup := by
        rw [List.append_assoc]
        exact hd
      have l1 : (gn0 ++ [y]).length = gn0.length + 1 := by simp
      have w := go_way ds h2 (fun x hx => hm x (by simpa using hx)) hd2 (by rw [l1]; exact hf) hs
      rw [l1] at w
      obtain ⟨e, q⟩ := go_pre ds h2
      obtain ⟨more, hmore⟩ := hs
      have at_ : sv[gn0.length]? = some y := by
        rw [hmore, show gn = (gn0 ++ [y]) ++ e from q]
        simp
      rw [List.reverse_cons]
      exact w.trans (.back y at_ (.done _))
  | some x :: ds, st0, gn0, met, st, gn, h, hm, hd, hf, hs => by
    have h' : (match (if x ∈ met then none else some (comeTo ps st0 x, gn0)) with | none => none | some s2 => goD ps ds s2 (met ++ [x])) = some (st, gn) := h
    by_cases c : x ∈ met
    · rw [if_pos c] at h'
      cases h'
    · rw [if_neg c] at h'
      have h2 : goD ps ds (comeTo ps st0 x, gn0) (met ++ [x]) = some (st, gn) := h'
      have nx : x ∉ gn0 ++ st0 := fun z => c (hm x z)
      have pm : (gn0 ++ comeTo ps st0 x).Perm (x :: (gn0 ++ st0)) := (List.Perm.append_left _ (come_perm ps st0 x)).trans List.perm_middle
      have hd2 : (gn0 ++ comeTo ps st0 x).Nodup := pm.nodup_iff.mpr (List.nodup_cons.mpr ⟨nx, hd⟩)
      have w := go_way ds h2 (fun y hy => by
        rcases List.mem_cons.mp (pm.mem_iff.mp hy) with z | z
        · rw [z]
          simp
        · exact List.mem_append_left _ (hm y z)) hd2 hf.2 hs
      rw [List.reverse_cons]
      refine w.trans (.go x (come_loose ps st0 x) hf.1 ?_)
      rw [come_rem (List.nodup_cons.mpr ⟨fun z => nx (List.mem_append_right _ z), nd_right hd⟩)]
      exact .done _
end
/-! ### traced_back -/
/-- they all stand in the line, one behind the other -/
def InLine (line elders : List Str) : Prop := (∀ x ∈ elders, x ∈ line) ∧ elders.Pairwise fun x y => line.idxOf x ≤ line.idxOf y
end Lk
set_option maxRecDepth 100000
set_option maxHeartbeats 4000000
namespace Lk
open PySem PySem.Spec PyProof.Rows L2
end Lk
set_option maxRecDepth 100000
set_option maxHeartbeats 4000000
namespace Lk
open PySem PySem.Spec PyProof.Rows L2
/-! ### deeds that can be done -/
/-! ### ways, one behind the other -/
end Lk
set_option maxRecDepth 100000
set_option maxHeartbeats 4000000
namespace Lk
open PySem PySem.Spec PyProof.Rows L2
/-! ### set(ns), ns a list of ints, none of them twice -/
section
variable {P : Program} {w : World} {A : Around} {E : Value → Shared → Prop} {s : Shared}
end
section
variable {X : Cx}
end
end Lk
set_option maxRecDepth 100000
set_option maxHeartbeats 4000000
namespace Lk
open PySem PySem.Spec PyProof.Rows L2
/-! ### a def whose last parameter, by its name alone, has a default: a bare tuple -/
structure CalK (P : Program) (w : World) (K : PySem.W.Frag) (mg : Str → Option Value) (base : Heap) (k : Nat) (x : Str) (ps : List Str) (n : Nat) (kw : Str) (sp : Sp) (E : Addr) : Prop where
  ex : ∃ f fd, FnOk P w K mg base CX0 k f fd ps sp ∧ mg x = some (.ref f) ∧ PySem.W.keepIn K (.ref f) = true ∧ KBn K fd ps n [kw] (fun us ws => us ++ ws) (fun vs zs => vs ++ zs) ∧ ∃ ds, Vals [V.ref E] ds ∧ Binds K fd ps ds
  emp : ∃ (o : Obj) (n : Nat), K.lookup E = some o ∧ o.cls = .type "tuple" ∧ o.data = .seq #[] n
theorem CalK.but {P : Program} {w : World} {K : PySem.W.Frag} {mg : Str → Option Value} {base : Heap} {k n : Nat} {x kw : Str} {ps : List Str} {sp : Sp} {E : Addr} (C : CalK P w K mg base k x ps n kw sp E) (H : Hp) : ButKeeps K H E [] := by
  obtain ⟨o, n, h1, h2, h3⟩ := C.emp
  exact fun _ _ => .inr (.inr ⟨o, #[], n, h1, h2, h3, Nat.zero_le _, .nil⟩)
section
variable {X : Cx} {k m n : Nat} {x kw : Str} {ps : List Str} {sp : Sp} {D : Addr} {p pos : Pos} {e : Expr} {es : List Expr} {t tk : TA} {kws : List Keyword}
end
end Lk
set_option maxRecDepth 100000
set_option maxHeartbeats 4000000
namespace Lk
open PySem PySem.Spec PyProof.Rows L2
/-! ### a story in two parts -/
section
variable {ps : List (Str × Str)}
theorem stepD_none {st gn met : List Str} {s2 : List Str × List Str} (h : stepD ps (st, gn) met none = some s2) : ∃ y st1, st = y :: st1 ∧ s2 = (st1, gn ++ [y]) := by
  have e2 : (if st = [] then none else some (st.drop 1, gn ++ st.take 1)) = some s2 := h
  cases st with
  | nil => rw [if_pos rfl] at e2; cases e2
  | cons y st1 =>
    rw [if_neg (by simp)] at e2
    exact ⟨y, st1, rfl, (Option.some.inj e2).symm⟩
theorem stepD_some {st gn met : List Str} {x : Str} {s2 : List Str × List Str} (h : stepD ps (st, gn) met (some x) = some s2) : x ∉ met ∧ s2 = (comeTo ps st x, gn) := by
  have e2 : (if x ∈ met then none else some (comeTo ps st x, gn)) = some s2 := h
  by_cases c : x ∈ met
  · rw [if_pos c] at e2
    cases e2
  · rw [if_neg c] at e2
    exact ⟨c, (Option.some.inj e2).symm⟩
theorem goD_cons {d : Deed} {ds : List Deed} {st st' : List Str × List Str} {met : List Str} (h : goD ps (d :: ds) st met = some st') : ∃ s2, stepD ps st met d = some s2 ∧ goD ps ds s2 (met ++ d.toList) = some st' := by
  have h' : (match stepD ps st met d with | none => none | some s2 => goD ps ds s2 (met ++ d.toList)) = some st' := h
  cases e : stepD ps st met d with
  | none => rw [e] at h'; cases h'
  | some s2 =>
    rw [e] at h'
    exact ⟨s2, rfl, h'⟩
theorem come_sub (ps : List (Str × Str)) (st : List Str) (x : Str) : st.Sublist (comeTo ps st x) := by
  unfold comeTo
  rw [List.append_assoc]
  have h : (st.take (spotOf ps st x) ++ st.drop (spotOf ps st x)).Sublist (st.take (spotOf ps st x) ++ ([x] ++ st.drop (spotOf ps st x))) := List.Sublist.append_left (List.sublist_cons_self _ _) _
  rw [List.take_append_drop] at h
  exact h
/-- the line keeps its order -/
theorem go_sub : ∀ (ds : List Deed) {st gn met st' gn' : List Str}, goD ps ds (st, gn) met = some (st', gn') → (gn ++ st).Sublist (gn' ++ st')
  | [], st, gn, met, st', gn', h => by
    have e : (st, gn) = (st', gn') := Option.some.inj h
    cases e
    exact List.Sublist.refl _
  | d :: ds, st, gn, met, st', gn', h => by
    obtain ⟨s2, h1, h2⟩ := goD_cons h
    cases d with
    | none =>
      obtain ⟨y, st1, rfl, rfl⟩ := stepD_none h1
      have := go_sub ds h2
      rw [List.append_assoc] at this
      exact this
    | some x =>
      obtain ⟨nx, rfl⟩ := stepD_some h1
      exact (List.Sublist.append_left (come_sub ps st x) gn).trans (go_sub ds h2)
theorem inLine_self {line : List Str} (nd : line.Nodup) : line.Pairwise fun x y => line.idxOf x ≤ line.idxOf y := by
  rw [List.pairwise_iff_getElem]
  intro i j hi hj hij
  rw [idx_at nd (List.getElem?_eq_getElem hi), idx_at nd (List.getElem?_eq_getElem hj)]
  omega
theorem inLine_sub {line elders : List Str} (nd : line.Nodup) (h : elders.Sublist line) : InLine line elders := ⟨fun _ hx => h.subset hx, (inLine_self nd).sublist h⟩
theorem Way.keep {stay : Nat → List Str} {sv : List Str} {m : Nat} {row fin : List Str} {ds : List Deed} {x : Str} (h : Way ps stay sv 0 m row ds fin) (hs : ∀ k, x ∈ stay k) : x ∈ sv.take m ++ row → x ∈ fin := by
  induction h with
  | done _ => exact fun z => by simpa using z
  | go y h hy t ih =>
    refine fun z => ih ?_
    rcases List.mem_append.mp z with u | u
    · exact List.mem_append_left _ u
    · refine List.mem_append_right _ (List.mem_filter.mpr ⟨u, ?_⟩)
      have : ¬ x = y := fun e => hy (e ▸ hs _)
      simp [this]
  | back y h t ih =>
    rw [line_back h]
    exact ih
/-! ### when somebody came -/
/-- a story's beginning and the rest of it -/
structure Parts (ps : List (Str × Str)) (ds1 ds2 : List Deed) (here sb st e : List Str) : Prop where
  g1 : goD ps ds1 ([], []) [] = some (here, sb)
  g2 : goD ps ds2 (here, []) (comers ds1) = some (st, e)
  nd : (comers ds1 ++ comers ds2).Nodup
namespace Parts
variable {ds1 ds2 : List Deed} {here sb st e : List Str}
theorem p1 (h : Parts ps ds1 ds2 here sb st e) : (sb ++ here).Perm (comers ds1) := by
  have := go_perm _ _ _ _ h.g1
  simpa using this
theorem p2 (h : Parts ps ds1 ds2 here sb st e) : (e ++ st).Perm (comers ds2 ++ here) := by
  have := go_perm _ _ _ _ h.g2
  simpa using this
theorem n1 (h : Parts ps ds1 ds2 here sb st e) : (sb ++ here).Nodup := h.p1.nodup_iff.mpr (List.nodup_append.mp h.nd).1
theorem dj (h : Parts ps ds1 ds2 here sb st e) : ∀ y ∈ comers ds2, y ∉ sb ++ here := fun y hy z => (List.nodup_append.mp h.nd).2.2 y (h.p1.mem_iff.mp z) y hy rfl
theorem n2 (h : Parts ps ds1 ds2 here sb st e) : (e ++ st).Nodup := h.p2.nodup_iff.mpr (List.nodup_append.mpr ⟨(List.nodup_append.mp h.nd).2.1, (List.nodup_append.mp h.n1).2.1, fun x hx y hy e => h.dj x hx (by rw [e]; exact List.mem_append_right _ hy)⟩)
theorem n3 (h : Parts ps ds1 ds2 here sb st e) : ((sb ++ e) ++ st).Nodup := by
  rw [List.append_assoc]
  refine List.nodup_append.mpr ⟨(List.nodup_append.mp h.n1).1, h.n2, fun x hx y hy q => ?_⟩
  subst q
  rcases List.mem_append.mp (h.p2.mem_iff.mp hy) with z | z
  · exact h.dj x z (List.mem_append_left _ hx)
  · exact (List.nodup_append.mp h.n1).2.2 x hx x z rfl
theorem w1 (h : Parts ps ds1 ds2 here sb st e) {stay : Nat → List Str} (hf : Free stay 0 ds1) : Way ps stay sb 0 sb.length here ds1.reverse [] := go_way ds1 h.g1 (fun _ z => nomatch z) List.nodup_nil hf ⟨[], (List.append_nil _).symm⟩
theorem w2 (h : Parts ps ds1 ds2 here sb st e) {stay : Nat → List Str} (hf : Free stay 0 ds2) : Way ps stay e 0 e.length st ds2.reverse here :=
  go_way ds2 h.g2 (fun x z => h.p1.mem_iff.mp (List.mem_append_right _ (by simpa using z))) (by simpa using (List.nodup_append.mp h.n1).2.1) hf ⟨[], (List.append_nil _).symm⟩
theorem line (h : Parts ps ds1 ds2 here sb st e) : InLine (e ++ st) here := inLine_sub h.n2 (by simpa using go_sub ds2 h.g2)
end Parts
end

/-! ### comprehensions that leave some out -/
section
variable {J : It} {n : Nat} {G : Hp → Prop} {Y : Nat → Hp → V → Hp → Prop} {g : TG} {tt : TT} {te : TE} {vs : List Nat} {σ : L2.St} {H1 : Hp} {D : Addr} {Qd : Hp → Prop}
theorem lc_pick {α : Type} (w : Walk J n G Y) (xs : List α) (f : α → V) (p : α → Bool) (hl : xs.length = n) (hn : n ≤ 1000) (hD : H1 D = none) (hG : ∀ H', Same H1 H' → G H')
    (hs : ∀ (i : Nat) (x : α) (v : V) (H H' : Hp) (k : V → Hp → Prop) (k0 : Hp → Prop), xs[i]? = some x → Same H1 H → Y i H v H' → (p x = true → ∀ H4, Same H H4 → k (f x) H4) → (p x = false → ∀ H4, Same H H4 → k0 H4) →
      g v (wipe σ vs) H' fun σ2 H2 => wipe σ2 vs = wipe σ vs ∧ tt σ2 H2 fun b H3 => if b = true then te σ2 H3 k else k0 H3)
    (hd : ∀ H, Same H1 H → H D = some (.lst ((xs.filter p).map f)) → Qd H) :
    ∃ W : Nat → Nat → Hp → Prop, (∃ m, W 0 m (upd H1 D (.lst []))) ∧ ∀ i m H, W i m H →
      (J.stop i H ∧ Qd H) ∨ (J.go i H ∧ ∃ Nx : Hp → Prop, (∀ H', Nx H' → ∃ m', m' < m ∧ W (i + 1) m' H') ∧ ∀ x H', J.yld i H x H' → g x (wipe σ vs) H' fun σ2 H2 => wipe σ2 vs = wipe σ vs ∧ tt σ2 H2 fun b H3 =>
        if b = true then te σ2 H3 fun y H4 => ∃ acc, H4 D = some (.lst acc) ∧ acc.length < sizeLine ∧ Nx (upd H4 D (.lst (acc ++ [y]))) else Nx H3) := by
  refine lc_it w (fun i H' => Same H1 H' ∧ H' D = some (.lst (((xs.take i).filter p).map f))) ⟨same_upd hD, upd_same⟩ (fun i H' _ h => hG H' h.1) ?_ ?_
  · rintro i v H H' hi ⟨s1, d1⟩ y
    obtain ⟨x, hx⟩ : ∃ x, xs[i]? = some x := ⟨xs[i]'(by omega), List.getElem?_eq_getElem (by omega)⟩
    have ft : (xs.take (i + 1)).filter p = (xs.take i).filter p ++ if p x = true then [x] else [] := by
      rw [List.take_add_one, hx, List.filter_append]
      show _ ++ List.filter p [x] = _
      rw [List.filter_cons, List.filter_nil]
    refine hs i x v H H' _ _ hx s1 y (fun c H4 s4 => ?_) (fun c H4 s4 => ?_)
    · rw [if_pos c] at ft
      refine ⟨_, s4 _ _ d1, ?_, fun b o e => ?_, ?_⟩
      · rw [List.length_map]
        exact small1000 (Nat.le_trans (List.length_filter_le _ _) (by rw [List.length_take]; omega))
      · rw [upd_ne (ne_of_none e hD)]
        exact s4 _ _ (s1 _ _ e)
      · rw [upd_same, ft, List.map_append]
        rfl
    · rw [if_neg (by rw [c]; exact Bool.false_ne_true), List.append_nil] at ft
      exact ⟨s1.trans s4, by rw [ft]; exact s4 _ _ d1⟩
  · rintro H ⟨s1, d1⟩
    rw [List.take_of_length_le (by omega)] at d1
    exact hd H s1 d1
end
/-! ### deeds as data -/
/-! ### lists of whole numbers -/
section
variable {X : Cx}
end
end Lk
set_option maxRecDepth 100000
set_option maxHeartbeats 4000000
namespace Lk
open PySem PySem.Spec PyProof.Rows L2
/-! ### from one to another by what bars -/
inductive Leads (ps : List (Str × Str)) (row : List Str) : Str → Str → Prop where
  | one {u v : Str} (hu : u ∈ row) (hv : v ∈ row) (h : Bars ps row u v) : Leads ps row u v
  | more {u w v : Str} (hu : u ∈ row) (hw : w ∈ row) (h : Bars ps row u w) (t : Leads ps row w v) : Leads ps row u v
section
variable {ps : List (Str × Str)} {row order : List Str}
theorem Leads.left {u v : Str} (h : Leads ps row u v) : u ∈ row := by
  cases h with
  | one hu _ _ => exact hu
  | more hu _ _ _ => exact hu
theorem Leads.trans {u w v : Str} (h : Leads ps row u w) : Leads ps row w v → Leads ps row u v := by
  induction h with
  | one hu hv h => exact fun t => .more hu hv h t
  | more hu hw h t ih => exact fun k => .more hu hw h (ih k)
/-- an order of a row -/
structure OrdOf (ps : List (Str × Str)) (row order : List Str) : Prop where
  nd : order.Nodup
  pm : order.Perm row
  st : standOf ps order = row
theorem OrdOf.ndr (h : OrdOf ps row order) : row.Nodup := h.pm.nodup_iff.mp h.nd
theorem OrdOf.len (h : OrdOf ps row order) : order.length = row.length := h.pm.length_eq
theorem OrdOf.bars (h : OrdOf ps row order) (irr : Irr ps) : ∀ u ∈ row, ∀ v ∈ row, Bars ps row u v → order.idxOf u < order.idxOf v := (lin_iff irr _ order row rfl h.nd h.pm).mp h.st
theorem Leads.idx {u v : Str} (irr : Irr ps) (o : OrdOf ps row order) (h : Leads ps row u v) : order.idxOf u < order.idxOf v := by
  induction h with
  | one hu hv h => exact o.bars irr _ hu _ hv h
  | more hu hw h t ih => exact Nat.lt_trans (o.bars irr _ hu _ hw h) ih
theorem Leads.ne {u v : Str} (irr : Irr ps) (o : OrdOf ps row order) (h : Leads ps row u v) : u ≠ v := fun e => by
  have := h.idx irr o
  rw [e] at this
  omega
theorem Leads.no {u v : Str} (irr : Irr ps) (o : OrdOf ps row order) (h : Leads ps row u v) : ¬ Leads ps row v u := fun z => (h.trans z).ne irr o rfl
/-! ### two parts of an order, one behind the other -/
end
end Lk
set_option maxRecDepth 100000
set_option maxHeartbeats 4000000
namespace Lk
open PySem PySem.Spec PyProof.Rows L2
section
variable {X : Cx}
end
/-! ### a dict that is locked for a walk -/
theorem same_unlock {H H' : Hp} {d : Addr} {u : HO} {od : Obj} (hd : H d = some u) (s : Same (upd H d (.frz od u)) H') : Same H (upd H' d u) := fun b o z => by
  by_cases c : b = d
  · subst c
    rw [upd_same, ← hd]
    exact z
  · rw [upd_ne c]
    exact s _ _ ((upd_ne c).trans z)
/-! ### dicts whose values are all True -/
def trueK (ys : List Str) : List (Key × V) := ys.map fun y => ((Sum.inr y : Key), V.bl true)
def SetD (H : Hp) (d : Addr) (ys : List Str) : Prop := H d = some (.dK (trueK ys))
/-! ### who came behind whom -/
abbrev B4 := Str × Addr × List Str
def behK (qs : List B4) : List (Key × V) := qs.map fun q => ((Sum.inr q.1 : Key), V.ref q.2.1)
def BehAt (H : Hp) (D : Addr) (ps : List (Str × Str)) (row xs : List Str) : Prop := ∃ qs : List B4, H D = some (.dK (behK qs)) ∧ qs.map (·.1) = xs ∧ ∀ q ∈ qs, SetD H q.2.1 q.2.2 ∧ q.2.2.Nodup ∧ ∀ y, y ∈ q.2.2 ↔ Leads ps row q.1 y
theorem BehAt.same {H H' : Hp} {D : Addr} {ps : List (Str × Str)} {row xs : List Str} (s : Same H H') (h : BehAt H D ps row xs) : BehAt H' D ps row xs := by
  obtain ⟨qs, h1, h2, h3⟩ := h
  exact ⟨qs, s _ _ h1, h2, fun q hq => ⟨s _ _ (h3 q hq).1, (h3 q hq).2⟩⟩
/-- whom each bars -/
def barsL (ps : List (Str × Str)) (row : List Str) (x : Str) : List Str := row.filter fun y => !decide (wordsAt ps row x y = [])
def BarAt (H : Hp) (D : Addr) (ps : List (Str × Str)) (row : List Str) (n : Nat) : Prop := ∃ kvs, H D = some (.dK kvs) ∧ kvs.length ≤ n ∧ ∀ x ∈ row.take n, ∃ la, valV kvs (.inr x) = some (.ref la) ∧ H la = some (.lst ((barsL ps row x).map V.str))
theorem BarAt.same {H H' : Hp} {D : Addr} {ps : List (Str × Str)} {row : List Str} {n : Nat} (s : Same H H') (h : BarAt H D ps row n) : BarAt H' D ps row n := by
  obtain ⟨kvs, h1, h2, h3⟩ := h
  refine ⟨kvs, s _ _ h1, h2, fun x hx => ?_⟩
  obtain ⟨la, e1, e2⟩ := h3 x hx
  exact ⟨la, e1, s _ _ e2⟩
/-! ### put back at least, at most -/
section
variable {ps : List (Str × Str)} {row order : List Str}
end
/-! ### triples of a name and two numbers -/
abbrev B3T := Addr × Str × Nat × Nat
def TripAt (H : Hp) (qs : List B3T) : Prop := ∀ q ∈ qs, H q.1 = some (.tup [.str q.2.1, .int q.2.2.1, .int q.2.2.2])
theorem TripAt.same {H H' : Hp} {qs : List B3T} (s : Same H H') (h : TripAt H qs) : TripAt H' qs := fun b hb => s _ _ (h b hb)
theorem TripAt.upd_ {H : Hp} {l : Addr} {ys : List V} {o' : HO} {qs : List B3T} (hl : H l = some (.lst ys)) (h : TripAt H qs) : TripAt (upd H l o') qs := fun c hc => (upd_ne (ne_of (h c hc) hl (fun z => nomatch z))).trans (h c hc)
/-! ### promises -/
/-- the dict of whom each leads to, by the law -/
def AftAt (H : Hp) (D : Addr) (ps : List (Str × Str)) (row xs : List Str) : Prop := ∃ kvs, H D = some (.dK kvs) ∧ kvs.length ≤ xs.length ∧ ∀ x ∈ xs, ∃ (la : Addr) (ys : List Str), valV kvs (.inr x) = some (.ref la) ∧ H la = some (.lst (ys.map V.str)) ∧ ys.Nodup ∧ ∀ y, y ∈ ys ↔ Leads ps row x y
theorem AftAt.same {H H' : Hp} {D : Addr} {ps : List (Str × Str)} {row xs : List Str} (s : Same H H') (h : AftAt H D ps row xs) : AftAt H' D ps row xs := by
  obtain ⟨kvs, h1, h2, h3⟩ := h
  refine ⟨kvs, s _ _ h1, h2, fun x hx => ?_⟩
  obtain ⟨la, ys, e1, e2, e3⟩ := h3 x hx
  exact ⟨la, ys, e1, s _ _ e2, e3⟩
/-- whom each bars, and more, but none that it does not lead to -/
def LedX (H : Hp) (D : Addr) (ps : List (Str × Str)) (stand : List Str) (n : Nat) : Prop := ∃ kvs, H D = some (.dK kvs) ∧ kvs.length ≤ 100 ∧ ∀ x ∈ stand.take n, ∃ (la : Addr) (ys : List Str), valV kvs (.inr x) = some (.ref la) ∧ H la = some (.lst (ys.map V.str)) ∧ ys.Nodup ∧ (∀ y ∈ ys, Leads ps stand x y) ∧ ∀ y ∈ stand, wordsAt ps stand x y ≠ [] → y ∈ ys
theorem LedX.same {H H' : Hp} {D : Addr} {ps : List (Str × Str)} {stand : List Str} {n : Nat} (s : Same H H') (h : LedX H D ps stand n) : LedX H' D ps stand n := by
  obtain ⟨kvs, h1, hk, h2⟩ := h
  refine ⟨kvs, s _ _ h1, hk, fun x hx => ?_⟩
  obtain ⟨la, ys, q1, q2, q3⟩ := h2 x hx
  exact ⟨la, ys, q1, s _ _ q2, q3⟩
/-- rows of pairs, one of each order -/
abbrev LN := Addr × List B3N
def RowsAt (H : Hp) (rs : List LN) : Prop := ∀ r ∈ rs, H r.1 = some (.lst (refsN r.2)) ∧ PairsN H r.2
theorem RowsAt.same {H H' : Hp} {rs : List LN} (s : Same H H') (h : RowsAt H rs) : RowsAt H' rs := fun r hr => ⟨s _ _ (h r hr).1, (h r hr).2.same s⟩
end Lk
set_option maxRecDepth 100000
set_option maxHeartbeats 4000000
namespace Lk
open PySem PySem.Spec PyProof.Rows L2
/-! ### how many pairs stand otherwise -/
section
variable {ps : List (Str × Str)} {row o o2 : List Str}
/-- places, exchanged at one behind the other, that lead from one order to another one -/
inductive Exs (ps : List (Str × Str)) (row : List Str) : List Str → List Nat → List Str → Prop where
  | nil (o : List Str) : Exs ps row o [] o
  | cons {o o' : List Str} {i : Nat} {ts : List Nat} (x y : Str) (hx : o[i]? = some x) (hy : o[i + 1]? = some y) (h : OrdOf ps row (swapL o i x y)) (t : Exs ps row (swapL o i x y) ts o') : Exs ps row o (i :: ts) o'
theorem Exs.at_ {o o' : List Str} {ts : List Nat} (h : Exs ps row o ts o') : ∀ (k : Nat), k ≤ ts.length → ∃ m, Exs ps row o (ts.take k) m ∧ Exs ps row m (ts.drop k) o' := by
  induction h with
  | nil o => exact fun k _ => ⟨o, by rw [List.take_nil]; exact .nil _, by rw [List.drop_nil]; exact .nil _⟩
  | @cons o o' i ts u v hu hv h t ih =>
    intro k hk
    cases k with
    | zero => exact ⟨_, .nil _, .cons u v hu hv h t⟩
    | succ k =>
      obtain ⟨m, m1, m2⟩ := ih k (by simpa using hk)
      exact ⟨m, .cons u v hu hv h m1, m2⟩
theorem Exs.uniq {o a : List Str} {ts : List Nat} (h : Exs ps row o ts a) : ∀ {b : List Str}, Exs ps row o ts b → a = b := by
  induction h with
  | nil o =>
    intro b h
    cases h with
    | nil _ => rfl
  | cons u v hu hv h t ih =>
    intro b k
    cases k with
    | cons x y hx hy h' t' =>
      rw [hu] at hx
      rw [hv] at hy
      cases hx
      cases hy
      exact ih t'
theorem Exs.ord {o a : List Str} {ts : List Nat} (h : Exs ps row o ts a) : OrdOf ps row o → OrdOf ps row a := by
  induction h with
  | nil o => exact id
  | cons u v hu hv h t ih => exact fun _ => ih h
/-! ### what is put back, all together -/
end
/-! ### promises -/
def spOther : Sp := fun vs H Q _ => ∃ (b a t : Addr) (ps : List (Str × Str)) (row : List Str), vs = [.ref b, .ref a, .ref t] ∧ IsBox H b ∧ PalsAt H a ps ∧ PalsOk ps ∧ Irr ps ∧ TupAt H t (row.map V.str) ∧ Goods row ∧ row.Nodup ∧ row.length ≤ 100 ∧ goneR ps [] row = [] ∧
  ∀ (p : Addr) (order : List Str) (H' : Hp), Oth b H H' → IsBox H' b → H p = none → H' p = some (.lst (order.map V.str)) → OrdOf ps row order → Q (.ref p) H'
def lstLen (H : Hp) (v : Option (Option V)) : List V := match v with
  | some (some (.ref a)) => (match H a with | some (.lst xs) => xs | some (.frz _ (.tup xs)) => xs | _ => [])
  | _ => []
theorem lstLen_tup {H : Hp} {a : Addr} {xs : List V} (h : TupAt H a xs) : lstLen H (some (some (.ref a))) = xs := by
  obtain ⟨o, _, e⟩ := h
  unfold lstLen
  simp only [e]
theorem merge_nd : ∀ (more acc : List (Key × V)), ((acc ++ more).map (·.1)).Nodup → mergeK acc more = acc ++ more
  | [], acc, _ => (List.append_nil _).symm
  | kv :: more, acc, h => by
    show mergeK (putK acc kv.1 kv.2) more = acc ++ kv :: more
    have nk : valV acc kv.1 = none := by
      unfold valV
      rw [List.find?_eq_none.mpr fun e he => ?_]
      · rfl
      · rw [List.map_append, List.map_cons] at h
        have := (List.nodup_append.mp h).2.2 e.1 (List.mem_map.mpr ⟨e, he, rfl⟩) kv.1 List.mem_cons_self
        simp [this]
    rw [putK_new _ nk]
    have e : acc ++ kv :: more = (acc ++ [(kv.1, kv.2)]) ++ more := by simp
    rw [e] at h ⊢
    exact merge_nd more _ h
/-! ### a dict made of a list of pairs -/
end Lk
set_option maxRecDepth 100000
set_option maxHeartbeats 4000000
namespace Lk
open PySem PySem.Spec PyProof.Rows L2
/-! ### the row, walked through by hosts -/
section
variable {ps : List (Str × Str)} {row order : List Str}
theorem hostO_some (hd : row.Nodup) {z d : Str} (h : hostO ps row z = some d) : d ∈ row ∧ row.idxOf d < row.idxOf z ∧ frd ps z d = true ∧ ∀ g ∈ row, row.idxOf g < row.idxOf z → frd ps z g = true → row.idxOf g ≤ row.idxOf d := by
  unfold hostO at h
  cases e : lastP (frd ps z) (row.take (row.idxOf z)) with
  | none => rw [e] at h; cases h
  | some k =>
    rw [e] at h
    have h' : row[k]? = some d := h
    obtain ⟨x, q1, q2, q3⟩ := lastP_some e
    have mx := (mem_take_ix hd).mp (List.mem_of_getElem? q1)
    have hk : k < row.idxOf z := by
      have := (List.getElem?_eq_some_iff.mp q1).1
      rw [List.length_take] at this
      omega
    rw [List.getElem?_take, if_pos hk] at q1
    rw [q1] at h'
    cases h'
    have ex := idx_at hd q1
    refine ⟨mx.1, mx.2, q2, fun g hg g1 g2 => Classical.byContradiction fun z => ?_⟩
    obtain ⟨j, hj⟩ := List.mem_iff_getElem?.mp hg
    have ej := idx_at hd hj
    have := q3 j g (by omega) (by rw [List.getElem?_take, if_pos (by omega)]; exact hj)
    rw [this] at g2
    cases g2
theorem hostO_none (hd : row.Nodup) {z : Str} (h : hostO ps row z = none) : ∀ g ∈ row, row.idxOf g < row.idxOf z → frd ps z g = false := by
  unfold hostO at h
  cases e : lastP (frd ps z) (row.take (row.idxOf z)) with
  | none => exact fun g hg g1 => (lastP_no.mp e) g ((mem_take_ix hd).mpr ⟨hg, g1⟩)
  | some k =>
    rw [e] at h
    obtain ⟨x, q1, _⟩ := lastP_some e
    have h' : row[k]? = none := h
    rw [List.getElem?_take] at q1
    split at q1
    · rw [h'] at q1
      cases q1
    · cases q1
/-- a list by what stands in it, in two parts -/
theorem filter_or {α : Type} {p q : α → Bool} : ∀ {l : List α}, l.Pairwise (fun x y => q x = true → p y = false) → (∀ x ∈ l, p x = true → q x = false) → l.filter (fun x => p x || q x) = l.filter p ++ l.filter q
  | [], _, _ => rfl
  | x :: l, h, n => by
    obtain ⟨h1, h2⟩ := List.pairwise_cons.mp h
    have ih := filter_or h2 fun y hy => n y (List.mem_cons_of_mem _ hy)
    rw [List.filter_cons, List.filter_cons, List.filter_cons]
    by_cases cp : p x = true
    · rw [if_pos (by rw [cp]; rfl), if_pos cp, if_neg (by rw [n x List.mem_cons_self cp]; exact Bool.false_ne_true), ih]
      rfl
    · by_cases cq : q x = true
      · have e : l.filter p = [] := List.filter_eq_nil_iff.mpr fun y hy => by rw [h1 y hy cq]; exact Bool.false_ne_true
        rw [if_pos (by rw [cq, Bool.or_true]), if_neg cp, if_pos cq, ih, e]
        rfl
      · rw [if_neg (by rw [Bool.eq_false_iff.mpr cp, Bool.eq_false_iff.mpr cq]; exact Bool.false_ne_true), if_neg cp, if_neg cq, ih]
/-- two lists with the same members, both by one order -/
theorem sorted_one {α : Type} {r : α → α → Prop} (as : ∀ x y, r x y → ¬ r y x) : ∀ {a b : List α}, a.Pairwise r → b.Pairwise r → a.Perm b → a = b
  | [], b, _, _, h => (List.nil_perm.mp h).symm
  | x :: a, [], _, _, h => absurd h.length_eq (by simp)
  | x :: a, y :: b, ha, hb, h => by
    obtain ⟨a1, a2⟩ := List.pairwise_cons.mp ha
    obtain ⟨b1, b2⟩ := List.pairwise_cons.mp hb
    have e : x = y := by
      rcases List.mem_cons.mp (h.mem_iff.mp List.mem_cons_self) with z | z
      · exact z
      · rcases List.mem_cons.mp (h.mem_iff.mpr List.mem_cons_self) with w | w
        · exact w.symm
        · exact absurd (a1 y w) (as _ _ (b1 x z))
    subst e
    rw [sorted_one as a2 b2 ((List.perm_cons x).mp h)]
variable (irr : Irr ps) (hd : order.Nodup) (pm : order.Perm row) (hs : standOf ps order = row)
include irr hd pm hs
theorem came_after {z w : Str} (hz : z ∈ row) (hw : w ∈ row) (h : (hostO ps row z = none ∧ row.idxOf z < row.idxOf w) ∨ ∃ d, hostO ps row z = some d ∧ row.idxOf d < row.idxOf w ∧ row.idxOf w < row.idxOf z) : order.idxOf z < order.idxOf w := by
  have nd : row.Nodup := pm.nodup_iff.mp hd
  refine (lin_iff irr order.length order row rfl hd pm).mp hs z hz w hw ?_
  rcases h with ⟨h1, h2⟩ | ⟨d, h1, h2, h3⟩
  · exact ⟨_, .inl ⟨rfl, hostO_none nd h1, h2⟩⟩
  · obtain ⟨q1, q2, q3, q4⟩ := hostO_some nd h1
    exact ⟨_, .inr (.inl ⟨rfl, ⟨d, q1, q3, q2, q4, h2⟩, h3⟩)⟩
theorem host_first {z d : Str} (hz : z ∈ row) (h : hostO ps row z = some d) : order.idxOf d < order.idxOf z := by
  have nd : row.Nodup := pm.nodup_iff.mp hd
  obtain ⟨q1, q2, q3, q4⟩ := hostO_some nd h
  refine (lin_iff irr order.length order row rfl hd pm).mp hs d q1 z hz ⟨_, .inr (.inr ⟨rfl, q2, ?_⟩)⟩
  rw [frd_comm]
  exact q3
/-- who stands between a host and one behind it was let in behind the host or one between -/
theorem nested {y z c : Str} (hy : y ∈ row) (hz : z ∈ row) (h : hostO ps row y = some c) (h1 : row.idxOf c < row.idxOf z) (h2 : row.idxOf z < row.idxOf y) : ∃ d, hostO ps row z = some d ∧ row.idxOf c ≤ row.idxOf d := by
  have nd : row.Nodup := pm.nodup_iff.mp hd
  have a1 := came_after irr hd pm hs hy hz (.inr ⟨c, h, h1, h2⟩)
  cases e : hostO ps row z with
  | none =>
    have := came_after irr hd pm hs hz hy (.inl ⟨e, h2⟩)
    omega
  | some d =>
    refine ⟨d, rfl, Classical.byContradiction fun q => ?_⟩
    obtain ⟨c1, _⟩ := hostO_some nd h
    have a2 := came_after irr hd pm hs hz c1 (.inr ⟨d, e, by omega, h1⟩)
    have a3 := host_first irr hd pm hs hy h
    omega
end
/-- who waits behind `i` of the row: those without a host, those whose host is among the first `i` -/
def pendB (ps : List (Str × Str)) (row : List Str) (i : Nat) (y : Str) : Bool := match hostO ps row y with
  | none => true
  | some d => decide (row.idxOf d < i)
def pendL (ps : List (Str × Str)) (row : List Str) (i : Nat) : List Str := (row.drop i).filter (pendB ps row i)
def belowL (ps : List (Str × Str)) (row order : List Str) (c : Str) : List Str := order.filter fun y => decide (hostO ps row y = some c)
def rootsL (ps : List (Str × Str)) (row order : List Str) : List Str := order.filter fun y => decide (hostO ps row y = none)
section
variable {ps : List (Str × Str)} {row order : List Str} (irr : Irr ps) (hd : order.Nodup) (pm : order.Perm row) (hs : standOf ps order = row)
include irr hd pm hs
theorem pend_step {i : Nat} {c : Str} (hc : row[i]? = some c) : pendL ps row i = c :: (row.drop (i + 1)).filter (pendB ps row i) ∧ pendL ps row (i + 1) = (belowL ps row order c).reverse ++ (row.drop (i + 1)).filter (pendB ps row i) := by
  have nd : row.Nodup := pm.nodup_iff.mp hd
  have lt : i < row.length := (List.getElem?_eq_some_iff.mp hc).1
  have ec : row[i] = c := (List.getElem?_eq_some_iff.mp hc).2
  have ic := idx_at nd hc
  have dr : row.drop i = c :: row.drop (i + 1) := by
    rw [List.drop_eq_getElem_cons lt, ec]
  have mem : ∀ y, y ∈ row.drop (i + 1) ↔ y ∈ row ∧ i < row.idxOf y := fun y => by
    constructor
    · intro h
      obtain ⟨j, hj⟩ := List.mem_iff_getElem?.mp h
      rw [List.getElem?_drop] at hj
      exact ⟨List.mem_of_getElem? hj, by rw [idx_at nd hj]; omega⟩
    · rintro ⟨h1, h2⟩
      obtain ⟨j, hj⟩ := List.mem_iff_getElem?.mp h1
      rw [idx_at nd hj] at h2
      refine List.mem_iff_getElem?.mpr ⟨j - (i + 1), ?_⟩
      rw [List.getElem?_drop, show i + 1 + (j - (i + 1)) = j by omega]
      exact hj
  have pw : (row.drop (i + 1)).Pairwise (fun x y => row.idxOf x < row.idxOf y) := by
    refine List.pairwise_iff_getElem.mpr fun a b ha hb hab => ?_
    have e : ∀ (k : Nat) (hk : k < (row.drop (i + 1)).length), row.idxOf (row.drop (i + 1))[k] = i + 1 + k := fun k hk => by
      refine idx_at nd ?_
      rw [← List.getElem?_drop]
      exact List.getElem?_eq_getElem hk
    rw [e a ha, e b hb]
    omega
  refine ⟨?_, ?_⟩
  · unfold pendL
    rw [dr, List.filter_cons, if_pos ?_]
    unfold pendB
    cases e : hostO ps row c with
    | none => rfl
    | some d =>
      have := (hostO_some nd e).2.1
      exact decide_eq_true (by omega)
  · unfold pendL
    have cong : (row.drop (i + 1)).filter (pendB ps row (i + 1)) = (row.drop (i + 1)).filter (fun y => decide (hostO ps row y = some c) || pendB ps row i y) := by
      refine List.filter_congr fun y hy => ?_
      unfold pendB
      cases e : hostO ps row y with
      | none => simp
      | some d =>
        obtain ⟨d1, d2, _⟩ := hostO_some nd e
        rw [Bool.eq_iff_iff, Bool.or_eq_true, decide_eq_true_iff, decide_eq_true_iff, decide_eq_true_iff]
        constructor
        · intro h
          by_cases cd : row.idxOf d = i
          · left
            obtain ⟨j, hj⟩ := List.mem_iff_getElem?.mp d1
            rw [idx_at nd hj] at cd
            subst cd
            rw [hc] at hj
            exact hj.symm
          · exact .inr (by omega)
        · rintro (h | h)
          · cases h
            omega
          · omega
    rw [cong, filter_or ?_ ?_]
    · refine congrArg (· ++ _) ?_
      refine sorted_one (r := fun x y => order.idxOf y < order.idxOf x) (fun x y h1 h2 => by omega) ?_ ?_ ?_
      · refine List.Pairwise.imp_of_mem ?_ (pw.filter _)
        intro x y hx hy h
        obtain ⟨x1, x2⟩ := List.mem_filter.mp hx
        obtain ⟨y1, y2⟩ := List.mem_filter.mp hy
        exact came_after irr hd pm hs ((mem y).mp y1).1 ((mem x).mp x1).1 (.inr ⟨c, of_decide_eq_true y2, by rw [ic]; exact ((mem x).mp x1).2, h⟩)
      · rw [List.pairwise_reverse]
        unfold belowL
        refine List.Pairwise.filter _ (List.pairwise_iff_getElem.mpr fun a b ha hb hab => ?_)
        rw [idx_at hd (List.getElem?_eq_getElem ha), idx_at hd (List.getElem?_eq_getElem hb)]
        exact hab
      · refine (List.perm_ext_iff_of_nodup ?_ ?_).mpr fun y => ?_
        · exact (nd.sublist (List.drop_sublist _ _)).sublist List.filter_sublist
        · unfold belowL
          exact (List.reverse_perm _).nodup_iff.mpr (hd.sublist List.filter_sublist)
        · unfold belowL
          rw [List.mem_reverse, List.mem_filter, List.mem_filter, decide_eq_true_iff, mem, pm.mem_iff]
          constructor
          · exact fun h => ⟨h.1.1, h.2⟩
          · exact fun h => ⟨⟨h.1, by
              have := (hostO_some nd h.2).2.1
              omega⟩, h.2⟩
    · refine List.Pairwise.imp_of_mem ?_ pw
      intro x y hx hy h hq
      refine decide_eq_false fun hp => ?_
      obtain ⟨x1, x2⟩ := (mem x).mp hx
      obtain ⟨y1, y2⟩ := (mem y).mp hy
      obtain ⟨d, e1, e2⟩ := nested irr hd pm hs y1 x1 hp (by omega) h
      unfold pendB at hq
      rw [e1] at hq
      have := of_decide_eq_true hq
      omega
    · intro y hy h
      unfold pendB
      rw [of_decide_eq_true h]
      exact decide_eq_false (by omega)
theorem pend_start : pendL ps row 0 = rootsL ps row order := by
  have nd : row.Nodup := pm.nodup_iff.mp hd
  unfold pendL rootsL
  rw [List.drop_zero]
  refine sorted_one (r := fun x y => order.idxOf x < order.idxOf y) (fun x y h1 h2 => by omega) ?_ ?_ ?_
  · have pw : row.Pairwise (fun x y => row.idxOf x < row.idxOf y) := List.pairwise_iff_getElem.mpr fun a b ha hb hab => by
      rw [idx_at nd (List.getElem?_eq_getElem ha), idx_at nd (List.getElem?_eq_getElem hb)]
      exact hab
    refine List.Pairwise.imp_of_mem ?_ (pw.filter _)
    intro x y hx hy h
    obtain ⟨x1, x2⟩ := List.mem_filter.mp hx
    obtain ⟨y1, y2⟩ := List.mem_filter.mp hy
    refine came_after irr hd pm hs x1 y1 (.inl ⟨?_, h⟩)
    unfold pendB at x2
    cases e : hostO ps row x with
    | none => rfl
    | some d =>
      rw [e] at x2
      exact absurd (of_decide_eq_true x2) (Nat.not_lt_zero _)
  · refine List.Pairwise.filter _ (List.pairwise_iff_getElem.mpr fun a b ha hb hab => ?_)
    rw [idx_at hd (List.getElem?_eq_getElem ha), idx_at hd (List.getElem?_eq_getElem hb)]
    exact hab
  · refine (List.perm_ext_iff_of_nodup (nd.sublist List.filter_sublist) (hd.sublist List.filter_sublist)).mpr fun y => ?_
    rw [List.mem_filter, List.mem_filter, decide_eq_true_iff, pm.mem_iff]
    unfold pendB
    cases e : hostO ps row y with
    | none => simp
    | some d => simp
omit hd pm hs irr
/-- whom one was let in behind, and so on -/
def upL (ps : List (Str × Str)) (row : List Str) : Nat → Str → List Str
  | 0, _ => []
  | n + 1, x => match hostO ps row x with
    | none => []
    | some d => d :: upL ps row n d
include irr hd pm hs
theorem up_mem {y c : Str} (hy : y ∈ row) (h : hostO ps row y = some c) : ∀ (n : Nat) (z : Str), z ∈ row → row.idxOf z < n → row.idxOf c < row.idxOf z → row.idxOf z < row.idxOf y → c ∈ upL ps row n z
  | 0, z, _, h0, _, _ => absurd h0 (Nat.not_lt_zero _)
  | n + 1, z, hz, h0, h1, h2 => by
    have nd : row.Nodup := pm.nodup_iff.mp hd
    obtain ⟨d, e1, e2⟩ := nested irr hd pm hs hy hz h h1 h2
    obtain ⟨d1, d2, _⟩ := hostO_some nd e1
    obtain ⟨c1, _⟩ := hostO_some nd h
    unfold upL
    rw [e1]
    by_cases cd : row.idxOf c = row.idxOf d
    · have : c = d := by
        obtain ⟨i, hi⟩ := List.mem_iff_getElem?.mp c1
        obtain ⟨j, hj⟩ := List.mem_iff_getElem?.mp d1
        rw [idx_at nd hi, idx_at nd hj] at cd
        subst cd
        rw [hi] at hj
        exact Option.some.inj hj
      rw [this]
      exact List.mem_cons_self
    · exact List.mem_cons_of_mem _ (up_mem hy h n d d1 (by omega) (by omega) (by omega))
end
/-- a dict of hosts -/
def HostsD (H : Hp) (D : Addr) (ps : List (Str × Str)) (row : List Str) : Prop := ∃ kvs, H D = some (.dK kvs) ∧ ∀ x ∈ row, valV kvs (.inr x) = some (optV (hostO ps row x))
theorem HostsD.same {H H' : Hp} {D : Addr} {ps : List (Str × Str)} {row : List Str} (s : Same H H') (h : HostsD H D ps row) : HostsD H' D ps row := by
  obtain ⟨kvs, h1, h2⟩ := h
  exact ⟨kvs, s _ _ h1, h2⟩
theorem HostsD.oth {H H' : Hp} {b D : Addr} {ps : List (Str × Str)} {row : List Str} (s : Oth b H H') (hb : IsBox H b) (h : HostsD H D ps row) : HostsD H' D ps row := by
  obtain ⟨kvs, h1, h2⟩ := h
  refine ⟨kvs, s _ _ (fun z => ?_) h1, h2⟩
  obtain ⟨i1, i2, i3, e⟩ := hb
  rw [z, e] at h1
  cases h1
def spLetUp : Sp := fun vs H Q _ => ∃ (D : Addr) (x : Str) (ps : List (Str × Str)) (row : List Str), vs = [.ref D, .str x] ∧ HostsD H D ps row ∧ row.Nodup ∧ row.length ≤ 100 ∧ x ∈ row ∧
  ∀ p H', Same H H' → H p = none → H' p = some (.lst ((upL ps row row.length x).map V.str)) → Q (.ref p) H'
/-- the row again, walked through by hosts in the order in which they came -/
def spByHosts : Sp := fun vs H Q _ => ∃ (D o : Addr) (ps : List (Str × Str)) (row order : List Str), vs = [.ref D, .ref o] ∧ HostsD H D ps row ∧ Irr ps ∧ H o = some (.lst (order.map V.str)) ∧ order.Nodup ∧ order.Perm row ∧ standOf ps order = row ∧ row.length ≤ 100 ∧ Goods row ∧
  ∀ t H', Same H H' → TupAt H' t (row.map V.str) → Q (.ref t) H'
theorem valV_names {g : Str → V} : ∀ {l : List Str} {x : Str}, x ∈ l → valV (l.map fun x => ((Sum.inr x : Key), g x)) (Sum.inr x) = some (g x)
  | y :: l, x, h => by
    rw [List.map_cons]
    by_cases c : y = x
    · subst c
      exact valV_pos (κ := Key) (p := ((Sum.inr y : Key), g y)) rfl
    · have ne : ¬ ((Sum.inr y : Key), g y).1 = (Sum.inr x : Key) := fun e => c (Sum.inr.inj e)
      rw [valV_neg ne]
      refine valV_names ?_
      rcases List.mem_cons.mp h with z | z
      · exact absurd z.symm c
      · exact z
theorem mem_cut {row : List Str} {lo hi : Nat} {x : Str} (h : x ∈ cutL row (some (lo : Int)) (some (hi : Int))) : ∃ k, row[k]? = some x ∧ lo ≤ k ∧ k < hi := by
  unfold cutL at h
  rw [HT.sIx_nat, HT.sIx_nat] at h
  obtain ⟨j, hj⟩ := List.mem_iff_getElem?.mp h
  rw [List.getElem?_take] at hj
  split at hj
  · rw [List.getElem?_drop] at hj
    have := (List.getElem?_eq_some_iff.mp hj).1
    exact ⟨_, hj, by omega, by omega⟩
  · cases hj
theorem falses_all (n : Nat) : ((List.range n).map fun _ => V.bl false) = (List.replicate n false).map V.bl := by
  rw [List.map_const', List.length_range, List.map_replicate]
end Lk
set_option maxRecDepth 100000
set_option maxHeartbeats 4000000
namespace Lk
open PySem PySem.Spec PyProof.Rows L2
def topS (i : Nat) : Stmt := PySem.Challenge.pw_letinrow_k81_whole_the_row_is_its_tree_o.main.body.getD i (.Pass ⟨0, 0, 0, 0⟩)
section
variable {P : Program} {w : World} {K : PySem.W.Frag} {mg : Str → Option Value} {base : Heap}
/-! ### _law_take -/
abbrev sTake : Stmt := topS 17
theorem scTake : FnScope ["_law_box_here", "_law_many", "_law_found", "_law_blend"] ["_law_box_here", "_law_many"] (defScope sTake) := ⟨rfl, rfl, rfl, by decide +kernel, rfl, by decide +kernel, by decide +kernel⟩
theorem ok_take {f : Addr} {fd : FuncData} (F : Fun K "_law_take" "_law_take" sTake f fd) : FnOk P w K mg base CX0 1 f fd ["_law_box_here", "_law_many"] spTake := by
  refine fok F scTake (fun vs H Q E h => ?_) (fun cdv A outer s H vs Q E hr h => ?_)
  · obtain ⟨b, many, rfl, _⟩ := h
    rfl
  obtain ⟨b, many, rfl, ⟨x, y, z, hb⟩, h0, h1, q⟩ := h
  refine ⟨_, pss_cons (ps_if (pt_cmpR op_gt (pe_ix ix_list (pv 0) pe_int (fun _ _ => rfl)) pe_int (nomark _))
      (pss_cons (ps_set (i := 2) scTake.nd rfl (.inl rfl) (pe_op op_mod (pe_ix ix_list (pv 0) pe_int (fun _ _ => rfl)) (pv 1)))
      (pss_cons (ps_asg (pe_op op_fdiv (pe_ix ix_list (pv 0) pe_int (fun _ _ => rfl)) (pv 1)) (pg_sub (pv 0) pe_int set_list))
      (pss_one (ps_ret (pv 2))))) pss_nil)
    (pss_cons (ps_asg (pe_op op_add (pe_ix ix_list (pv 0) pe_int (fun _ _ => rfl)) pe_int) (pg_sub (pv 0) pe_int set_list))
    (pss_cons (ps_set (i := 3) scTake.nd rfl (.inl rfl) (pe_op op_mod (pe_op op_add (pe_ix ix_list (pv 0) pe_int (fun _ _ => rfl)) (pe_op op_mul pe_int (pe_ix ix_list (pv 0) pe_int (fun _ _ => rfl)))) pe_int))
    (pss_cons (ps_set (i := 3) scTake.nd rfl (.inl rfl) (pe_op op_mod (pe_op op_add (pe_op op_add (pe_op op_mul (pv 3) (pv 3)) (pe_op op_mul pe_int (pe_ix ix_list (pv 0) pe_int (fun _ _ => rfl)))) pe_int) pe_int))
    (pss_cons (ps_set (i := 3) scTake.nd rfl (.inl rfl) (pe_op op_mod (pe_op op_add (pe_op op_mul (pv 3) (pe_op op_add (pe_op op_fdiv (pv 3) pe_int) pe_int)) (pe_ix ix_list (pv 0) pe_int (fun _ _ => rfl))) pe_int))
    (pss_one (ps_ret (pe_op op_mod (pe_op op_fdiv (pv 3) pe_int) (pv 1)))))))), ?_⟩
  have hL : SqL K H b [.int x, .int y, .int z] := .inl (.inl hb)
  refine ⟨.ref b, rfl, b, _, 0, _, rfl, rfl, hL, atI_nat (j := 0) rfl, _, _, rfl, rfl, _, rfl, ?_⟩
  refine ite2 (fun c => ?_) (fun c => ?_)
  · refine ⟨.ref b, rfl, b, _, 0, _, rfl, rfl, hL, atI_nat (j := 0) rfl, _, rfl, _, _, rfl, rfl, h0, ?_⟩
    refine ⟨.ref b, rfl, b, _, 0, _, rfl, rfl, hL, atI_nat (j := 0) rfl, _, rfl, _, _, rfl, rfl, ⟨h0, h1⟩, ?_⟩
    refine ⟨.ref b, rfl, b, _, 0, 0, rfl, rfl, hb, rfl, ?_⟩
    exact ⟨_, rfl, q _ _ Oth.upd ⟨_, _, _, upd_same⟩ (Int.emod_nonneg _ (by omega)) (Int.emod_lt_of_pos _ h0)⟩
  · refine ⟨.ref b, rfl, b, _, 2, _, rfl, rfl, hL, atI_nat (j := 2) rfl, _, _, rfl, rfl, ?_⟩
    refine ⟨.ref b, rfl, b, _, 2, 2, rfl, rfl, hb, rfl, ?_⟩
    have hU : upd H b (.lst ([.int x, .int y, .int z].set 2 (.int (z + 1)))) b = some (.lst [.int x, .int y, .int (z + 1)]) := upd_same
    have hL2 : SqL K (upd H b (.lst ([.int x, .int y, .int z].set 2 (.int (z + 1))))) b [.int x, .int y, .int (z + 1)] := .inl (.inl hU)
    refine ⟨.ref b, rfl, b, _, 1, _, rfl, rfl, hL2, atI_nat (j := 1) rfl, .ref b, rfl, b, _, 2, _, rfl, rfl, hL2, atI_nat (j := 2) rfl, _, _, rfl, rfl, .inl (by decide), _, _, rfl, rfl, _, _, rfl, rfl, (by show (0 : Int) < 2305843009213693951; decide), ?_⟩
    generalize hm1 : (y + 1442695040888963407 * (z + 1)) % 2305843009213693951 = m1
    have b1 : 0 ≤ m1 ∧ m1 < 2305843009213693951 := by
      rw [← hm1]
      exact ⟨Int.emod_nonneg _ (by decide), Int.emod_lt_of_pos _ (by decide)⟩
    refine ⟨_, rfl, _, rfl, _, _, rfl, rfl, .inl ⟨by omega, by omega⟩, .ref b, rfl, b, _, 2, _, rfl, rfl, hL2, atI_nat (j := 2) rfl, _, _, rfl, rfl, .inl (by decide), _, _, rfl, rfl, _, _, rfl, rfl, _, _, rfl, rfl, (by show (0 : Int) < 2305843009213693921; decide), ?_⟩
    generalize hm2 : (m1 * m1 + 39373 * (z + 1) + 7) % 2305843009213693921 = m2
    have b2 : 0 ≤ m2 ∧ m2 < 2305843009213693921 := by
      rw [← hm2]
      exact ⟨Int.emod_nonneg _ (by decide), Int.emod_lt_of_pos _ (by decide)⟩
    refine ⟨_, rfl, _, rfl, _, _, rfl, rfl, ⟨by decide, by decide⟩, _, _, rfl, rfl, _, _, rfl, rfl, .inl ⟨by omega, by omega⟩, .ref b, rfl, b, _, 2, _, rfl, rfl, hL2, atI_nat (j := 2) rfl, _, _, rfl, rfl, _, _, rfl, rfl, (by show (0 : Int) < 2305843009213693907; decide), ?_⟩
    generalize (m2 * (m2 / 65536 + 3) + (z + 1)) % 2305843009213693907 = m3
    refine ⟨_, rfl, _, _, rfl, rfl, ⟨by decide, by decide⟩, _, rfl, _, _, rfl, rfl, h0, ?_⟩
    exact q _ _ Oth.upd ⟨_, _, _, upd_same⟩ (Int.emod_nonneg _ (by omega)) (Int.emod_lt_of_pos _ h0)
/-! ### _law_box -/
abbrev sBox : Stmt := topS 16
theorem scBox : FnScope ["_law_cells_here", "_law_k", "_law_cell"] ["_law_cells_here", "_law_k"] (defScope sBox) := ⟨rfl, rfl, rfl, by decide +kernel, rfl, by decide +kernel, by decide +kernel⟩
theorem ok_box {f : Addr} {fd : FuncData} (B : Blt mg) (F : Fun K "_law_box" "_law_box" sBox f fd) : FnOk P w K mg base CX0 1 f fd ["_law_cells_here", "_law_k"] spBox := by
  refine fok F scBox (fun vs H Q E h => ?_) (fun cdv A outer s H vs Q E hr h => ?_)
  · obtain ⟨a, ns, k, rfl, _⟩ := h
    rfl
  obtain ⟨a, ns, k, rfl, ha, hk, hk2, q⟩ := h
  refine ⟨_, pss_cons (ps_set (i := 2) scBox.nd rfl (.inl rfl) (pe_ix ix_list (pv 0) (pv 1) (fun _ _ => rfl)))
    (pss_one (ps_ret (pe_lst (pa_cons (pe_op op_mul (pe_callB call_abs (by rfl) B.abs (by decide +kernel) (pa_cons (pv 2) pa_nil)) (pe_callTy call_int1 (by rfl) B.int (by decide +kernel) (pa_cons (pe_cmpR op_ge (pe_callB call_abs (by rfl) B.abs (by decide +kernel) (pa_cons (pv 2) pa_nil)) (pe_op op_pow pe_int pe_int) (nomark _)) pa_nil)))
      (pa_cons (pe_op op_add (pe_op op_add (pe_op op_mod (pv 2) pe_int) (pe_op op_mul pe_int (pv 1))) pe_int) (pa_cons pe_int pa_nil)))))), ?_⟩
  obtain ⟨c, hc⟩ : ∃ c, ns[k]? = some c := ⟨ns[k], List.getElem?_eq_getElem hk⟩
  refine ⟨.ref a, rfl, .int k, rfl, a, _, k, .int c, rfl, rfl, .inl (.inl ha), atI_nat (ix_map hc), ?_⟩
  refine ⟨_, rfl, _, rfl, _, rfl, _, rfl, _, _, rfl, rfl, ⟨by decide, by decide, by decide⟩, _, _, rfl, rfl, .inr ⟨_, rfl, _, _, rfl, rfl, .inr (bit01 _), ?_⟩⟩
  refine ⟨_, rfl, _, _, rfl, rfl, (by show (0 : Int) < 2305843009213693951; decide), _, rfl, _, _, rfl, rfl, .inl (by decide), _, _, rfl, rfl, _, _, rfl, rfl, (by show 3 ≤ sizeLine; decide), fun p hp => ?_⟩
  exact q p _ (same_upd hp) hp ⟨_, _, _, upd_same⟩
/-! ### _law_cells -/
abbrev sCells : Stmt := topS 18
theorem scCells : FnScope ["_law_script", "_law_utmost", "_law_cells_here", "_law_k", "_law_cell"] ["_law_script", "_law_utmost"] (defScope sCells) := ⟨rfl, rfl, rfl, by decide +kernel, rfl, by decide +kernel, by decide +kernel⟩
theorem ok_cells {f : Addr} {fd : FuncData} (B : Blt mg) (F : Fun K "_law_cells" "_law_cells" sCells f fd) : FnOk P w K mg base CX0 1 f fd ["_law_script", "_law_utmost"] (spCells K) := by
  refine fok F scCells (fun vs H Q E h => ?_) (fun cdv A outer s H vs Q E hr h => ?_)
  · obtain ⟨a, ns, k, rfl, _⟩ := h
    rfl
  obtain ⟨a, ns, u, rfl, ha, hn, h0, h3, q⟩ := h
  refine ⟨_, pss_cons (ps_set (i := 2) scCells.nd rfl (.inl rfl) (pe_orT (pe_callTy call_list_of (by rfl) B.list (by decide +kernel) (pa_cons (pe_slice sl_list (pv 0) po_none (po_some (pv 1))) pa_nil)) (pe_one (pe_lst (pa_cons pe_int pa_nil)))))
    (pss_cons (ps_for PassesOwn.never rfl (pi_enum (by rfl) B.enumerate (pa_cons (pe_slice sl_list (pv 0) (po_some (pv 1)) (po_some pe_int)) pa_nil))
        (pg_tup rfl (pgs_cons (pg_name (i := 3) scCells.nd rfl (.inl rfl)) (pgs_cons (pg_name (i := 4) scCells.nd rfl (.inl rfl)) pgs_nil)))
      (pss_one (ps_asg (pe_op op_add (pe_ix ix_list (pv 2) (pe_op op_mod (pv 3) (pv 1)) (fun _ _ => rfl)) (pe_op op_mul (pv 4) (pe_op op_add (pv 3) pe_int))) (pg_sub (pv 2) (pe_op op_mod (pv 3) (pv 1)) set_list))))
    (pss_one (ps_ret (pv 2)))), ?_⟩
  -- what follows once cells stand at c
  have rest : ∀ (c : Addr) (ms : List Int) (H1 : Hp), Same H H1 → H c = none → H1 c = some (.lst (ms.map V.int)) → 0 < ms.length → ms.length ≤ 3 → (u < ns.length → ms.length = u) → ∀ (D : Ends) , D.rt = Q → 
      (tSeq (tFor (iEnum K (tCons (tSl (rSlL K) (tVar 0) (tPart (tVar 1)) (tPart (tC (.int 63)))) tNil)) (gTup K 2 (gCons (gName 3) (gCons (gName 4) gNil))) (tAsg (tOp (rI0 fun i j => .int (i + j)) (tOp (rIxL K) (tVar 2) (tOp (rI (fun _ j => 0 < j) fun i j => .int (i % j)) (tVar 3) (tVar 1))) (tOp (rI CMul fun i j => .int (i * j)) (tVar 4) (tOp (rI0 fun i j => .int (i + j)) (tVar 3) (tC (.int 2))))) (gSub (tVar 2) (tOp (rI (fun _ j => 0 < j) fun i j => .int (i % j)) (tVar 3) (tVar 1)) rSetL))) (tRet (tVar 2))) D [some (.ref a), some (.int u), some (.ref c), none, none] H1 := by
    intro c ms H1 s1 nc hc m0 m3 mu D hD
    refine ⟨.ref a, rfl, _, rfl, u, rfl, 63, rfl, a, _, rfl, s1.seq ha, fun p hp => ?_⟩
    have s2 : Same H1 (upd H1 p (.lst (cutV (ns.map V.int) (some u) (some 63)))) := same_upd hp
    have npc : c ≠ p := ne_of_none hc hp
    rw [cutV_map]
    generalize hr2 : cutL ns (some (u : Int)) (some 63) = r2
    refine ⟨p, r2.map V.int, rfl, .inl (.inl upd_same), ?_⟩
    refine for_it (walk_enum (xs := r2.map V.int)) (fun i σ H3 => ∃ (y3 y4 : Option V) (ms' : List Int), σ = [some (.ref a), some (.int u), some (.ref c), y3, y4] ∧ Same H H3 ∧ H3 p = some (.lst (r2.map V.int)) ∧ H3 c = some (.lst (ms'.map V.int)) ∧ ms'.length = ms.length) ?_ ?_ ?_ ?_
    · exact ⟨none, none, ms, rfl, s1.trans (same_upd hp), upd_same, (upd_ne npc).trans hc, rfl⟩
    · rintro i σ H3 _ ⟨y3, y4, ms', rfl, e1, e2, e3, e4⟩
      exact .inl (.inl e2)
    · rintro i x σ H3 H4 hi ⟨y3, y4, ms', rfl, e1, e2, e3, e4⟩ ⟨T, x1, x2, rfl, nT, rfl, f1, f2⟩
      cases f1
      obtain ⟨z, hz, rfl⟩ := at_map f2
      rw [List.length_map] at hi
      have hun : u < ns.length := cutL_has (k := u) (hi := some 63) (by rw [hr2]; omega)
      have hml := mu hun
      have nTc : c ≠ T := ne_of_none e3 nT
      have nTp : p ≠ T := ne_of_none e2 nT
      refine ⟨T, _, rfl, .inl (.inl upd_same), rfl, _, _, rfl, _, _, rfl, rfl, ?_⟩
      have hlt : i % u < ms'.length := by
        rw [e4, hml]
        exact Nat.mod_lt _ h0
      have e3' : upd H3 T (.tup [.int (i : Nat), .int z]) c = some (.lst (ms'.map V.int)) := (upd_ne nTc).trans e3
      have eim : ((i : Int) % (u : Int)) = ((i % u : Nat) : Int) := (Int.natCast_emod i u).symm
      have hi2 : i < 63 := by
        have q1 := cutL_le ns (some (u : Int)) (some 63)
        rw [hr2] at q1
        omega
      refine ⟨.ref c, rfl, _, rfl, _, rfl, _, _, rfl, rfl, (by show (0 : Int) < u; omega), c, _, _, .int ms'[i % u], rfl, rfl, .inl (.inl e3'), (by rw [eim]; exact atI_nat (ix_map (List.getElem?_eq_getElem hlt))), ?_⟩
      refine ⟨_, rfl, _, rfl, _, _, rfl, rfl, _, _, rfl, rfl, .inr ⟨by omega, by omega⟩, _, _, rfl, rfl, ?_⟩
      refine ⟨.ref c, rfl, _, rfl, _, rfl, _, _, rfl, rfl, (by show (0 : Int) < u; omega), c, _, _, i % u, rfl, rfl, e3', ?_, ?_⟩
      · rw [eim, List.length_map]
        unfold ixN
        rw [if_pos (by omega), if_pos (by omega), Int.toNat_natCast]
      · refine ⟨_, _, ms'.set (i % u) (ms'[i % u] + z * ((i : Int) + 2)), rfl, fun b o e => ?_, ?_, ?_, ?_⟩
        · rw [upd_ne (ne_of_none e nc)]
          exact same_upd nT _ _ (e1 b o e)
        · rw [upd_ne (Ne.symm npc), upd_ne nTp]
          exact e2
        · rw [upd_same, ← set_map]
        · rw [List.length_set]
          exact e4
    · rintro σ H3 ⟨y3, y4, ms', rfl, e1, e2, e3, e4⟩
      refine ⟨.ref c, rfl, ?_⟩
      rw [hD]
      exact q c ms' H3 e1 nc e3 (by omega) (by omega)
  -- cells = list(script[:u]) or [0]
  refine ⟨.ref a, rfl, .int u, rfl, u, rfl, a, _, rfl, ha, fun p hp => ?_⟩
  rw [cutV_map, cutL_to]
  refine ⟨p, _, rfl, .inl (.inl (.inl upd_same)), fun l hl => ?_⟩
  have s2 : Same H (upd H p (.lst ((ns.take u).map V.int))) := same_upd hp
  have s3 := s2.trans (same_upd (o := .lst ((ns.take u).map V.int)) hl)
  refine ⟨_, .inl ⟨_, .inl (.inl upd_same), rfl⟩, ?_⟩
  refine ite2 (fun z => ?_) (fun z => ?_)
  · have hne : 0 < ns.length := by
      cases ns with
      | nil => rw [List.take_nil] at z; cases z
      | cons n r => exact Nat.succ_pos _
    refine rest l (ns.take u) _ s3 (s2.free hl) upd_same ?_ ?_ ?_ _ rfl
    · rw [List.length_take]
      omega
    · rw [List.length_take]
      omega
    · intro z
      rw [List.length_take]
      omega
  · have hne : ns.length = 0 := by
      cases ns with
      | nil => rfl
      | cons n r =>
        have e : u = (u - 1) + 1 := by omega
        rw [e, List.take_succ_cons] at z
        exact absurd rfl z
    refine ⟨(by show 1 ≤ sizeLine; decide), fun c hc => ?_⟩
    exact rest c [0] _ (s3.trans (same_upd hc)) (s3.free hc) upd_same (by decide) (by decide) (fun z => absurd z (by omega)) _ rfl
/-! ### _law_names -/
abbrev sNames : Stmt := topS 19
abbrev nNames : List Str := ["_law_box_here", "_law_many", "_law_letters", "_law_first", "_law_found", "_law_stem", "_law_step", "_law_few", "_law_k", "_law_cut", "_law_name", "_law_turn"]
theorem scNames : FnScope nNames ["_law_box_here", "_law_many"] (defScope sNames) := ⟨rfl, rfl, rfl, by decide +kernel, rfl, by decide +kernel, by decide +kernel⟩
theorem ok_names {f : Addr} {fd : FuncData} (B : Blt mg) (CT : Cal P w K mg base 1 "_law_take" ["_law_box_here", "_law_many"] spTake) (F : Fun K "_law_names" "_law_names" sNames f fd) : FnOk P w K mg base CX0 2 f fd ["_law_box_here", "_law_many"] spNames := by
  refine fok F scNames (fun vs H Q E h => ?_) (fun cdv A outer s H vs Q E hr h => ?_)
  · obtain ⟨b, many, rfl, _⟩ := h
    rfl
  obtain ⟨b, many, rfl, hb, hm, q⟩ := h
  refine ⟨_, pss_cons (ps_asg (pe_tup (pa_cons pe_str (pa_cons (pe_cal CT hr (pa_cons (pv 0) (pa_cons pe_int pa_nil))) (pa_cons (pe_lst pa_nil) pa_nil)))) (pg_tup rfl (pgs_cons (pg_name (i := 2) scNames.nd rfl (.inr rfl)) (pgs_cons (pg_name (i := 3) scNames.nd rfl (.inl rfl)) (pgs_cons (pg_name (i := 4) scNames.nd rfl (.inl rfl)) pgs_nil)))))
    (pss_cons (ps_set (i := 5) scNames.nd rfl (.inl rfl) (pe_join pe_str
      (pe_lc (own := [("_law_turn", 11)]) (g := gName 11) (tt := tYes) rfl scNames.nd (pi_range1 (by rfl) B.range (pa_cons (pe_cal CT hr (pa_cons (pv 0) (pa_cons pe_int pa_nil))) pa_nil)) (blkOk_by (N := nNames) (sc := defScope sNames) (by decide +kernel)) (fun _ _ _ _ _ => pg_name (i := 11) scNames.nd rfl (Or.inl rfl)) (fun _ _ _ _ _ => pts_nil)
        (fun _ _ _ _ _ => pe_ix ix_str (pv 2) (pe_cal CT hr (pa_cons (pv 0) (pa_cons pe_int pa_nil))) (fun _ _ => rfl)))))
    (pss_cons (ps_par (i := 6) (j := 7) (by rfl) scNames.nd rfl rfl (by decide) rfl rfl (pa_cons (pe_ix ix_list (pe_lst (pa_cons pe_int (pa_cons pe_int (pa_cons pe_int (pa_cons pe_int pa_nil))))) (pe_cal CT hr (pa_cons (pv 0) (pa_cons pe_int pa_nil))) (fun _ _ => rfl)) (pa_cons (pe_callTy call_int1 (by rfl) B.int (by decide +kernel) (pa_cons (pe_cmpR op_eq (pe_op op_mod (pv 3) pe_int) pe_int (nomark _)) pa_nil)) pa_nil)) (by rfl))
    (pss_cons (ps_for PassesOwn.never rfl (pi_range1 (by rfl) B.range (pa_cons (pv 1) pa_nil)) (pg_name (i := 8) scNames.nd rfl (.inl rfl))
      (pss_cons (ps_set (i := 9) scNames.nd rfl (.inl rfl) (pe_op op_sub (pe_callB call_len_str (by rfl) B.len PySem.boot_len (pa_cons (pv 5) pa_nil)) (pe_op op_mul (pv 7) (pe_op op_mod (pv 8) pe_int))))
      (pss_cons (ps_set (i := 10) scNames.nd rfl (.inl rfl) (pe_op op_add_str (pe_slice sl_str (pv 5) po_none (po_some (pv 9))) (pe_ix ix_str (pv 2) (pe_op op_mod (pe_op op_add (pv 3) (pe_op op_mul (pv 6) (pv 8))) pe_int) (fun _ _ => rfl))))
      (pss_one (ps_expr (pe_bm PySem.F.plainAttrs_list PySem.F.slot_list_insert PySem.F.type_list_insert mt_insert (pv 4) (pa_cons (pe_cal CT hr (pa_cons (pv 0) (pa_cons (pe_op op_add (pe_callB call_len_seq (by rfl) B.len PySem.boot_len (pa_cons (pv 4) pa_nil)) pe_int) pa_nil))) (pa_cons (pv 10) pa_nil))))))))
    (pss_one (ps_ret (pv 4)))))), ?_⟩
  -- letters, first, found
  refine ⟨.ref b, rfl, b, 26, rfl, hb, by decide, by decide, fun first H1 o1 b1 f0 f1 => ⟨(by show 0 ≤ sizeLine; decide), fun l hl => ?_⟩⟩
  refine ⟨(by show 3 ≤ sizeLine; decide), fun t ht => ?_⟩
  have nlb : l ≠ b := b1.ne_none hl
  have ntl : t ≠ l := fun z => by rw [z, upd_same] at ht; cases ht
  have ntb : t ≠ b := fun z => by
    rw [z, upd_ne (Ne.symm nlb)] at ht
    exact b1.ne_none ht rfl
  have nl : H l = none := o1.free nlb hl
  refine ⟨t, _, rfl, .inl (.inl upd_same), rfl, _, _, rfl, _, _, rfl, _, _, rfl, rfl, ?_⟩
  dsimp only
  generalize hH2 : upd (upd H1 l (.lst [])) t (.tup [.str (Str.ofString "abcdefghijklmnopqrstuvwxyz"), .int first, .ref l]) = H2
  have o2 : Oth b H H2 := o1.trans (fun a o n e => by
    rw [← hH2]
    exact same_upd ht _ _ (same_upd hl _ _ e))
  have b2 : IsBox H2 b := by
    rw [← hH2]
    exact (b1.same (same_upd hl)).same (same_upd ht)
  have l2 : H2 l = some (.lst []) := by
    rw [← hH2, upd_ne (Ne.symm ntl), upd_same]
  -- stem
  refine ⟨⟨_, rfl⟩, .ref b, rfl, b, 8, rfl, b2, by decide, by decide, fun n H3 o3 b3 n0 n1 => ⟨n, rfl, by omega, by omega, fun D hD => ?_⟩⟩
  have nDb : D ≠ b := b3.ne_none hD
  have l3 : H3 l = some (.lst []) := o3 _ _ nlb l2
  have nDl : l ≠ D := ne_of_none l3 hD
  refine lc_it (walk_range (lo := 0) (n := n.toNat)) (fun i H' => ∃ ys : List Str, Oth b H H' ∧ IsBox H' b ∧ H' l = some (.lst []) ∧ H' D = some (.lst (ys.map V.str)) ∧ ys.length = i ∧ ∀ y ∈ ys, IsOne y) ?_ (fun _ _ _ _ => trivial) ?_ ?_
  · refine ⟨[], fun a o na e => ?_, b3.same (same_upd hD), (upd_ne nDl).trans l3, upd_same, rfl, fun _ h => nomatch h⟩
    exact same_upd hD _ _ (o3 _ _ na (o2 _ _ na e))
  · rintro i x H4 H5 hi ⟨ys, o4, b4, l4, d4, y1, y2⟩ ⟨rfl, rfl⟩
    refine ⟨rfl, ⟨.str abc, rfl, .ref b, rfl, b, 26, rfl, b4, by decide, by decide, fun v H6 o6 b6 v0 v1 => ⟨abc, v, 97 + v.toNat, rfl, rfl, (by rw [abc_len]; decide), abc_ix v0 v1, ys.map V.str, o6 _ _ nDb d4, ?_, ?_⟩⟩⟩
    · rw [List.length_map]
      exact small1000 (by omega)
    · have s6 : ∀ a o, a ≠ D → H6 a = some o → upd H6 D (.lst (ys.map V.str ++ [.str ⟨#[97 + v.toNat]⟩])) a = some o := fun a o na e => by rw [upd_ne na]; exact e
      refine ⟨ys ++ [⟨#[97 + v.toNat]⟩], fun a o na e => ?_, ?_, s6 _ _ nDl (o6 _ _ nlb l4), ?_, ?_, ?_⟩
      · have q6 := o6 _ _ na (o4 _ _ na e)
        by_cases z : a = D
        · subst z
          have q3 := o3.free nDb hD
          rw [o2 _ _ na e] at q3
          cases q3
        · exact s6 _ _ z q6
      · obtain ⟨i1, i2, i3, e⟩ := b6
        exact ⟨i1, i2, i3, s6 _ _ (Ne.symm nDb) e⟩
      · rw [upd_same, List.map_append]
        rfl
      · rw [List.length_append, y1]
        rfl
      · intro y hy
        rcases List.mem_append.mp hy with z | z
        · exact y2 y z
        · have e : y = ⟨#[97 + v.toNat]⟩ := by simpa using z
          exact ⟨v.toNat, by omega, e⟩
  · rintro H4 ⟨ys, o4, b4, l4, d4, y1, y2⟩
    have z1 := ones_len y2
    refine ⟨_, D, ys, rfl, rfl, .inl (.inl (.inl d4)), ?_, ?_⟩
    · rw [z1]
      have z2 : (Str.ofString "").length = 0 := by decide +kernel
      rw [z2]
      omega
    have w1 := ones_flat y2
    rw [← join0] at w1
    generalize Txt.join (Str.ofString "") ys = stem at w1
    have w2 : (tlx stem).length ≤ 7 := by rw [w1.1]; omega
    have w3 : Low (tlx stem) := w1.2
    clear w1 z1
    -- step, few
    refine ⟨(by show 4 ≤ sizeLine; decide), fun p hp => ⟨.ref b, rfl, b, 4, rfl, b4.same (same_upd hp), by decide, by decide, fun v H5 o5 b5 v0 v1 => ?_⟩⟩
    obtain ⟨step, hst, hat⟩ := menu4 v0 v1
    have npb : p ≠ b := b4.ne_none hp
    have o5' : Oth b H H5 := fun a o na e => o5 _ _ na (same_upd hp _ _ (o4 _ _ na e))
    have l5 : H5 l = some (.lst []) := o5 _ _ nlb (same_upd hp _ _ l4)
    refine ⟨p, _, v, .int step, rfl, rfl, .inl (.inl (o5 _ _ npb upd_same)), hat, ?_⟩
    refine ⟨.int first, rfl, _, _, rfl, rfl, (by show (0 : Int) < 4; decide), rfl, .inr ⟨_, rfl, _, _, rfl, ?_⟩⟩
    generalize hk : (decide (V.int (first % 4) = V.int 3)) = kf
    have hf := bit2 kf
    generalize (if kf = true then 1 else 0 : Int) = few at hf
    -- the loop
    refine ⟨.int many, rfl, many, rfl, by omega, by omega, ?_⟩
    refine for_it (walk_range (lo := 0) (n := (many : Int).toNat)) (fun i σ H' => ∃ (y8 y9 y10 y11 : Option V) (names : List Str), σ = [some (.ref b), some (.int many), some (.str abc), some (.int first), some (.ref l), some (.str stem), some (.int step), some (.int few), y8, y9, y10, y11] ∧ Oth b H H' ∧ IsBox H' b ∧ H' l = some (.lst (names.map V.str)) ∧ names.length = i ∧ names.Nodup ∧ ∀ x ∈ names, NameOk x ∧ ∃ j : Nat, j < i ∧ lastC x = some (97 + ((first + step * (j : Int)) % 26).toNat)) ?_ (fun _ _ _ _ _ => trivial) ?_ ?_
    · exact ⟨_, _, _, _, [], rfl, o5', b5, l5, rfl, List.nodup_nil, fun _ h => nomatch h⟩
    · rintro i x σ H7 H6 hi ⟨y8, y9, y10, y11, names, rfl, o6, b6, l6, m1, m2, m3⟩ ⟨rfl, rfl⟩
      have hi2 : i < 26 := by omega
      have hsl : stem.length ≤ sizeLine := by rw [len_tlx]; exact small_le (by omega)
      refine ⟨_, rfl, _, rfl, hsl, _, rfl, _, rfl, _, _, rfl, rfl, (by show (0 : Int) < 3; decide), _, _, rfl, rfl, .inl ⟨by omega, by omega⟩, _, _, rfl, rfl, ?_⟩
      dsimp only
      generalize (stem.length : Int) - few * ((0 + (i : Int)) % 3) = cut
      have c0 : 0 ≤ (first + step * (0 + (i : Int))) % 26 := Int.emod_nonneg _ (by decide)
      have c1 : (first + step * (0 + (i : Int))) % 26 < 26 := Int.emod_lt_of_pos _ (by decide)
      refine ⟨_, rfl, _, rfl, cut, rfl, stem, rfl, hsl, _, rfl, _, rfl, _, rfl, _, rfl, _, _, rfl, rfl, ?_, _, _, rfl, rfl, _, _, rfl, rfl, (by show (0 : Int) < 26; decide), abc, _, _, rfl, rfl, (by rw [abc_len]; decide), abc_ix c0 c1, _, _, rfl, rfl, ?_, ?_⟩
      · rcases hst with rfl | rfl | rfl | rfl <;> exact .inl (by decide)
      · rw [len_tlx, cutS_tlx]
        have z := cutL_le (tlx stem) none (some cut)
        exact small_le (by show _ + 1 ≤ 1000; omega)
      rw [Int.zero_add] at c0 c1 ⊢
      have nok : NameOk (cutS stem none (some cut) ++ ⟨#[97 + ((first + step * (i : Int)) % 26).toNat]⟩) := name_ok w2 w3 (by omega)
      have nla := lastC_app (cutS stem none (some cut)) (97 + ((first + step * (i : Int)) % 26).toNat)
      generalize (cutS stem none (some cut) ++ ⟨#[97 + ((first + step * (i : Int)) % 26).toNat]⟩ : Str) = nm at nok nla
      have hnew : nm ∉ names := fun hm2 => by
        obtain ⟨_, j, hj, ej⟩ := m3 nm hm2
        rw [nla] at ej
        have q1 := Option.some.inj ej
        have q2 := apart hst hj hi2 first
        have q3 : 0 ≤ (first + step * (j : Int)) % 26 := Int.emod_nonneg _ (by decide)
        omega
      -- found.insert(take(box, len(found) + 1), name)
      have L6 : SqL K H6 l (names.map V.str) := .inl (.inl l6)
      refine ⟨.ref l, rfl, .inl ⟨rfl, _, L6⟩, .ref b, rfl, .ref l, rfl, l, _, rfl, .inl L6, _, _, rfl, rfl, b, _, rfl, b6, by omega, ?_, fun v H8 o8 b8 v0 v1 => ?_⟩
      · rw [List.length_map]
        omega
      have l8 : H8 l = some (.lst (names.map V.str)) := o8 _ _ nlb l6
      refine ⟨_, rfl, l, _, v, _, rfl, rfl, l8, ?_, v0, ?_, ?_⟩
      · rw [List.length_map]
        exact small1000 (by omega)
      · rw [List.length_map] at v1
        omega
      have pm := ins_perm names v.toNat nm
      refine ⟨_, _, _, _, names.take v.toNat ++ [nm] ++ names.drop v.toNat, rfl, fun a o na e => ?_, ?_, ?_, ?_, ?_, ?_⟩
      · have e8 := o8 _ _ na (o6 _ _ na e)
        rw [upd_ne (ne_of_none e nl)]
        exact e8
      · obtain ⟨i1, i2, i3, e⟩ := b8
        exact ⟨i1, i2, i3, (upd_ne (Ne.symm nlb)).trans e⟩
      · rw [upd_same, ins_map]
      · rw [pm.length_eq, List.length_cons, m1]
      · exact pm.nodup_iff.mpr (List.nodup_cons.mpr ⟨hnew, m2⟩)
      · intro x hx
        rcases List.mem_cons.mp (pm.mem_iff.mp hx) with rfl | hx
        · exact ⟨nok, i, Nat.lt_succ_self _, nla⟩
        · obtain ⟨z1, j, z2, z3⟩ := m3 x hx
          exact ⟨z1, j, Nat.lt_succ_of_lt z2, z3⟩
    · rintro σ H6 ⟨y8, y9, y10, y11, names, rfl, o6, b6, l6, m1, m2, m3⟩
      exact ⟨.ref l, rfl, q l names H6 o6 b6 nl l6 (by omega) m2 fun x hx => (m3 x hx).1⟩
/-! ### _law_pals -/
abbrev sPals : Stmt := topS 20
abbrev nPals : List Str := ["_law_box_here", "_law_pool", "_law_way", "_law_found", "_law_side", "_law_k", "_law_mine", "_law_j", "_law_fine", "_law_name"]
theorem scPals : FnScope nPals ["_law_box_here", "_law_pool"] (defScope sPals) := ⟨rfl, rfl, rfl, by decide +kernel, rfl, by decide +kernel, by decide +kernel⟩
theorem ok_pals {f : Addr} {fd : FuncData} (B : Blt mg) (CT : Cal P w K mg base 1 "_law_take" ["_law_box_here", "_law_many"] spTake) (F : Fun K "_law_pals" "_law_pals" sPals f fd) : FnOk P w K mg base CX0 2 f fd ["_law_box_here", "_law_pool"] spPals := by
  refine fok F scPals (fun vs H Q E h => ?_) (fun cdv A outer s H vs Q E hr h => ?_)
  · obtain ⟨b, l, pool, rfl, _⟩ := h
    rfl
  obtain ⟨b, l, pool, rfl, hb, hl, hnd, hn, q⟩ := h
  refine ⟨_, pss_cons (ps_par (i := 2) (j := 3) (by rfl) scPals.nd rfl rfl (by decide) rfl rfl (pa_cons (pe_cal CT hr (pa_cons (pv 0) (pa_cons pe_int pa_nil))) (pa_cons (pe_lst pa_nil) pa_nil)) (by rfl))
    (pss_cons (ps_setLc (i := 4) (own := [("_law_name", 9)]) (g := gName 9) (tt := tYes) rfl scPals.nd rfl rfl (sw_true rfl rfl rfl (by decide +kernel)) (pi_list (pv 1)) (blkOk_by (N := nPals) (sc := defScope sPals) (by decide +kernel)) (fun _ _ _ _ _ => pg_name (i := 9) scPals.nd rfl (Or.inl rfl)) (fun _ _ _ _ _ => pts_nil)
        (fun _ _ _ _ _ => pe_cal CT hr (pa_cons (pv 0) (pa_cons pe_int pa_nil))))
    (pss_cons (ps_for PassesOwn.never rfl (pi_enum (by rfl) B.enumerate (pa_cons (pv 1) pa_nil)) (pg_tup rfl (pgs_cons (pg_name (i := 5) scPals.nd rfl (.inl rfl)) (pgs_cons (pg_name (i := 6) scPals.nd rfl (.inl rfl)) pgs_nil)))
      (pss_one (ps_for PassesOwn.never rfl (pi_range1 (by rfl) B.range (pa_cons (pv 5) pa_nil)) (pg_name (i := 7) scPals.nd rfl (.inl rfl))
        (pss_cons (ps_set (i := 8) scPals.nd rfl (.inl rfl) (pe_mid (pe_ix ix_list (pe_lst (pa_cons (pe_cmpR op_eq (pe_cal CT hr (pa_cons (pv 0) (pa_cons pe_int pa_nil))) pe_int (nomark _)) (pa_cons (pe_cmpR op_eq (pe_cal CT hr (pa_cons (pv 0) (pa_cons pe_int pa_nil))) pe_int (nomark _)) (pa_cons (pe_cmpR op_gt (pe_cal CT hr (pa_cons (pv 0) (pa_cons pe_int pa_nil))) pe_int (nomark _)) pa_nil)))) (pe_op op_mod (pv 2) pe_int) (fun _ _ => rfl))))
        (pss_cons (ps_set (i := 8) scPals.nd rfl (.inl rfl) (pe_mid (pe_ifExp (pt_cmpR op_eq (pv 2) pe_int (nomark _)) (pe_cmpR op_eq (pe_ix ix_list (pv 4) (pv 5) (fun _ _ => rfl)) (pe_ix ix_list (pv 4) (pv 7) (fun _ _ => rfl)) (nomark _)) (pv 8))))
        (pss_one (ps_if (pt_val (pv 8)) (pss_one (ps_expr (pe_bm PySem.F.plainAttrs_list PySem.F.slot_list_append PySem.F.type_list_append mt_append (pv 3) (pa_cons (pe_tup (pa_cons (pe_callB (call_minS rfl) (by rfl) B.min (by decide +kernel) (pa_cons (pv 6) (pa_cons (pe_ix ix_list (pv 1) (pv 7) (fun _ _ => rfl)) pa_nil))) (pa_cons (pe_callB (call_maxS rfl) (by rfl) B.max (by decide +kernel) (pa_cons (pv 6) (pa_cons (pe_ix ix_list (pv 1) (pv 7) (fun _ _ => rfl)) pa_nil))) pa_nil))) pa_nil)))) pss_nil)))))))
    (pss_one (ps_ret (pe_callTy call_tuple_of (by rfl) B.tuple (by decide +kernel) (pa_cons (pe_callB (cr_sortedTT hr.units) (by rfl) B.sorted (by decide +kernel) (pa_cons (pv 3) pa_nil)) pa_nil)))))), ?_⟩
  have nlb : l ≠ b := hb.ne_strs hl
  -- way, found
  refine ⟨.ref b, rfl, b, 6, rfl, hb, by decide, by decide, fun way H1 o1 b1 w0 w1 => ⟨(by show 0 ≤ sizeLine; decide), fun fa hfa => ⟨_, _, rfl, ?_⟩⟩⟩
  have nfb : fa ≠ b := b1.ne_none hfa
  have nf : H fa = none := o1.free nfb hfa
  have l1 : H1 l = some (.lst (pool.map V.str)) := o1 _ _ nlb hl
  have nlf : l ≠ fa := ne_of_none l1 hfa
  have l2 : upd H1 fa (.lst []) l = some (.lst (pool.map V.str)) := (upd_ne nlf).trans l1
  have b2 : IsBox (upd H1 fa (.lst [])) b := b1.same (same_upd hfa)
  have o2 : Oth b H (upd H1 fa (.lst [])) := o1.trans (Oth.of (same_upd hfa))
  have f2 : upd H1 fa (.lst []) fa = some (.lst []) := upd_same
  dsimp only
  generalize upd H1 fa (.lst []) = H2 at *
  -- side
  refine ⟨.ref l, rfl, l, rfl, ⟨_, .inl (.inl l2)⟩, fun sa hsa => ?_⟩
  have nsb : sa ≠ b := b2.ne_none hsa
  have nsl : l ≠ sa := ne_of_none l2 hsa
  have nsf : fa ≠ sa := ne_of_none f2 hsa
  have ns : H sa = none := o2.free nsb hsa
  refine lc_it (walk_list (xs := pool.map V.str)) (fun i H' => ∃ sd : List Int, Oth b H H' ∧ IsBox H' b ∧ H' l = some (.lst (pool.map V.str)) ∧ H' fa = some (.lst []) ∧ H' sa = some (.lst (sd.map V.int)) ∧ sd.length = i) ?_ ?_ ?_ ?_
  · exact ⟨[], o2.trans (Oth.of (same_upd hsa)), b2.same (same_upd hsa), (upd_ne nsl).trans l2, (upd_ne nsf).trans f2, upd_same, rfl⟩
  · rintro i H' _ ⟨sd, _, _, e, _⟩
    exact .inl (.inl e)
  · rintro i x H4 H3 hi ⟨sd, o3, b3, l3, f3, s3, m3⟩ ⟨rfl, _⟩
    rw [List.length_map] at hi
    refine ⟨rfl, ⟨.ref b, rfl, b, 3, rfl, b3, by decide, by decide, fun v H5 o5 b5 v0 v1 => ⟨sd.map V.int, o5 _ _ nsb s3, ?_, ?_⟩⟩⟩
    · rw [List.length_map]
      exact small1000 (by omega)
    · refine ⟨sd ++ [v], fun a o na e => ?_, ?_, (upd_ne nsl).trans (o5 _ _ nlb l3), (upd_ne nsf).trans (o5 _ _ nfb f3), ?_, ?_⟩
      · rw [upd_ne (ne_of_none e ns)]
        exact o5 _ _ na (o3 _ _ na e)
      · obtain ⟨i1, i2, i3, e⟩ := b5
        exact ⟨i1, i2, i3, (upd_ne (Ne.symm nsb)).trans e⟩
      · rw [upd_same, List.map_append]
        rfl
      · rw [List.length_append, m3]
        rfl
  rintro H3 ⟨sd, o3, b3, l3, f3, s3, m3⟩
  rw [List.length_map] at m3
  -- the loops
  have hw : way = 0 ∨ way = 1 ∨ way = 2 ∨ way = 3 ∨ way = 4 ∨ way = 5 := by omega
  refine ⟨.ref l, rfl, l, _, rfl, .inl (.inl l3), ?_⟩
  refine for_it (walk_enum (xs := pool.map V.str)) (fun i σ H' => ∃ (y5 y6 y7 y8 y9 : Option V) (bs : List B3), σ = [some (.ref b), some (.ref l), some (.int way), some (.ref fa), some (.ref sa), y5, y6, y7, y8, y9] ∧ Oth b H H' ∧ IsBox H' b ∧ H' l = some (.lst (pool.map V.str)) ∧ H' fa = some (.lst (refs bs)) ∧ H' sa = some (.lst (sd.map V.int)) ∧ PairsAt H' bs ∧ OfPool pool (bs.map (·.2)) ∧ bs.length ≤ 26 * i) ?_ ?_ ?_ ?_
  · exact ⟨_, _, _, _, _, [], rfl, o3, b3, l3, f3, s3, (fun _ h => nomatch h), (fun _ h => nomatch h), Nat.zero_le _⟩
  · rintro i σ H' _ ⟨y5, y6, y7, y8, y9, bs, _, _, _, e, _⟩
    exact .inl (.inl e)
  · rintro i x σ H4 H5 hi ⟨y5, y6, y7, y8, y9, bs, rfl, o4, b4, l4, f4, s4, p4, g4, c4⟩ ⟨T, x1, x2, rfl, nT, rfl, e1, e2⟩
    rw [List.length_map] at hi
    cases e1
    obtain ⟨mine, hmine, rfl⟩ := at_map e2
    have sT : Same H4 (upd H4 T (.tup [.int (i : Nat), .str mine])) := same_upd nT
    refine ⟨T, _, rfl, .inl (.inl upd_same), rfl, _, _, rfl, _, _, rfl, rfl, ?_⟩
    refine ⟨_, rfl, i, rfl, by omega, by omega, ?_⟩
    refine for_it (walk_range (lo := 0) (n := (i : Int).toNat)) (fun j σ H' => ∃ (y7 y8 y9 : Option V) (bs : List B3), σ = [some (.ref b), some (.ref l), some (.int way), some (.ref fa), some (.ref sa), some (.int i), some (.str mine), y7, y8, y9] ∧ Oth b H H' ∧ IsBox H' b ∧ H' l = some (.lst (pool.map V.str)) ∧ H' fa = some (.lst (refs bs)) ∧ H' sa = some (.lst (sd.map V.int)) ∧ PairsAt H' bs ∧ OfPool pool (bs.map (·.2)) ∧ bs.length ≤ 26 * i + j) ?_ (fun _ _ _ _ _ => trivial) ?_ ?_
    · exact ⟨_, _, _, bs, rfl, o4.trans (Oth.of sT), b4.same sT, sT _ _ l4, sT _ _ f4, sT _ _ s4, p4.same sT, g4, by omega⟩
    · rintro j x σ H7 H6 hj ⟨y7, y8, y9, bs, rfl, o6, b6, l6, f6, s6, p6, g6, c6⟩ ⟨rfl, rfl⟩
      have hj2 : j < i := by omega
      obtain ⟨sj, hsj⟩ : ∃ v, sd[j]? = some v := ⟨sd[j]'(by omega), List.getElem?_eq_getElem _⟩
      obtain ⟨si, hsi⟩ : ∃ v, sd[i]? = some v := ⟨sd[i]'(by omega), List.getElem?_eq_getElem _⟩
      obtain ⟨pj, hpj⟩ : ∃ v, pool[j]? = some v := ⟨pool[j]'(by omega), List.getElem?_eq_getElem _⟩
      -- fine, by a draw
      refine ⟨fun v H8 => (∃ fb : Bool, v = .bl fb) ∧ Oth b H6 H8 ∧ IsBox H8 b, ?_, ?_⟩
      · refine ⟨.ref b, rfl, b, 4, rfl, b6, by decide, by decide, fun v1 h1 q1 c1 _ _ => ⟨rfl, .ref b, rfl, b, 2, rfl, c1, by decide, by decide, fun v2 h2 q2 c2 _ _ => ⟨rfl, .ref b, rfl, b, 4, rfl, c2, by decide, by decide, fun v3 h3 q3 c3 _ _ => ⟨_, _, rfl, rfl, (by show 3 ≤ sizeLine; decide), fun p hp => ?_⟩⟩⟩⟩
        have k0 : 0 ≤ way % 3 := Int.emod_nonneg _ (by decide)
        have k1 : way % 3 < 3 := Int.emod_lt_of_pos _ (by decide)
        have ox : Oth b H6 (upd h3 p (.lst [.bl (decide (V.int v1 = V.int 0)), .bl (decide (V.int v2 = V.int 0)), .bl (decide (v3 > 0))])) := ((q1.trans q2).trans q3).trans (Oth.of (same_upd hp))
        have bx : IsBox (upd h3 p (.lst [.bl (decide (V.int v1 = V.int 0)), .bl (decide (V.int v2 = V.int 0)), .bl (decide (v3 > 0))])) b := c3.same (same_upd hp)
        have km : way % 3 = ((0 : Nat) : Int) ∨ way % 3 = ((1 : Nat) : Int) ∨ way % 3 = ((2 : Nat) : Int) := by omega
        rcases km with km | km | km
        · exact ⟨_, rfl, _, _, rfl, rfl, (by show (0 : Int) < 3; decide), p, _, _, _, rfl, rfl, .inl (.inl upd_same), (by rw [km]; exact atI_nat (j := 0) rfl), ⟨_, rfl⟩, ox, bx⟩
        · exact ⟨_, rfl, _, _, rfl, rfl, (by show (0 : Int) < 3; decide), p, _, _, _, rfl, rfl, .inl (.inl upd_same), (by rw [km]; exact atI_nat (j := 1) rfl), ⟨_, rfl⟩, ox, bx⟩
        · exact ⟨_, rfl, _, _, rfl, rfl, (by show (0 : Int) < 3; decide), p, _, _, _, rfl, rfl, .inl (.inl upd_same), (by rw [km]; exact atI_nat (j := 2) rfl), ⟨_, rfl⟩, ox, bx⟩
      rintro v H8 ⟨⟨fb, rfl⟩, o8, b8⟩
      have l8 := o8 _ _ nlb l6
      have f8 := o8 _ _ nfb f6
      have s8 := o8 _ _ nsb s6
      have p8 := p6.oth o8 b6
      have o8' := o6.trans o8
      -- fine, by sides
      refine ⟨fun v H9 => (∃ fb : Bool, v = .bl fb) ∧ H9 = H8, ?_, ?_⟩
      · refine ⟨_, rfl, rfl, _, rfl, ite2 (fun _ => ?_) (fun _ => ?_)⟩
        · exact ⟨_, rfl, _, rfl, sa, _, _, _, rfl, rfl, .inl (.inl s8), atI_nat (ix_map hsi), _, rfl, _, rfl, sa, _, _, _, rfl, rfl, .inl (.inl s8), (by rw [Int.zero_add]; exact atI_nat (ix_map hsj)), rfl, ⟨_, rfl⟩, rfl⟩
        · exact ⟨_, rfl, ⟨_, rfl⟩, rfl⟩
      rintro v H9 ⟨⟨fb2, rfl⟩, rfl⟩
      refine ⟨_, rfl, fb2, rfl, ite2 (fun _ => ?_) (fun _ => ?_)⟩
      · refine ⟨.ref fa, rfl, .inl ⟨rfl, _, .inl (.inl f8)⟩, _, rfl, _, rfl, _, rfl, l, _, _, _, rfl, rfl, .inl (.inl l8), (by rw [Int.zero_add]; exact atI_nat (ix_map hpj)), _, _, rfl, _, rfl, _, rfl, _, rfl, l, _, _, _, rfl, rfl, .inl (.inl l8), (by rw [Int.zero_add]; exact atI_nat (ix_map hpj)), _, _, rfl, (by show 2 ≤ sizeLine; decide), fun t ht => ?_⟩
        have st : Same H9 (upd H9 t (.tup [.str (lmin mine pj), .str (lmax mine pj)])) := same_upd ht
        have f9 := st _ _ f8
        have ntf : t ≠ fa := (ne_of_none f8 ht).symm
        refine ⟨fa, _, _, rfl, rfl, f9, ?_, ?_⟩
        · show (bs.map _).length < _
          rw [List.length_map]
          exact small1000 (by omega)
        · refine ⟨_, _, _, bs ++ [(t, lmin mine pj, lmax mine pj)], rfl, fun a o na e => ?_, ?_, ?_, ?_, ?_, ?_, ?_, ?_⟩
          · rw [upd_ne (ne_of_none e nf)]
            exact st _ _ (o8' _ _ na e)
          · obtain ⟨i1, i2, i3, e⟩ := b8
            exact ⟨i1, i2, i3, (upd_ne (Ne.symm nfb)).trans (st _ _ e)⟩
          · exact (upd_ne nlf).trans (st _ _ l8)
          · rw [upd_same]
            show _ = some (HO.lst ((bs ++ [_]).map _))
            rw [List.map_append]
            rfl
          · exact (upd_ne (Ne.symm nsf)).trans (st _ _ s8)
          · intro c hc
            rcases List.mem_append.mp hc with z | z
            · have e := st _ _ (p8 c z)
              rw [upd_ne (ne_of e f9 (fun z => nomatch z))]
              exact e
            · have ec : c = (t, lmin mine pj, lmax mine pj) := by simpa using z
              rw [ec]
              exact (upd_ne ntf).trans upd_same
          · rw [List.map_append]
            intro p hp
            rcases List.mem_append.mp hp with z | z
            · exact g6 p z
            · have ep : p = (lmin mine pj, lmax mine pj) := by simpa using z
              refine ⟨mine, pj, List.mem_of_getElem? hmine, List.mem_of_getElem? hpj, fun z => ?_, ep⟩
              rw [← z] at hpj
              have := nd_ix hnd hmine hpj
              omega
          · rw [List.length_append]
            show bs.length + 1 ≤ _
            omega
      · exact ⟨_, _, _, bs, rfl, o8', b8, l8, f8, s8, p8, g6, by omega⟩
    · rintro σ H6 ⟨y7, y8, y9, bs, rfl, o6, b6, l6, f6, s6, p6, g6, c6⟩
      exact ⟨_, _, _, _, _, bs, rfl, o6, b6, l6, f6, s6, p6, g6, by omega⟩
  · rintro σ H4 ⟨y5, y6, y7, y8, y9, bs, rfl, o4, b4, l4, f4, s4, p4, g4, c4⟩
    rw [List.length_map] at c4
    refine ⟨_, rfl, fa, bs, rfl, .inl (.inl f4), p4, fun p hp => ?_⟩
    have s5 : Same H4 (upd H4 p (.lst ((bs.mergeSort (PySem.W.dataLe false encP)).map fun b => V.ref b.1))) := same_upd hp
    refine ⟨p, _, rfl, .inl ⟨.inl (.inl upd_same), fun a ha => ?_⟩⟩
    have s6 := s5.trans (same_upd (o := .tup ((bs.mergeSort (PySem.W.dataLe false encP)).map fun b => V.ref b.1)) ha)
    have nab : a ≠ b := (b4.same s5).ne_none ha
    have pm := List.mergeSort_perm bs (PySem.W.dataLe false encP)
    refine q a (bs.mergeSort (PySem.W.dataLe false encP)) _ (o4.trans (Oth.of s6)) (b4.same s6) (o4.free nab (s5.free ha)) upd_same (fun c hc => s6 _ _ (p4 c (pm.mem_iff.mp hc))) (fun p' hp' => g4 p' ((pm.map _).mem_iff.mp hp')) ?_ ⟨bs, rfl⟩
    rw [pm.length_eq]
    omega
/-! ### _law_are -/
abbrev sAre : Stmt := topS 21
theorem scAre : FnScope ["_law_pals_here", "_law_mine", "_law_its"] ["_law_pals_here", "_law_mine", "_law_its"] (defScope sAre) := ⟨rfl, rfl, rfl, by decide +kernel, rfl, by decide +kernel, by decide +kernel⟩
theorem ok_are {f : Addr} {fd : FuncData} (B : Blt mg) (F : Fun K "_law_are" "_law_are" sAre f fd) : FnOk P w K mg base CX0 1 f fd ["_law_pals_here", "_law_mine", "_law_its"] spAre := by
  refine fok F scAre (fun vs H Q E h => ?_) (fun cdv A outer s H vs Q E hr h => ?_)
  · obtain ⟨a, ps, x, y, rfl, _⟩ := h
    rfl
  obtain ⟨a, ps, x, y, rfl, ha, ho, gx, gy, q⟩ := h
  refine ⟨_, pss_one (ps_ret (pe_cmpR (op_inT (u65 hr)) (pe_tup (pa_cons (pe_callB (call_minS rfl) (by rfl) B.min (by decide +kernel) (pa_cons (pv 1) (pa_cons (pv 2) pa_nil))) (pa_cons (pe_callB (call_maxS rfl) (by rfl) B.max (by decide +kernel) (pa_cons (pv 1) (pa_cons (pv 2) pa_nil))) pa_nil))) (pv 0) (by rfl))), ?_⟩
  refine ⟨_, rfl, _, rfl, _, _, rfl, _, rfl, _, rfl, _, _, rfl, (by show 2 ≤ sizeLine; decide), fun t ht => ?_⟩
  have st : Same H (upd H t (.tup [.str (lmin x y), .str (lmax x y)])) := same_upd ht
  refine ⟨_, rfl, _, _, dp_tuple (xs := [lmin x y, lmax x y]) upd_same, dp_pals (ha.same st), sh_pair (p := (lmin x y, lmax x y)) ⟨lmin_good gx gy, lmax_good gx gy⟩, sh_pals ho.good, ?_⟩
  have e := any_pair ps (lmin x y, lmax x y)
  rw [frd_pair ho] at e
  have e2 : ((ps.map encQ).any fun z => PyData.eqv z (.tuple ([lmin x y, lmax x y].map .str))) = frd ps x y := e
  rw [e2]
  exact q _ st
/-! ### _law_come -/
abbrev sCome : Stmt := topS 22
abbrev nCome : List Str := ["_law_pals_here", "_law_stand", "_law_name", "_law_spot", "_law_k", "_law_its", "_law_known"]
theorem scCome : FnScope nCome ["_law_pals_here", "_law_stand", "_law_name"] (defScope sCome) := ⟨rfl, rfl, rfl, by decide +kernel, rfl, by decide +kernel, by decide +kernel⟩
theorem ok_come {f : Addr} {fd : FuncData} (B : Blt mg) (CA : Cal P w K mg base 1 "_law_are" ["_law_pals_here", "_law_mine", "_law_its"] spAre) (F : Fun K "_law_come" "_law_come" sCome f fd) : FnOk P w K mg base CX0 2 f fd ["_law_pals_here", "_law_stand", "_law_name"] spCome := by
  refine fok F scCome (fun vs H Q E h => ?_) (fun cdv A outer s H vs Q E hr h => ?_)
  · obtain ⟨a, t, ps, stand, x, rfl, _⟩ := h
    rfl
  obtain ⟨a, t, ps, stand, x, rfl, ha, ho, ht, gs, gx, hn, q⟩ := h
  refine ⟨_, pss_cons (ps_set (i := 3) scCome.nd rfl (.inl rfl) (pe_callB call_len_seq (by rfl) B.len PySem.boot_len (pa_cons (pv 1) pa_nil)))
    (pss_cons (ps_for PassesOwn.never rfl (pi_enumT (by rfl) B.enumerate (pa_cons (pv 1) pa_nil)) (pg_tup rfl (pgs_cons (pg_name (i := 4) scCome.nd rfl (.inl rfl)) (pgs_cons (pg_name (i := 5) scCome.nd rfl (.inl rfl)) pgs_nil)))
      (pss_one (ps_if (pt_val (pe_cal CA hr (pa_cons (pv 0) (pa_cons (pv 2) (pa_cons (pv 5) pa_nil))))) (pss_one (ps_set (i := 3) scCome.nd rfl (.inl rfl) (pe_op op_add (pv 4) pe_int))) pss_nil)))
    (pss_cons (ps_setLc (i := 6) (own := [("_law_its", 5)]) (g := gName 5) (tt := tB (tCall spAre [] E0 (tCons (tVar 0) (tCons (tVar 2) (tCons (tVar 5) tNil))))) rfl scCome.nd rfl rfl (sw_true rfl rfl rfl (by decide +kernel)) (pi_tup (pv 1)) (blkOk_by (N := nCome) (sc := defScope sCome) (by decide +kernel)) (fun _ _ _ _ _ => pg_name (i := 5) scCome.nd rfl (Or.inl rfl))
        (fun _ _ _ _ _ => pts_one (pt_val (pe_cal CA hr (pa_cons (pv 0) (pa_cons (pv 2) (pa_cons (pv 5) pa_nil)))))) (fun _ _ _ _ _ => pv 5))
    (pss_cons (ps_set (i := 3) scCome.nd rfl (.inl rfl) (pe_mid (pe_ifExp (pt_cmpR (op_neNil hr.units) (pv 6) (pe_lst pa_nil) (nomark _)) (pv 3) (pe_callB call_len_seq (by rfl) B.len PySem.boot_len (pa_cons (pv 1) pa_nil)))))
    (pss_one (ps_ret (pe_op op_catM (pe_op op_catM (pe_slice sl_tupM (pv 1) po_none (po_some (pv 3))) (pe_tupF (pa_cons (pv 2) pa_nil))) (pe_slice sl_tupM (pv 1) (po_some (pv 3)) po_none))))))), ?_⟩
  -- spot = len(stand)
  refine ⟨.ref t, rfl, t, _, rfl, .inr ht.sq, ?_⟩
  rw [List.length_map]
  -- the loop
  refine ⟨.ref t, rfl, t, _, rfl, ht.sq, ?_⟩
  refine for_it (walk_enumT (xs := stand.map V.str)) (fun i σ H' => ∃ (y4 y5 y6 : Option V), σ = [some (.ref a), some (.ref t), some (.str x), some (.int (match lastP (frd ps x) (stand.take i) with | some k => ((k + 1 : Nat) : Int) | none => (stand.length : Int))), y4, y5, y6] ∧ Same H H') ?_ ?_ ?_ ?_
  · exact ⟨_, _, _, rfl, Same.refl H⟩
  · rintro i σ H' _ ⟨y4, y5, y6, _, s1⟩
    exact (ht.same s1).sq
  · rintro i v σ H1 H2 hi ⟨y4, y5, y6, rfl, s1⟩ ⟨T, x1, x2, rfl, nT, rfl, e1, e2⟩
    cases e1
    obtain ⟨its, hits, rfl⟩ := at_map e2
    have s2 := s1.trans (same_upd (o := .tup [.int (i : Nat), .str its]) nT)
    refine ⟨T, _, rfl, .inl (.inl upd_same), rfl, _, _, rfl, _, _, rfl, rfl, ?_⟩
    refine ⟨_, rfl, _, rfl, _, rfl, a, ps, x, its, rfl, ha.same s2, ho, gx, gs.at_ hits, fun H3 s3 => ⟨_, rfl, ?_⟩⟩
    have lt := lastP_take (frd ps x) hits
    refine ite2 (fun c => ?_) (fun c => ?_)
    · rw [if_pos c] at lt
      refine ⟨_, rfl, _, _, rfl, rfl, some (.int (i : Nat)), some (.str its), y6, ?_, s2.trans s3⟩
      rw [lt]
      rfl
    · rw [if_neg c] at lt
      refine ⟨some (.int (i : Nat)), some (.str its), y6, ?_, s2.trans s3⟩
      rw [lt]
      rfl
  rintro σ H1 ⟨y4, y5, y6, rfl, s1⟩
  rw [List.length_map, List.take_of_length_le (Nat.le_refl _)]
  -- known
  refine ⟨.ref t, rfl, t, rfl, ⟨_, (ht.same s1).sq⟩, fun D hD => ?_⟩
  have nD : H D = none := s1.free hD
  refine lc_it (walk_tup (xs := stand.map V.str)) (fun i H' => Same H H' ∧ H' D = some (.lst (((stand.take i).filter (frd ps x)).map V.str))) ?_ ?_ ?_ ?_
  · exact ⟨s1.trans (same_upd hD), upd_same⟩
  · rintro i H' _ ⟨s2, _⟩
    exact (ht.same s2).sq
  · rintro i v H3 H2 hi ⟨s2, d2⟩ ⟨rfl, e2⟩
    obtain ⟨its, hits, rfl⟩ := at_map e2
    rw [List.length_map] at hi
    have ft : (stand.take (i + 1)).filter (frd ps x) = (stand.take i).filter (frd ps x) ++ if frd ps x its = true then [its] else [] := by
      rw [List.take_add_one, hits, List.filter_append]
      show _ ++ List.filter (frd ps x) [its] = _
      rw [List.filter_cons, List.filter_nil]
    refine ⟨rfl, _, rfl, _, rfl, _, rfl, a, ps, x, its, rfl, ha.same s2, ho, gx, gs.at_ hits, fun H4 s4 => ⟨_, rfl, ?_⟩⟩
    refine ite2 (fun c => ?_) (fun c => ?_)
    · rw [if_pos c] at ft
      refine ⟨_, rfl, _, s4 _ _ d2, ?_, fun b o e => ?_, ?_⟩
      · rw [List.length_map]
        exact small1000 (Nat.le_trans (List.length_filter_le _ _) (by rw [List.length_take]; omega))
      · rw [upd_ne (ne_of_none e nD)]
        exact s4 _ _ (s2 _ _ e)
      · rw [upd_same, ft, List.map_append]
        rfl
    · rw [if_neg c, List.append_nil] at ft
      exact ⟨s2.trans s4, by rw [ft]; exact s4 _ _ d2⟩
  rintro H2 ⟨s2, d2⟩
  rw [List.length_map, List.take_of_length_le (Nat.le_refl _)] at d2
  have t2 := ht.same s2
  -- spot
  refine ⟨fun v H' => v = .int (spotOf ps stand x : Nat) ∧ Same H H', ?_, ?_⟩
  · refine ⟨_, rfl, (by show 0 ≤ sizeLine; decide), fun p hp => ⟨D, p, _, rfl, rfl, same_upd hp _ _ d2, upd_same, gs.filter, _, rfl, ?_⟩⟩
    have s3 := s2.trans (same_upd (o := .lst []) hp)
    unfold spotOf
    refine ite2 (fun c => ?_) (fun c => ?_)
    · refine ⟨_, rfl, ?_, s3⟩
      cases e : lastP (frd ps x) stand with
      | none =>
        exact absurd (lastP_nil.mp e) (of_decide_eq_false (by simpa using c))
      | some k => rfl
    · refine ⟨.ref t, rfl, t, _, rfl, .inr (t2.same (same_upd hp)).sq, ?_, s3⟩
      rw [List.length_map]
      cases e : lastP (frd ps x) stand with
      | none => rfl
      | some k =>
        have z : ¬ stand.filter (frd ps x) = [] := fun z => by rw [lastP_nil.mpr z] at e; cases e
        rw [decide_eq_false z] at c
        first | exact absurd rfl c | exact c.elim rfl | skip
  rintro v H3 ⟨rfl, s3⟩
  have t3 := ht.same s3
  refine ⟨.ref t, rfl, _, rfl, _, rfl, t, _, rfl, t3, fun t1 H4 s4 e4 => ?_⟩
  rw [cutV_map, cutL_to] at e4
  refine ⟨_, rfl, (by show 1 ≤ sizeLine; decide), fun p Hp sp hp tp => ?_⟩
  refine ⟨t1, p, _, _, rfl, rfl, e4.same sp, tp, ?_, fun t5 H5 s5 e5 => ?_⟩
  · rw [List.length_map, List.length_take]
    exact small_le (by show _ + 1 ≤ 1000; omega)
  have s35 := (s4.trans sp).trans s5
  refine ⟨.ref t, rfl, _, rfl, _, rfl, t, _, rfl, t3.same s35, fun t6 H6 s6 e6 => ?_⟩
  rw [cutV_map, cutL_from] at e6
  refine ⟨t5, t6, _, _, rfl, rfl, e5.same s6, e6, ?_, fun t7 H7 s7 e7 => ?_⟩
  · rw [List.length_append, List.length_map, List.length_map, List.length_take, List.length_drop]
    exact small_le (by show _ + 1 + _ ≤ 1000; omega)
  refine q t7 H7 ((s3.trans s35).trans (s6.trans s7)) ?_
  unfold comeTo
  rw [List.map_append, List.map_append]
  exact e7
/-! ### _law_stand_of, _law_strewn, _law_thinned, _law_fine_stand, _law_any_stand -/
abbrev sStandOf : Stmt := topS 23
abbrev nStandOf : List Str := ["_law_pals_here", "_law_some", "_law_stand", "_law_name"]
theorem scStandOf : FnScope nStandOf ["_law_pals_here", "_law_some"] (defScope sStandOf) := ⟨rfl, rfl, rfl, by decide +kernel, rfl, by decide +kernel, by decide +kernel⟩
theorem ok_standOf {f : Addr} {fd : FuncData} (CC : Cal P w K mg base 2 "_law_come" ["_law_pals_here", "_law_stand", "_law_name"] spCome) (F : Fun K "_law_stand_of" "_law_stand_of" sStandOf f fd) : FnOk P w K mg base CX0 3 f fd ["_law_pals_here", "_law_some"] spStandOf := by
  refine fok F scStandOf (fun vs H Q E h => ?_) (fun cdv A outer s H vs Q E hr h => ?_)
  · obtain ⟨a, l, ps, so, rfl, _⟩ := h
    rfl
  obtain ⟨a, l, ps, so, rfl, ha, ho, hl, gs, hn, q⟩ := h
  refine ⟨_, pss_cons (ps_set (i := 2) scStandOf.nd rfl (.inl rfl) (pe_tupF pa_nil))
    (pss_cons (ps_for PassesOwn.never rfl (pi_list (pv 1)) (pg_name (i := 3) scStandOf.nd rfl (.inl rfl))
      (pss_one (ps_set (i := 2) scStandOf.nd rfl (.inl rfl) (pe_cal CC hr (pa_cons (pv 0) (pa_cons (pv 2) (pa_cons (pv 3) pa_nil)))))))
    (pss_one (ps_ret (pv 2)))), ?_⟩
  refine ⟨(by show 0 ≤ sizeLine; decide), fun p Hp sp hp tp => ?_⟩
  refine ⟨.ref l, rfl, l, rfl, ⟨_, .inl (.inl (sp _ _ hl))⟩, ?_⟩
  refine for_it (walk_list (xs := so.map V.str)) (fun i σ H' => ∃ (t : Addr) (y3 : Option V), σ = [some (.ref a), some (.ref l), some (.ref t), y3] ∧ Same H H' ∧ TupAt H' t ((standOf ps (so.take i)).map V.str)) ?_ ?_ ?_ ?_
  · exact ⟨p, _, rfl, sp, tp⟩
  · rintro i σ H' _ ⟨t, y3, _, s1, _⟩
    exact .inl (.inl (s1 _ _ hl))
  · rintro i v σ H2 H1 hi ⟨t, y3, rfl, s1, e1⟩ ⟨rfl, e2⟩
    rw [List.length_map] at hi
    obtain ⟨x, hx, rfl⟩ := at_map e2
    have pm := stand_perm ps (so.take i)
    have gst : Goods (standOf ps (so.take i)) := Goods.perm (fun y hy => gs y (List.mem_of_mem_take hy)) pm
    refine ⟨_, rfl, _, rfl, _, rfl, a, t, ps, _, x, rfl, ha.same s1, ho, e1, gst, gs.at_ hx, ?_, fun t' H3 s3 e3 => ?_⟩
    · rw [pm.length_eq, List.length_take]
      omega
    · refine ⟨t', _, rfl, s1.trans s3, ?_⟩
      rw [List.take_add_one, hx]
      show TupAt H3 t' ((standOf ps (so.take i ++ [x])).map V.str)
      rw [standOf_app]
      exact e3
  · rintro σ H1 ⟨t, y3, rfl, s1, e1⟩
    rw [List.length_map, List.take_of_length_le (Nat.le_refl _)] at e1
    exact ⟨.ref t, rfl, q t H1 s1 e1⟩
abbrev sStrewn : Stmt := topS 24
abbrev nStrewn : List Str := ["_law_box_here", "_law_some", "_law_found", "_law_name"]
theorem scStrewn : FnScope nStrewn ["_law_box_here", "_law_some"] (defScope sStrewn) := ⟨rfl, rfl, rfl, by decide +kernel, rfl, by decide +kernel, by decide +kernel⟩
theorem ok_strewn {f : Addr} {fd : FuncData} (B : Blt mg) (CT : Cal P w K mg base 1 "_law_take" ["_law_box_here", "_law_many"] spTake) (F : Fun K "_law_strewn" "_law_strewn" sStrewn f fd) : FnOk P w K mg base CX0 2 f fd ["_law_box_here", "_law_some"] spStrewn := by
  refine fok F scStrewn (fun vs H Q E h => ?_) (fun cdv A outer s H vs Q E hr h => ?_)
  · obtain ⟨b, l, pool, rfl, _⟩ := h
    rfl
  obtain ⟨b, l, pool, rfl, hb, hl, hn, q⟩ := h
  have nlb : l ≠ b := hl.elim (fun e => e.ne hb) (fun e => hb.ne_strs e)
  refine ⟨_, pss_cons (ps_set (i := 2) scStrewn.nd rfl (.inl rfl) (pe_lst pa_nil))
    (pss_cons (ps_for PassesOwn.never rfl (pi_or2 (pi_list (pv 1)) (pi_tup (pv 1))) (pg_name (i := 3) scStrewn.nd rfl (.inl rfl))
      (pss_one (ps_expr (pe_bm PySem.F.plainAttrs_list PySem.F.slot_list_insert PySem.F.type_list_insert mt_insert (pv 2) (pa_cons (pe_cal CT hr (pa_cons (pv 0) (pa_cons (pe_op op_add (pe_callB call_len_seq (by rfl) B.len PySem.boot_len (pa_cons (pv 2) pa_nil)) pe_int) pa_nil))) (pa_cons (pv 3) pa_nil))))))
    (pss_one (ps_ret (pv 2)))), ?_⟩
  refine ⟨(by show 0 ≤ sizeLine; decide), fun fa hfa => ?_⟩
  have s0 : Same H (upd H fa (.lst [])) := same_upd hfa
  have nfb : fa ≠ b := hb.ne_none hfa
  have nlf : l ≠ fa := hl.elim (fun e => e.ne_new hfa) (fun e => ne_of_none e hfa)
  have turn : ∀ (i : Nat) (x : Str) (σ : L2.St) (H1 : Hp), pool[i]? = some x → (∃ (order : List Str) (y3 : Option V), σ = [some (.ref b), some (.ref l), some (.ref fa), y3] ∧ Oth b H H1 ∧ IsBox H1 b ∧ RowAt H1 l pool ∧ H1 fa = some (.lst (order.map V.str)) ∧ order.Perm (pool.take i)) → ∀ (D : Ends), D.nx = (fun σ H1 => ∃ (order : List Str) (y3 : Option V), σ = [some (.ref b), some (.ref l), some (.ref fa), y3] ∧ Oth b H H1 ∧ IsBox H1 b ∧ RowAt H1 l pool ∧ H1 fa = some (.lst (order.map V.str)) ∧ order.Perm (pool.take (i + 1))) →
      (tDrop (tBM K "list" (fun x vs H Q => ∃ l xs i y, x = .ref l ∧ vs = [.int i, y] ∧ H l = some (.lst xs) ∧ xs.length < sizeLine ∧ 0 ≤ i ∧ i < 2 ^ 63 ∧ Q .non (upd H l (.lst (xs.take i.toNat ++ [y] ++ xs.drop i.toNat)))) (tVar 2) (tCons (tCall spTake [] E0 (tCons (tVar 0) (tCons (tOp (rI0 fun i j => .int (i + j)) (tCB (fun xs H Q => ∃ p ys, xs = [.ref p] ∧ (SqL K H p ys ∨ SqT K H p ys) ∧ Q (.int ys.length) H) (tCons (tVar 2) tNil)) (tC (.int 1))) tNil))) (tCons (tVar 3) tNil)))) D (σ.set 3 (some (.str x))) H1 := by
    rintro i x σ H1 hx ⟨order, y3, rfl, o1, b1, l1, f1, p1⟩ D hD
    have hi : i < pool.length := (List.getElem?_eq_some_iff.mp hx).1
    have ol : order.length = i := by
      rw [p1.length_eq, List.length_take]
      omega
    have L1 : SqL K H1 fa (order.map V.str) := .inl (.inl f1)
    refine ⟨.ref fa, rfl, .inl ⟨rfl, _, L1⟩, .ref b, rfl, .ref fa, rfl, fa, _, rfl, .inl L1, _, _, rfl, rfl, b, _, rfl, b1, by omega, ?_, fun v H2 o2 b2 v0 v1 => ?_⟩
    · rw [List.length_map]
      omega
    have f2 : H2 fa = some (.lst (order.map V.str)) := o2 _ _ nfb f1
    refine ⟨_, rfl, fa, _, v, _, rfl, rfl, f2, ?_, v0, ?_, ?_⟩
    · rw [List.length_map]
      exact small1000 (by omega)
    · rw [List.length_map] at v1
      omega
    rw [hD]
    have pm := ins_perm order v.toNat x
    refine ⟨order.take v.toNat ++ [x] ++ order.drop v.toNat, _, rfl, fun a o na e => ?_, ?_, ?_, ?_, ?_⟩
    · rw [upd_ne (ne_of_none e hfa)]
      exact o2 _ _ na (o1 _ _ na e)
    · obtain ⟨i1, i2, i3, e⟩ := b2
      exact ⟨i1, i2, i3, (upd_ne (Ne.symm nfb)).trans e⟩
    · exact l1.elim (fun e => .inl ((e.oth o2 b1).upd_ f2)) (fun e => .inr ((upd_ne nlf).trans (o2 _ _ nlb e)))
    · rw [upd_same, ins_map]
    · refine pm.trans ((p1.cons x).trans ?_)
      rw [List.take_add_one, hx]
      exact (List.perm_append_singleton x (pool.take i)).symm
  have fin : ∀ (σ : L2.St) (H1 : Hp), (∃ (order : List Str) (y3 : Option V), σ = [some (.ref b), some (.ref l), some (.ref fa), y3] ∧ Oth b H H1 ∧ IsBox H1 b ∧ RowAt H1 l pool ∧ H1 fa = some (.lst (order.map V.str)) ∧ order.Perm (pool.take (pool.map V.str).length)) → ∃ v, σ[2]? = some (some v) ∧ Q v H1 := by
    rintro σ H1 ⟨order, y3, rfl, o1, b1, l1, f1, p1⟩
    rw [List.length_map, List.take_of_length_le (Nat.le_refl _)] at p1
    exact ⟨.ref fa, rfl, q fa order H1 o1 b1 hfa f1 p1⟩
  rcases hl with e | e
  · refine .inr ⟨.ref l, rfl, l, rfl, ⟨_, (e.same s0).sq⟩, ?_⟩
    refine for_it (walk_tup (xs := pool.map V.str)) (fun i σ H1 => ∃ (order : List Str) (y3 : Option V), σ = [some (.ref b), some (.ref l), some (.ref fa), y3] ∧ Oth b H H1 ∧ IsBox H1 b ∧ RowAt H1 l pool ∧ H1 fa = some (.lst (order.map V.str)) ∧ order.Perm (pool.take i)) ?_ ?_ ?_ ?_
    · exact ⟨[], _, rfl, Oth.of s0, hb.same s0, .inl (e.same s0), upd_same, List.Perm.refl _⟩
    · rintro i σ H1 _ ⟨order, y3, _, o1, _⟩
      exact (e.oth o1 hb).sq
    · rintro i v σ H2 H1 hi pv ⟨rfl, e2⟩
      obtain ⟨x, hx, rfl⟩ := at_map e2
      exact turn i x σ _ hx pv _ rfl
    · exact fin
  · refine .inl ⟨.ref l, rfl, l, rfl, ⟨_, .inl (.inl (s0 _ _ e))⟩, ?_⟩
    refine for_it (walk_list (xs := pool.map V.str)) (fun i σ H1 => ∃ (order : List Str) (y3 : Option V), σ = [some (.ref b), some (.ref l), some (.ref fa), y3] ∧ Oth b H H1 ∧ IsBox H1 b ∧ RowAt H1 l pool ∧ H1 fa = some (.lst (order.map V.str)) ∧ order.Perm (pool.take i)) ?_ ?_ ?_ ?_
    · exact ⟨[], _, rfl, Oth.of s0, hb.same s0, .inr (s0 _ _ e), upd_same, List.Perm.refl _⟩
    · rintro i σ H1 _ ⟨order, y3, _, o1, _⟩
      exact .inl (.inl (o1 _ _ nlb e))
    · rintro i v σ H2 H1 hi pv ⟨rfl, e2⟩
      obtain ⟨x, hx, rfl⟩ := at_map e2
      exact turn i x σ _ hx pv _ rfl
    · exact fin
/-! ### _law_world -/
abbrev sWorld : Stmt := topS 25
abbrev nWorld : List Str := ["_law_box_here", "_law_least", "_law_utmost", "_law_pool", "_law_pals_here", "_law_some"]
theorem scWorld : FnScope nWorld ["_law_box_here", "_law_least", "_law_utmost"] (defScope sWorld) := ⟨rfl, rfl, rfl, by decide +kernel, rfl, by decide +kernel, by decide +kernel⟩
theorem ok_world {f : Addr} {fd : FuncData} (CT : Cal P w K mg base 1 "_law_take" ["_law_box_here", "_law_many"] spTake) (CN : Cal P w K mg base 2 "_law_names" ["_law_box_here", "_law_many"] spNames) (CP : Cal P w K mg base 2 "_law_pals" ["_law_box_here", "_law_pool"] spPals)
    (CSt : Cal P w K mg base 3 "_law_stand_of" ["_law_pals_here", "_law_some"] spStandOf) (CW : Cal P w K mg base 2 "_law_strewn" ["_law_box_here", "_law_some"] spStrewn) (F : Fun K "_law_world" "_law_world" sWorld f fd) : FnOk P w K mg base CX0 4 f fd ["_law_box_here", "_law_least", "_law_utmost"] spWorld := by
  refine fok F scWorld (fun vs H Q E h => ?_) (fun cdv A outer s H vs Q E hr h => ?_)
  · obtain ⟨b, least, utmost, rfl, _⟩ := h
    rfl
  obtain ⟨b, least, utmost, rfl, hb, h1, h2, q⟩ := h
  refine ⟨_, pss_cons (ps_set (i := 3) scWorld.nd rfl (.inl rfl) (pe_cal CN hr (pa_cons (pv 0) (pa_cons (pe_op op_add (pv 1) (pe_cal CT hr (pa_cons (pv 0) (pa_cons (pe_op op_add (pe_op op_sub (pv 2) (pv 1)) pe_int) pa_nil)))) pa_nil))))
    (pss_cons (ps_set (i := 4) scWorld.nd rfl (.inl rfl) (pe_cal CP hr (pa_cons (pv 0) (pa_cons (pv 3) pa_nil))))
    (pss_cons (ps_set (i := 5) scWorld.nd rfl (.inl rfl) (pe_cal CW hr (pa_cons (pv 0) (pa_cons (pv 3) pa_nil))))
    (pss_one (ps_ret (pe_tup (pa_cons (pv 4) (pa_cons (pv 3) (pa_cons (pv 5) (pa_cons (pe_cal CSt hr (pa_cons (pv 4) (pa_cons (pv 5) pa_nil))) pa_nil))))))))), ?_⟩
  refine ⟨_, rfl, _, rfl, .ref b, rfl, _, rfl, _, rfl, _, _, rfl, rfl, _, _, rfl, rfl, b, _, rfl, hb, by omega, by omega, fun v H1 o1 b1 v0 v1 => ⟨_, _, rfl, rfl, ?_⟩⟩
  refine ⟨b, ((least : Int) + v).toNat, ?_, b1, by omega, fun l pool H2 o2 b2 nl e2 n2 nd2 ok2 => ?_⟩
  · rw [Int.toNat_of_nonneg (by omega)]
    rfl
  have gp : Goods pool := fun x hx => (ok2 x hx).good
  refine ⟨_, rfl, _, rfl, b, l, pool, rfl, b2, e2, nd2, by omega, fun a bs H3 o3 b3 na e3 p3 g3 c3 srt => ?_⟩
  have hpa : PalsAt H3 a (bs.map (·.2)) := ⟨bs, e3, p3, rfl⟩
  have hpo : PalsOk (bs.map (·.2)) := g3.ok gp
  have l3 : H3 l = some (.lst (pool.map V.str)) := o3 _ _ (b2.ne_strs e2) e2
  refine ⟨_, rfl, _, rfl, b, l, pool, rfl, b3, .inr l3, by omega, fun o order H4 o4 b4 no e4 pm => ?_⟩
  have l4 := o4 _ _ (b3.ne_strs l3) l3
  have a4 := o4 _ _ (b3.ne_tup e3) e3
  have p4 := p3.oth o4 b3
  have go : Goods order := gp.perm pm
  refine ⟨_, rfl, _, rfl, _, rfl, _, rfl, _, rfl, a, o, _, order, rfl, ⟨bs, a4, p4, rfl⟩, hpo, e4, go, by rw [pm.length_eq]; omega, fun t H5 s5 t5 => ?_⟩
  refine ⟨(by show 4 ≤ sizeLine; decide), fun T hT => ?_⟩
  have sT := same_upd (o := .tup [.ref a, .ref l, .ref o, .ref t]) hT
  have s6 := s5.trans sT
  have o12 := o1.trans o2
  have o13 := o12.trans o3
  exact q T a l o t bs pool order _ ((o13.trans o4).trans (Oth.of s6)) (b4.same s6) upd_same (o12.free (b2.ne_none na) na) (o1.free (b1.ne_none nl) nl) (o13.free (b3.ne_none no) no) (s6 _ _ a4) (p4.same s6) srt (s6 _ _ l4) (s6 _ _ e4) (t5.same sT) (ne_of_none l3 no) nd2 ok2 pm g3 c3 (by omega) (by omega)
/-! ### _law_loose -/
abbrev sLoose : Stmt := topS 26
abbrev nLoose : List Str := ["_law_pals_here", "_law_stand", "_law_name", "_law_spot"]
theorem scLoose : FnScope nLoose ["_law_pals_here", "_law_stand", "_law_name"] (defScope sLoose) := ⟨rfl, rfl, rfl, by decide +kernel, rfl, by decide +kernel, by decide +kernel⟩
theorem ok_loose {f : Addr} {fd : FuncData} (CC : Cal P w K mg base 2 "_law_come" ["_law_pals_here", "_law_stand", "_law_name"] spCome) (F : Fun K "_law_loose" "_law_loose" sLoose f fd) : FnOk P w K mg base CX0 3 f fd ["_law_pals_here", "_law_stand", "_law_name"] spLoose := by
  refine fok F scLoose (fun vs H Q E h => ?_) (fun cdv A outer s H vs Q E hr h => ?_)
  · obtain ⟨a, t, ps, stand, x, i, rfl, _⟩ := h
    rfl
  obtain ⟨a, t, ps, stand, x, i, rfl, ha, ho, irr, ht, gs, nd, hn, hi, q⟩ := h
  refine ⟨_, pss_cons (ps_set (i := 3) scLoose.nd rfl (.inl rfl) (pe_bmT PySem.F.slot_tuple_index PySem.F.type_tuple_index mt_tup_index (pv 1) (pa_cons (pv 2) pa_nil)))
    (pss_one (ps_ret (pe_cmpR (op_eqT hr.units) (pe_cal CC hr (pa_cons (pv 0) (pa_cons (pe_op op_catM (pe_slice sl_tupM (pv 1) po_none (po_some (pv 3))) (pe_slice sl_tupM (pv 1) (po_some (pe_op op_add (pv 3) pe_int)) po_none)) (pa_cons (pv 2) pa_nil)))) (pv 1) (nomark _)))), ?_⟩
  have hlt : i < stand.length := (List.getElem?_eq_some_iff.mp hi).1
  refine ⟨.ref t, rfl, ⟨t, _, rfl, ht⟩, _, rfl, t, stand, x, i, rfl, rfl, ht.sq, hi, nd_first nd hi, ?_⟩
  refine ⟨_, rfl, .ref t, rfl, _, rfl, _, rfl, t, _, rfl, ht, fun t1 H1 s1 e1 => ?_⟩
  rw [cutV_map, cutL_to] at e1
  refine ⟨.ref t, rfl, _, rfl, _, _, rfl, rfl, _, rfl, t, _, rfl, ht.same s1, fun t2 H2 s2 e2 => ?_⟩
  rw [cutV_map, show ((i : Int) + 1) = ((i + 1 : Nat) : Int) from rfl, cutL_from] at e2
  refine ⟨t1, t2, _, _, rfl, rfl, e1.same s2, e2, ?_, fun t3 H3 s3 e3 => ?_⟩
  · rw [List.length_map, List.length_map, List.length_take, List.length_drop]
    exact small_le (by omega)
  rw [← List.map_append] at e3
  have gl : Goods (stand.take i ++ stand.drop (i + 1)) := fun y hy => (List.mem_append.mp hy).elim (fun z => gs y (List.mem_of_mem_take z)) (fun z => gs y (List.mem_of_mem_drop z))
  have s13 := (s1.trans s2).trans s3
  refine ⟨_, rfl, a, t3, ps, _, x, rfl, ha.same s13, ho, e3, gl, gs.at_ hi, ?_, fun t4 H4 s4 e4 => ?_⟩
  · rw [List.length_append, List.length_take, List.length_drop]
    omega
  have gc : Goods (comeTo ps (stand.take i ++ stand.drop (i + 1)) x) := fun y hy => by
    rcases List.mem_cons.mp ((come_perm ps _ x).mem_iff.mp hy) with z | z
    · rw [z]
      exact gs.at_ hi
    · exact gl y z
  refine ⟨_, rfl, t4, t, _, _, rfl, rfl, e4, ht.same (s13.trans s4), gc, gs, ?_⟩
  rw [loose_iff nd hi irr]
  exact q H4 (s13.trans s4)
/-! ### _law_other -/
abbrev sOther : Stmt := topS 27
abbrev nOther : List Str := ["_law_box_here", "_law_pals_here", "_law_stand", "_law_found", "_law_some", "_law_name"]
abbrev pOther : List Str := ["_law_box_here", "_law_pals_here", "_law_stand"]
theorem scOther : FnScope nOther pOther (defScope sOther) := ⟨rfl, rfl, rfl, by decide +kernel, rfl, by decide +kernel, by decide +kernel⟩
theorem ok_other {f : Addr} {fd : FuncData} (B : Blt mg) (CLl : Cal P w K mg base 3 "_law_loose" ["_law_pals_here", "_law_stand", "_law_name"] spLoose) (CT : Cal P w K mg base 1 "_law_take" ["_law_box_here", "_law_many"] spTake) (F : Fun K "_law_other" "_law_other" sOther f fd) : FnOk P w K mg base CX0 4 f fd pOther spOther := by
  refine fok F scOther (fun vs H Q E h => ?_) (fun cdv A outer s H vs Q E hr h => ?_)
  · obtain ⟨b, a, t, ps, row, rfl, _⟩ := h
    rfl
  have hu := hu_of hr
  refine ⟨_, pss_cons (ps_set (i := 3) scOther.nd rfl (.inl rfl) (pe_lst pa_nil))
    (pss_cons (ps_while PassesOwn.never (pt_cmpR (op_neT hr.units) (pv 2) (pe_tupF pa_nil) (nomark _))
      (pss_cons (ps_setLc (i := 4) (own := [("_law_name", 5)]) (g := gName 5) (tt := tB (tCall spLoose [] E0 (tCons (tVar 1) (tCons (tVar 2) (tCons (tVar 5) tNil))))) (te := tVar 5) rfl scOther.nd rfl rfl (sw_true rfl rfl rfl (by decide +kernel)) (pi_tup (pv 2)) (blkOk_by (N := nOther) (sc := defScope sOther) (by decide +kernel)) (fun _ _ _ _ _ => pg_name (i := 5) scOther.nd rfl (Or.inl rfl)) (fun _ _ _ _ _ => pts_one (pt_val (pe_cal CLl hr (pa_cons (pv 1) (pa_cons (pv 2) (pa_cons (pv 5) pa_nil)))))) (fun _ _ _ _ _ => pv 5))
        (pss_cons (ps_set (i := 5) scOther.nd rfl (.inl rfl) (pe_ix ix_list (pv 4) (pe_cal CT hr (pa_cons (pv 0) (pa_cons (pe_callB call_len_seq (by rfl) B.len PySem.boot_len (pa_cons (pv 4) pa_nil)) pa_nil))) (fun _ _ => rfl)))
        (pss_cons (ps_expr (pe_bm PySem.F.plainAttrs_list PySem.F.slot_list_insert PySem.F.type_list_insert mt_insert (pv 3) (pa_cons pe_int (pa_cons (pv 5) pa_nil))))
        (pss_one (ps_set (i := 2) scOther.nd rfl (.inr rfl) (pe_op op_catM (pe_slice sl_tupM (pv 2) po_none (po_some (pe_bmT PySem.F.slot_tuple_index PySem.F.type_tuple_index mt_tup_index (pv 2) (pa_cons (pv 5) pa_nil)))) (pe_slice sl_tupM (pv 2) (po_some (pe_op op_add (pe_bmT PySem.F.slot_tuple_index PySem.F.type_tuple_index mt_tup_index (pv 2) (pa_cons (pv 5) pa_nil)) pe_int)) po_none))))))))
    (pss_one (ps_ret (pv 3)))), ?_⟩
  obtain ⟨b, a, t, ps, row, rfl, hb, ha, hpo, irr, ht, gr, nd, hn, g0, q⟩ := h
  refine ⟨(by show 0 ≤ sizeLine; decide), fun fo hfo => ?_⟩
  have s1 := same_upd (o := .lst []) hfo
  have nfb : fo ≠ b := hb.ne_none hfo
  refine while_by (fun σ H' => ∃ (t' : Addr) (cur found : List Str) (y4 y5 : Option V), σ = [some (.ref b), some (.ref a), some (.ref t'), some (.ref fo), y4, y5] ∧ Oth b H H' ∧ IsBox H' b ∧ TupAt H' t' (cur.map V.str) ∧ H' fo = some (.lst (found.map V.str)) ∧ (found ++ cur).Perm row ∧ rowN ps cur found = row ∧ goneR ps [] cur = [])
    (fun σ H' => (lstLen H' σ[2]?).length) ?_ ?_ ?_
  · exact ⟨t, row, [], _, _, rfl, .of s1, hb.same s1, ht.same s1, upd_same, List.Perm.refl _, rfl, g0⟩
  · rintro σ H2 ⟨t', cur, found, y4, y5, rfl, o2, b2, t2, f2, pm2, rn2, g2⟩
    have nd2 : (found ++ cur).Nodup := pm2.nodup_iff.mpr nd
    have ndc : cur.Nodup := (List.nodup_append.mp nd2).2.1
    have lf : found.length + cur.length = row.length := by
      have := pm2.length_eq
      rw [List.length_append] at this
      exact this
    have gc : Goods cur := fun x hx => gr x (pm2.mem_iff.mp (List.mem_append_right _ hx))
    refine ⟨.ref t', rfl, (by show 0 ≤ sizeLine; decide), fun p3 H3 s3 n3 e3 => ?_⟩
    refine ⟨t', p3, cur, [], rfl, rfl, t2.same s3, e3, gc, (fun _ h => nomatch h), _, rfl, ?_⟩
    refine ite2 (fun c => ?_) (fun c => ?_)
    · have ne : cur ≠ [] := by
        have : (!decide (cur = [])) = true := c
        simpa using this
      have t3 := t2.same s3
      have ha3 := (ha.oth o2 hb).same s3
      -- who can have come last
      refine ⟨.ref t', rfl, t', rfl, ⟨_, t3.sq⟩, fun L hL => ?_⟩
      refine lc_take (walk_tup (xs := cur.map V.str)) (fun y => decide (y ∈ looseL ps cur)) (by omega) hL (fun H' s => (t3.same s).sq) ?_ ?_
      · rintro k y v H4 H4' kk k0 hy s4 ⟨rfl, ex⟩ k1 k2
        rw [ix_map hy] at ex
        cases ex
        refine ⟨rfl, _, rfl, _, rfl, _, rfl, a, t', ps, cur, y, k, rfl, ha3.same s4, hpo, irr y, t3.same s4, gc, ndc, by omega, hy, fun H5 s5 => ⟨_, rfl, ?_⟩⟩
        have el : looseB ps cur k y = decide (y ∈ looseL ps cur) := by
          cases e : looseB ps cur k y with
          | true => exact (decide_eq_true (List.mem_map.mpr ⟨(y, k), List.mem_filter.mpr ⟨List.mem_zipIdx_iff_getElem?.mpr hy, e⟩, rfl⟩)).symm
          | false =>
            refine (decide_eq_false fun z => ?_).symm
            obtain ⟨p, hp, ep⟩ := List.mem_map.mp z
            obtain ⟨hp1, hp2⟩ := List.mem_filter.mp hp
            have hp3 := List.mem_zipIdx_iff_getElem?.mp hp1
            rw [ep] at hp3
            have := nd_ix ndc hp3 hy
            rw [this, ep, e] at hp2
            cases hp2
        rw [el]
        exact ite2 (fun c => ⟨_, rfl, k1 c _ s5⟩) (fun c => k2 (Bool.eq_false_iff.mpr c) _ s5)
      intro H4 s4 e4
      have mls : ∀ y, y ∈ cur.filter (fun y => decide (y ∈ looseL ps cur)) ↔ LooseIn ps cur y := fun y => by
        rw [List.mem_filter, decide_eq_true_iff, ← looseL_iff irr ndc]
        exact ⟨fun h => h.2, fun h => ⟨looseL_sub h, h⟩⟩
      have pos : 0 < (cur.filter (fun y => decide (y ∈ looseL ps cur))).length := by
        refine Classical.byContradiction fun z => ?_
        have ez : cur.filter (fun y => decide (y ∈ looseL ps cur)) = [] := List.length_eq_zero_iff.mp (by omega)
        have e0 : someL ps [] cur = [] := List.eq_nil_iff_forall_not_mem.mpr fun x hx => by
          have := (mls x).mpr ((looseL_iff irr ndc).mp (someL_sub hx).1)
          rw [ez] at this
          cases this
        have := (gone_none e0).2
        rw [g2] at this
        exact ne this.symm
      have lsl : (cur.filter (fun y => decide (y ∈ looseL ps cur))).length ≤ 100 := Nat.le_trans (List.length_filter_le _ _) (by omega)
      generalize cur.filter (fun y => decide (y ∈ looseL ps cur)) = ls at e4 mls pos lsl
      have s24 := s3.trans s4
      have b4 := b2.same s24
      refine ⟨.ref L, rfl, .ref b, rfl, .ref L, rfl, L, _, rfl, .inl (.inl (.inl e4)), b, _, rfl, b4, ?_, ?_, fun v H5 o5 b5 v0 v1 => ?_⟩
      · rw [List.length_map]
        omega
      · rw [List.length_map]
        omega
      rw [List.length_map] at v1
      obtain ⟨j, rfl⟩ : ∃ j : Nat, v = ((j : Nat) : Int) := ⟨v.toNat, by omega⟩
      have jl : j < ls.length := by omega
      obtain ⟨x, hx⟩ : ∃ x, ls[j]? = some x := ⟨ls[j]'jl, List.getElem?_eq_getElem jl⟩
      have lx := (mls x).mp (List.mem_of_getElem? hx)
      have e5 := o5 _ _ (b4.ne_strs e4) e4
      refine ⟨L, _, _, _, rfl, rfl, .inl (.inl e5), atI_nat (ix_map hx), ?_⟩
      -- found
      have f5 := o5 _ _ nfb (s24 _ _ f2)
      refine ⟨.ref fo, rfl, .inl ⟨rfl, _, .inl (.inl f5)⟩, _, rfl, fo, _, 0, _, rfl, rfl, f5, ?_, by decide, by decide, ?_⟩
      · rw [List.length_map]
        exact small1000 (by omega)
      -- stand
      obtain ⟨k, hk⟩ := List.mem_iff_getElem?.mp lx.mem
      have kl : k < cur.length := (List.getElem?_eq_some_iff.mp hk).1
      have t5 : TupAt H5 t' (cur.map V.str) := (t2.same s24).oth o5 b4
      have ef : (found.map V.str).take (0 : Int).toNat ++ [V.str x] ++ (found.map V.str).drop (0 : Int).toNat = (x :: found).map V.str := rfl
      rw [ef]
      have t6 : TupAt (upd H5 fo (.lst ((x :: found).map V.str))) t' (cur.map V.str) := t5.upd_ f5
      have f6 : upd H5 fo (.lst ((x :: found).map V.str)) fo = some (.lst ((x :: found).map V.str)) := upd_same
      refine ⟨.ref t', rfl, .ref t', rfl, ⟨t', _, rfl, t6⟩, _, rfl, t', cur, x, k, rfl, rfl, t6.sq, hk, nd_first ndc hk, _, rfl, t', _, rfl, t6, fun t7 H7 s7 e7 => ?_⟩
      rw [cutV_map, cutL_to] at e7
      have t7' := t6.same s7
      refine ⟨.ref t', rfl, .ref t', rfl, ⟨t', _, rfl, t7'⟩, _, rfl, t', cur, x, k, rfl, rfl, t7'.sq, hk, nd_first ndc hk, _, _, rfl, rfl, _, rfl, t', _, rfl, t7', fun t8 H8 s8 e8 => ?_⟩
      rw [cutV_map, show ((k : Int) + 1) = ((k + 1 : Nat) : Int) from rfl, cutL_from] at e8
      refine ⟨t7, t8, _, _, rfl, rfl, e7.same s8, e8, ?_, fun t9 H9 s9 e9 => ?_⟩
      · rw [List.length_map, List.length_map, List.length_take, List.length_drop]
        exact small_le (by omega)
      rw [← List.map_append] at e9
      have er : cur.take k ++ cur.drop (k + 1) = rem cur x := by
        rw [← erase_rem ndc hk, List.eraseIdx_eq_take_drop_succ]
      rw [er] at e9
      have s69 := (s7.trans s8).trans s9
      have rl := rem_len ndc lx.mem
      have ndr := rem_nodup (x := x) ndc
      have nxr : x ∉ rem cur x := fun z => (mem_rem.mp z).2 rfl
      have cm := loose_come irr ndc lx
      have ob : IsBox (upd H5 fo (.lst ((x :: found).map V.str))) b := by
        unfold IsBox at b5 ⊢
        rw [upd_ne (Ne.symm nfb)]
        exact b5
      refine ⟨⟨t9, rem cur x, x :: found, _, _, rfl, fun b' o' nb e => ?_, ob.same s69, e9, s69 _ _ f6, ?_, ?_, ?_⟩, ?_⟩
      · refine s69 _ _ ?_
        rw [upd_ne (ne_of_none e hfo)]
        exact o5 _ _ nb (s24 _ _ (o2 _ _ nb e))
      · refine List.Perm.trans ?_ pm2
        have p1 : (x :: rem cur x).Perm cur := by
          have := come_perm ps (rem cur x) x
          rw [cm] at this
          exact this.symm
        show (x :: (found ++ rem cur x)).Perm (found ++ cur)
        exact (List.perm_middle (l₁ := found) (a := x) (l₂ := rem cur x)).symm.trans (p1.append_left found)
      · show rowN ps (comeTo ps (rem cur x) x) found = row
        rw [cm]
        exact rn2
      · have := gone_come irr ndr nxr
        rw [cm, g2] at this
        exact this.symm
      · show (lstLen H9 (some (some (.ref t9)))).length < (lstLen H2 (some (some (.ref t')))).length
        rw [lstLen_tup e9, lstLen_tup t2, List.length_map, List.length_map]
        omega
    · have ec : cur = [] := by
        have h : ¬ (!decide (cur = [])) = true := c
        simpa using h
      subst ec
      rw [List.append_nil] at pm2
      refine ⟨.ref fo, rfl, q fo found H3 (o2.trans (.of s3)) (b2.same s3) hfo (s3 _ _ f2) ⟨pm2.nodup_iff.mpr nd, pm2, rn2⟩⟩
  · rintro σ H5 Q1 Q2 hQ ⟨v1, e1, le, z⟩
    refine ⟨v1, e1, le, fun p6 H6 s6 n6 t6 => ?_⟩
    obtain ⟨a1, b1, xs, ys, f1, f2, f3, f4, f5, f6, k, ek, zz⟩ := z p6 H6 s6 n6 t6
    exact ⟨a1, b1, xs, ys, f1, f2, f3, f4, f5, f6, k, ek, hQ _ _ zz⟩
/-! ### both_ways -/
abbrev sBoth : Stmt := topS 1
abbrev nBoth : List Str := ["friends", "known", "one", "other"]
theorem scBoth : FnScope nBoth ["friends"] (defScope sBoth) := ⟨rfl, rfl, rfl, by decide +kernel, rfl, by decide +kernel, by decide +kernel⟩
theorem ok_both {f : Addr} {fd : FuncData} (F : Fun K "both_ways" "both_ways" sBoth f fd) : FnOk P w K mg base CX0 1 f fd ["friends"] spBoth := by
  refine fok F scBoth (fun vs H Q E h => ?_) (fun cdv A outer s H vs Q E hr h => ?_)
  · obtain ⟨a, ps, rfl, _⟩ := h
    rfl
  obtain ⟨a, ps, rfl, ⟨bs, ha, hp, rfl⟩, hn, q⟩ := h
  rw [List.length_map] at hn
  have hu := hu_of hr
  refine ⟨_, pss_cons (ps_set (i := 1) scBoth.nd rfl (.inl rfl) pe_dnewT)
    (pss_cons (ps_for PassesOwn.never rfl (pi_or2 (pi_list (pv 0)) (pi_tup (pv 0))) (pg_tup rfl (pgs_cons (pg_name (i := 2) scBoth.nd rfl (.inl rfl)) (pgs_cons (pg_name (i := 3) scBoth.nd rfl (.inl rfl)) pgs_nil)))
      (pss_cons (ps_dput hu (pv 1) (pe_tup (pa_cons (pv 2) (pa_cons (pv 3) pa_nil))) pe_bl rfl)
      (pss_one (ps_dput hu (pv 1) (pe_tup (pa_cons (pv 3) (pa_cons (pv 2) pa_nil))) pe_bl rfl))))
    (pss_one (ps_ret (pv 1)))), ?_⟩
  refine fun d hd => ?_
  have s0 : Same H (upd H d (.dT [])) := same_upd hd
  have Pv : ∃ Pv : Nat → L2.St → Hp → Prop, Pv = fun i σ H' => ∃ (y2 y3 : Option V) (kvs : List (List Key × V)), σ = [some (.ref a), some (.ref d), y2, y3] ∧ Same H H' ∧ H' d = some (.dT kvs) ∧ kvs.length ≤ 2 * i ∧ ∀ x y, (valV kvs (k2 x y)).isSome = frd ((bs.map (·.2)).take i) x y := ⟨_, rfl⟩
  obtain ⟨Pv, hPv⟩ := Pv
  have start : Pv 0 [some (.ref a), some (.ref d), none, none] (upd H d (.dT [])) := by
    rw [hPv]
    exact ⟨_, _, [], rfl, s0, upd_same, Nat.zero_le _, fun x y => rfl⟩
  have turn : ∀ (i : Nat) (c : B3) (σ : L2.St) (H1 : Hp), bs[i]? = some c → Pv i σ H1 → ∀ (D : Ends), D.nx = Pv (i + 1) →
      (tSeq (sDPut (tVar 1) (tTup (tCons (tVar 2) (tCons (tVar 3) tNil))) (tC (.bl true))) (sDPut (tVar 1) (tTup (tCons (tVar 3) (tCons (tVar 2) tNil))) (tC (.bl true)))) D ((σ.set 2 (some (.str c.2.1))).set 3 (some (.str c.2.2))) H1 := by
    intro i c σ H1 hc pv D hD
    rw [hPv] at pv
    obtain ⟨y2, y3, kvs, rfl, s1, e1, l1, v1⟩ := pv
    have hi : i < bs.length := (List.getElem?_eq_some_iff.mp hc).1
    refine ⟨_, rfl, _, rfl, _, rfl, (by show 2 ≤ sizeLine; decide), fun p hp' => ?_⟩
    have n1 : d ≠ p := ne_of_none e1 hp'
    have e2 : upd H1 p (.tup [.str c.2.1, .str c.2.2]) d = some (.dT kvs) := (upd_ne n1).trans e1
    refine ⟨d, _, rfl, DPut.t (k := k2 c.2.1 c.2.2) e2 upd_same (small9 (by omega)), ?_⟩
    have pl := putK_len (kvs := kvs) (k := k2 c.2.1 c.2.2) (v := V.bl true)
    refine ⟨_, rfl, _, rfl, _, rfl, (by show 2 ≤ sizeLine; decide), fun p2 hp2 => ?_⟩
    have n2 : d ≠ p2 := fun z => by rw [← z, upd_same] at hp2; cases hp2
    refine ⟨d, _, rfl, DPut.t (k := k2 c.2.2 c.2.1) ((upd_ne n2).trans upd_same) upd_same (small9 (by omega)), ?_⟩
    have pl2 := putK_len (kvs := putK kvs (k2 c.2.1 c.2.2) (V.bl true)) (k := k2 c.2.2 c.2.1) (v := V.bl true)
    rw [hD, hPv]
    refine ⟨_, _, _, rfl, fun b o e => ?_, upd_same, by omega, fun x y => ?_⟩
    · have nb : b ≠ d := ne_of_none e hd
      rw [upd_ne nb]
      refine same_upd hp2 _ _ ?_
      rw [upd_ne nb]
      exact same_upd hp' _ _ (s1 _ _ e)
    · rw [both_put v1, List.take_add_one, List.getElem?_map, hc]
      rfl
  have fin : ∀ (σ : L2.St) (H1 : Hp), Pv (refs bs).length σ H1 → ∃ v, σ[1]? = some (some v) ∧ Q v H1 := by
    intro σ H1 pv
    rw [hPv] at pv
    obtain ⟨y2, y3, kvs, rfl, s1, e1, l1, v1⟩ := pv
    refine ⟨.ref d, rfl, q d H1 s1 hd ⟨kvs, e1, fun x y => ?_⟩⟩
    rw [v1, List.take_of_length_le (by show (bs.map _).length ≤ (bs.map _).length; rw [List.length_map, List.length_map]; exact Nat.le_refl _)]
  have item : ∀ (i : Nat) (v : V) (σ : L2.St) (H1 : Hp), (refs bs)[i]? = some v → Pv i σ H1 → ∃ c : B3, bs[i]? = some c ∧ v = .ref c.1 ∧ H1 c.1 = some (.tup [.str c.2.1, .str c.2.2]) := by
    intro i v σ H1 e pv
    rw [hPv] at pv
    obtain ⟨y2, y3, kvs, rfl, s1, e1, l1, v1⟩ := pv
    obtain ⟨c, hc, rfl⟩ := at_map e
    exact ⟨c, hc, rfl, s1 _ _ (hp c (List.mem_of_getElem? hc))⟩
  have stay : ∀ (i : Nat) (σ : L2.St) (H1 : Hp), Pv i σ H1 → Same H H1 := by
    intro i σ H1 pv
    rw [hPv] at pv
    obtain ⟨y2, y3, kvs, rfl, s1, _⟩ := pv
    exact s1
  rcases ha with e | e
  · refine .inr ⟨.ref a, rfl, a, rfl, ⟨_, .inl (.inl (s0 _ _ e))⟩, ?_⟩
    refine for_it (walk_tup (xs := refs bs)) Pv start (fun i σ H1 _ pv => .inl (.inl (stay i σ H1 pv _ _ e))) ?_ fin
    rintro i v σ H2 H1 hi pv ⟨rfl, e2⟩
    obtain ⟨c, hc, rfl, h3⟩ := item i v σ _ e2 pv
    exact ⟨c.1, _, rfl, .inl (.inl h3), rfl, _, _, rfl, _, _, rfl, rfl, turn i c σ _ hc pv _ rfl⟩
  · refine .inl ⟨.ref a, rfl, a, rfl, ⟨_, .inl (.inl (s0 _ _ e))⟩, ?_⟩
    refine for_it (walk_list (xs := refs bs)) Pv start (fun i σ H1 _ pv => .inl (.inl (stay i σ H1 pv _ _ e))) ?_ fin
    rintro i v σ H2 H1 hi pv ⟨rfl, e2⟩
    obtain ⟨c, hc, rfl, h3⟩ := item i v σ _ e2 pv
    exact ⟨c.1, _, rfl, .inl (.inl h3), rfl, _, _, rfl, _, _, rfl, rfl, turn i c σ _ hc pv _ rfl⟩
/-! ### last_friend_place -/
abbrev sLfp : Stmt := topS 2
abbrev nLfp : List Str := ["known", "row", "who", "places", "place", "other"]
theorem scLfp : FnScope nLfp ["known", "row", "who"] (defScope sLfp) := ⟨rfl, rfl, rfl, by decide +kernel, rfl, by decide +kernel, by decide +kernel⟩
theorem ok_lfp {f : Addr} {fd : FuncData} (B : Blt mg) (F : Fun K "last_friend_place" "last_friend_place" sLfp f fd) : FnOk P w K mg base CX0 1 f fd ["known", "row", "who"] spLfp := by
  refine fok F scLfp (fun vs H Q E h => ?_) (fun cdv A outer s H vs Q E hr h => ?_)
  · obtain ⟨d, r, ps, row, who, rfl, _⟩ := h
    rfl
  obtain ⟨d, r, ps, row, who, rfl, hd, hrow, hn, q⟩ := h
  have hu := hu_of hr
  refine ⟨_, pss_cons (ps_setLc (i := 3) (own := [("place", 4), ("other", 5)]) (g := gTup K 2 (gCons (gName 4) (gCons (gName 5) gNil))) (tt := tB (tDIn (tTup (tCons (tVar 2) (tCons (tVar 5) tNil))) (tVar 0))) rfl scLfp.nd rfl rfl (sw_true rfl rfl rfl (by decide +kernel)) (pi_or2 (pi_enum (by rfl) B.enumerate (pa_cons (pv 1) pa_nil)) (pi_enumT (by rfl) B.enumerate (pa_cons (pv 1) pa_nil))) (blkOk_by (N := nLfp) (sc := defScope sLfp) (by decide +kernel))
        (fun _ _ _ _ _ => pg_tup rfl (pgs_cons (pg_name (i := 4) scLfp.nd rfl (Or.inl rfl)) (pgs_cons (pg_name (i := 5) scLfp.nd rfl (Or.inl rfl)) pgs_nil)))
        (fun _ _ _ _ _ => pts_one (pt_cmp (pc_din hu (pe_tup (pa_cons (pv 2) (pa_cons (pv 5) pa_nil))) (pv 0)))) (fun _ _ _ _ _ => pv 4))
    (pss_one (ps_ret (pe_ifExp (pt_truth (pv 3) (by intro _; rfl)) (pe_ix ix_list (pv 3) (pe_un un_neg pe_int) (fun _ _ => rfl)) pe_non))), ?_⟩
  have key : ∀ (J : It) (G : Hp → Prop), Walk J (row.map V.str).length G (YPair (fun i => some (.int (i : Nat))) (fun i => (row.map V.str)[i]?)) → (∀ H', Same H H' → G H') → ∀ D, H D = none → ∀ (Qd : Hp → Prop), (∀ H' (ls : List Int), Same H H' → H' D = some (.lst (ls.map V.int)) → ls.getLast? = (lastP (frd ps who) row).map (fun k => (k : Int)) → Qd H') →
      ∃ W : Nat → Nat → Hp → Prop, (∃ m, W 0 m (upd H D (.lst []))) ∧ ∀ i m H, W i m H →
      (J.stop i H ∧ Qd H) ∨ (J.go i H ∧ ∃ Nx : Hp → Prop, (∀ H', Nx H' → ∃ m', m' < m ∧ W (i + 1) m' H') ∧ ∀ x H', J.yld i H x H' → (gTup K 2 (gCons (gName 4) (gCons (gName 5) gNil))) x (wipe [some (.ref d), some (.ref r), some (.str who), none, none, none] [4, 5]) H' fun σ2 H2 => wipe σ2 [4, 5] = wipe [some (.ref d), some (.ref r), some (.str who), none, none, none] [4, 5] ∧ (tB (tDIn (tTup (tCons (tVar 2) (tCons (tVar 5) tNil))) (tVar 0))) σ2 H2 fun b H3 =>
        if b = true then (tVar 4) σ2 H3 fun y H4 => ∃ acc, H4 D = some (.lst acc) ∧ acc.length < sizeLine ∧ Nx (upd H4 D (.lst (acc ++ [y]))) else Nx H3) := by
    intro J G wk hG D hD Qd fin
    refine lc_it wk (fun i H' => ∃ ls : List Int, Same H H' ∧ H' D = some (.lst (ls.map V.int)) ∧ ls.length ≤ i ∧ ls.getLast? = (lastP (frd ps who) (row.take i)).map (fun k => (k : Int))) ?_ ?_ ?_ ?_
    · exact ⟨[], same_upd hD, upd_same, Nat.zero_le _, rfl⟩
    · rintro i H' _ ⟨ls, s1, _⟩
      exact hG H' s1
    · rintro i v H1 H2 hi ⟨ls, s1, d1, m1, g1⟩ ⟨T, x1, x2, rfl, nT, rfl, e1, e2⟩
      cases e1
      obtain ⟨o, ho, rfl⟩ := at_map e2
      rw [List.length_map] at hi
      have s2 := s1.trans (same_upd (o := .tup [.int (i : Nat), .str o]) nT)
      refine ⟨T, _, rfl, .inl (.inl upd_same), rfl, _, _, rfl, _, _, rfl, rfl, rfl, ?_⟩
      refine ⟨_, rfl, _, rfl, (by show 2 ≤ sizeLine; decide), fun p hp => ?_⟩
      have s3 := s2.trans (same_upd (o := .tup [.str who, .str o]) hp)
      obtain ⟨kvs, k1, k3⟩ := hd.same s3
      have nDT : D ≠ T := ne_of_none d1 nT
      have d2 : upd H1 T (.tup [.int (i : Nat), .str o]) D = some (.lst (ls.map V.int)) := (upd_ne nDT).trans d1
      have nDp : D ≠ p := ne_of_none d2 hp
      have d3 := (upd_ne (o := .tup [.str who, .str o]) nDp).trans d2
      refine ⟨.ref d, rfl, d, _, rfl, DGet.t (k := k2 who o) k1 upd_same, _, rfl, ?_⟩
      rw [k3]
      have lt := lastP_take (frd ps who) ho
      refine ite2 (fun c => ?_) (fun c => ?_)
      · rw [if_pos c] at lt
        refine ⟨_, rfl, _, d3, ?_, ls ++ [(i : Int)], fun b o' e => ?_, ?_, ?_, ?_⟩
        · rw [List.length_map]
          exact small1000 (by omega)
        · rw [upd_ne (ne_of_none e hD)]
          exact s3 _ _ e
        · rw [upd_same, List.map_append]
          rfl
        · rw [List.length_append]
          show ls.length + 1 ≤ i + 1
          omega
        · rw [lt, List.getLast?_append]
          rfl
      · rw [if_neg c] at lt
        exact ⟨ls, s3, d3, by omega, by rw [lt]; exact g1⟩
    · rintro H1 ⟨ls, s1, d1, m1, g1⟩
      rw [List.length_map, List.take_of_length_le (Nat.le_refl _)] at g1
      exact fin H1 ls s1 d1 g1
  have last : ∀ (D : Addr) (H' : Hp) (ls : List Int), Same H H' → H' D = some (.lst (ls.map V.int)) → ls.getLast? = (lastP (frd ps who) row).map (fun k => (k : Int)) →
      (tRet (tIf (fun σ H Q => tVar 3 σ H fun x H1 => ∃ k, TruV K x H1 k ∧ Q k H1) (tOp (rIxL K) (tVar 3) (tUn (rU fun i => .int (-i)) (tC (.int 1)))) (tC .non))) { nx := fun _ H' => Q .non H', rt := Q } [some (.ref d), some (.ref r), some (.str who), some (.ref D), none, none] H' := by
    intro D H' ls s1 d1 g1
    refine ⟨.ref D, rfl, _, .inl ⟨_, .inl (.inl d1), rfl⟩, ite2 (fun c => ?_) (fun c => ?_)⟩
    · obtain ⟨z, hz⟩ : ∃ z, ls.getLast? = some z := by
        cases h : ls.getLast? with
        | some z => exact ⟨z, rfl⟩
        | none =>
          rw [List.getLast?_eq_none_iff.mp h] at c
          cases c
      obtain ⟨ys, hz'⟩ := List.getLast?_eq_some_iff.mp hz
      have ev : lfpV (lastP (frd ps who) row) = .int z := by
        rw [hz] at g1
        cases e : lastP (frd ps who) row with
        | none => rw [e] at g1; cases g1
        | some k =>
          rw [e] at g1
          have : z = (k : Int) := Option.some.inj g1
          rw [this]
          rfl
      refine ⟨.ref D, rfl, 1, rfl, D, _, -1, .int z, rfl, rfl, .inl (.inl d1), ?_, ?_⟩
      · rw [hz', List.map_append]
        exact atI_last _ _
      · rw [← ev]
        exact q H' s1
    · have e : lfpV (lastP (frd ps who) row) = .non := by
        cases h : lastP (frd ps who) row with
        | none => rfl
        | some k =>
          rw [h] at g1
          cases ls with
          | nil => cases g1
          | cons x r => exact absurd rfl c
      show Q .non H'
      rw [← e]
      exact q H' s1
  rcases hrow with e | e
  · refine .inr ⟨.ref r, rfl, r, _, rfl, e.sq, fun D hD => ?_⟩
    exact key _ _ walk_enumT (fun H' s => (e.same s).sq) D hD _ (fun H' ls s1 d1 g1 => last D H' ls s1 d1 g1)
  · refine .inl ⟨.ref r, rfl, r, _, rfl, .inl (.inl e), fun D hD => ?_⟩
    exact key _ _ walk_enum (fun H' s => .inl (.inl (s _ _ e))) D hD _ (fun H' ls s1 d1 g1 => last D H' ls s1 d1 g1)
/-! ### loose_at, is_loose, loose_in -/
abbrev sLooseAt : Stmt := topS 7
abbrev nLooseAt : List Str := ["known", "row", "place", "last"]
theorem scLooseAt : FnScope nLooseAt ["known", "row", "place"] (defScope sLooseAt) := ⟨rfl, rfl, rfl, by decide +kernel, rfl, by decide +kernel, by decide +kernel⟩
theorem ok_looseAt {f : Addr} {fd : FuncData} (B : Blt mg) (CL : Cal P w K mg base 1 "last_friend_place" ["known", "row", "who"] spLfp) (F : Fun K "loose_at" "loose_at" sLooseAt f fd) : FnOk P w K mg base CX0 2 f fd ["known", "row", "place"] spLooseAt := by
  refine fok F scLooseAt (fun vs H Q E h => ?_) (fun cdv A outer s H vs Q E hr h => ?_)
  · obtain ⟨d, r, ps, row, x, i, rfl, _⟩ := h
    rfl
  obtain ⟨d, r, ps, row, x, i, rfl, hd, hrow, hn, hi, q⟩ := h
  refine ⟨_, pss_cons (ps_set (i := 3) scLooseAt.nd rfl (.inl rfl) (pe_cal CL hr (pa_cons (pv 0) (pa_cons (pv 1) (pa_cons (pe_ix ix_seq (pv 1) (pv 2) (fun _ _ => rfl)) pa_nil)))))
    (pss_cons (ps_if (pt_cmp (pc_isN (pv 3))) (pss_one (ps_ret (pe_cmpR op_eq (pv 2) (pe_op op_sub (pe_callB call_len_seq (by rfl) B.len PySem.boot_len (pa_cons (pv 1) pa_nil)) pe_int) (nomark _)))) pss_nil)
    (pss_one (ps_ret (pe_cmpR op_eq (pv 3) (pe_op op_sub (pv 2) pe_int) (nomark _))))), ?_⟩
  have hlt : i < row.length := (List.getElem?_eq_some_iff.mp hi).1
  have fin : ∀ H2, Same H H2 → (tSeq (tIfS (tB (tIsN (tVar 3))) (tRet (tOp rEq (tVar 2) (tOp (rI0 fun i j => .int (i - j)) (tCB (fun xs H Q => ∃ p ys, xs = [.ref p] ∧ (SqL K H p ys ∨ SqT K H p ys) ∧ Q (.int ys.length) H) (tCons (tVar 1) tNil)) (tC (.int 1))))) tNext) (tRet (tOp rEq (tVar 3) (tOp (rI0 fun i j => .int (i - j)) (tVar 2) (tC (.int 1)))))) { nx := fun _ H' => Q .non H', rt := Q } [some (.ref d), some (.ref r), some (.int (i : Nat)), some (lfpV (lastP (frd ps x) row))] H2 := by
    intro H2 s2
    have q2 := q H2 s2
    unfold looseB at q2
    refine ⟨_, rfl, _, rfl, ?_⟩
    cases e : lastP (frd ps x) row with
    | none =>
      rw [e] at q2
      have sq : SqL K H2 r (row.map V.str) ∨ SqT K H2 r (row.map V.str) := (hrow.same s2).elim (fun e => .inr e.sq) (fun e => .inl (.inl (.inl e)))
      refine ⟨_, rfl, .ref r, rfl, r, _, rfl, sq, _, _, rfl, rfl, rfl, ?_⟩
      have ed : decide (V.int (i : Int) = V.int ((((row.map V.str).length : Nat) : Int) - 1)) = decide (i + 1 = row.length) := by
        rw [List.length_map]
        refine decide_eq_decide.mpr ⟨fun z => ?_, fun z => congrArg V.int (by omega)⟩
        have := V.int.inj z
        omega
      rw [ed]
      exact q2
    | some k =>
      rw [e] at q2
      refine ⟨_, rfl, _, rfl, _, _, rfl, rfl, rfl, ?_⟩
      have ed : decide (V.int (k : Int) = V.int ((i : Int) - 1)) = decide (k + 1 = i) := by
        refine decide_eq_decide.mpr ⟨fun z => ?_, fun z => congrArg V.int (by omega)⟩
        have := V.int.inj z
        omega
      show Q (.bl (decide (V.int (k : Int) = V.int ((i : Int) - 1)))) H2
      rw [ed]
      exact q2
  refine ⟨_, rfl, .ref r, rfl, .ref r, rfl, _, rfl, ?_⟩
  rcases hrow with e | e
  · refine .inr (.inl ⟨r, _, i, .str x, rfl, rfl, e.sq, atI_nat (ix_map hi), d, r, ps, row, x, rfl, hd, .inl e, hn, fun H2 s2 => fin H2 s2⟩)
  · refine .inl ⟨r, _, i, .str x, rfl, rfl, .inl (.inl e), atI_nat (ix_map hi), d, r, ps, row, x, rfl, hd, .inr e, hn, fun H2 s2 => fin H2 s2⟩
/-! ### hindmost_loose, gone_and_left, goers, left_over -/
abbrev sHind : Stmt := topS 8
abbrev nHind : List Str := ["known", "row", "but", "place"]
theorem scHind : FnScope nHind ["known", "row", "but"] (defScope sHind) := ⟨rfl, rfl, rfl, by decide +kernel, rfl, by decide +kernel, by decide +kernel⟩
theorem ok_hind {f : Addr} {fd : FuncData} (B : Blt mg) (CL : Cal P w K mg base 2 "loose_at" ["known", "row", "place"] spLooseAt) (F : Fun K "hindmost_loose" "hindmost_loose" sHind f fd) : FnOk P w K mg base CX0 3 f fd ["known", "row", "but"] (spHind K) := by
  refine fok F scHind (fun vs H Q E h => ?_) (fun cdv A outer s H vs Q E hr h => ?_)
  · obtain ⟨d, r, p, ps, row, stay, rfl, _⟩ := h
    rfl
  obtain ⟨d, r, p, ps, row, stay, rfl, hd, e, hn, hb, q⟩ := h
  refine ⟨_, pss_cons (ps_for PassesOwn.never rfl (pi_range3 (by rfl) B.range (pa_cons (pe_op op_sub (pe_callB call_len_seq (by rfl) B.len PySem.boot_len (pa_cons (pv 1) pa_nil)) pe_int) (pa_cons (pe_un un_neg pe_int) (pa_cons (pe_un un_neg pe_int) pa_nil)))) (pg_name (i := 3) scHind.nd rfl (.inl rfl))
      (pss_one (ps_if (PW.pt (pw_and (pt_cmpR op_notIn_seq (pe_ix ix_list (pv 1) (pv 3) (fun _ _ => rfl)) (pv 2) (by rfl)) (pw_and1 (pt_val (pe_cal CL hr (pa_cons (pv 0) (pa_cons (pv 1) (pa_cons (pv 3) pa_nil)))))))) (pss_one (ps_ret (pv 3))) pss_nil)))
    (pss_one (ps_ret pe_non)), ?_⟩
  refine ⟨.ref r, rfl, r, _, rfl, .inl (.inl (.inl e)), _, _, rfl, rfl, 1, rfl, 1, rfl, _, _, _, _, rfl, RgC.neg ?_ ?_ (by decide) (by decide), ?_⟩
  · rw [List.length_map]
    omega
  · rw [List.length_map]
    omega
  rw [List.length_map]
  refine for_it (walk_rangeC (lo := (row.length : Int) - 1) (c := -1) (n := ((row.length : Int) - 1 - -1).toNat)) (fun k σ H' => ∃ (y3 : Option V), σ = [some (.ref d), some (.ref r), some (.ref p), y3] ∧ Same H H' ∧ someTo ps stay row (row.length - k) = someL ps stay row) ?_ (fun _ _ _ _ _ => trivial) ?_ ?_
  · exact ⟨_, rfl, Same.refl H, by rw [Nat.sub_zero, someTo_all]⟩
  · rintro k x σ H2 H1 hk ⟨y3, rfl, s1, g1⟩ ⟨rfl, rfl⟩
    have hk' : k < row.length := by omega
    obtain ⟨x, hx⟩ : ∃ x, row[row.length - 1 - k]? = some x := ⟨row[row.length - 1 - k]'(by omega), List.getElem?_eq_getElem _⟩
    have ei : ((row.length : Int) - 1 + (k : Int) * -1) = ((row.length - 1 - k : Nat) : Int) := by omega
    rw [show ((fun i : Nat => V.int ((row.length : Int) - 1 + (i : Int) * -1)) k) = V.int ((row.length - 1 - k : Nat) : Int) from congrArg V.int ei]
    have st := someTo_step (ps := ps) (stay := stay) hx
    rw [show row.length - 1 - k + 1 = row.length - k by omega, g1] at st
    have e1 := s1 _ _ e
    refine ⟨.ref r, rfl, _, rfl, r, _, _, .str x, rfl, rfl, .inl (.inl e1), atI_nat (ix_map hx), .ref p, rfl, p, _, rfl, hb _ s1, rfl, flat_strs _, _, rfl, ?_⟩
    rw [inV_strs]
    refine ite2 (fun c => ?_) (fun c => ?_)
    · have c' : (!decide (x ∈ stay)) = true := c
      refine ⟨_, rfl, _, rfl, _, rfl, d, r, ps, row, x, row.length - 1 - k, rfl, hd.same s1, .inr e1, hn, hx, fun H2 s2 => ⟨_, rfl, ?_⟩⟩
      refine ite2 (fun c2 => ?_) (fun c2 => ?_)
      · refine ⟨_, rfl, q _ H2 (s1.trans s2) ?_⟩
        rw [if_pos (by rw [c', c2]; rfl)] at st
        rw [st, List.getLast?_append]
        exact ⟨_, rfl, hx⟩
      · rw [if_neg (by rw [c', Bool.true_and]; exact c2), List.append_nil] at st
        exact ⟨_, rfl, s1.trans s2, by rw [show row.length - (k + 1) = row.length - 1 - k by omega]; exact st.symm⟩
    · have c' : ¬ (!decide (x ∈ stay)) = true := c
      rw [if_neg (by intro z; exact c' ((Bool.and_eq_true _ _ ▸ z).1)), List.append_nil] at st
      exact ⟨_, rfl, s1, by rw [show row.length - (k + 1) = row.length - 1 - k by omega]; exact st.symm⟩
  · rintro σ H1 ⟨y3, rfl, s1, g1⟩
    refine q _ H1 s1 ?_
    rw [← g1, show row.length - ((row.length : Int) - 1 - -1).toNat = 0 by omega]
    rfl
abbrev sStayed : Stmt := topS 9
abbrev nStayed : List Str := ["known", "row", "but", "left", "gone", "place"]
theorem scStayed : FnScope nStayed ["known", "row", "but"] (defScope sStayed) := ⟨rfl, rfl, rfl, by decide +kernel, rfl, by decide +kernel, by decide +kernel⟩
theorem ok_stayed {f : Addr} {fd : FuncData} (B : Blt mg) (CH : Cal P w K mg base 3 "hindmost_loose" ["known", "row", "but"] (spHind K)) (F : Fun K "gone_and_stayed" "gone_and_stayed" sStayed f fd) : FnOk P w K mg base CX0 4 f fd ["known", "row", "but"] (spStayed K) := by
  refine fok F scStayed (fun vs H Q E h => ?_) (fun cdv A outer s H vs Q E hr h => ?_)
  · obtain ⟨a, r, p, ps, row, stay, rfl, _⟩ := h
    rfl
  obtain ⟨d, r, p, ps, row, stay, rfl, k1, hrow, hd, hn, hb, q⟩ := h
  have h1 : Room 1 _ := hr.mono (by decide)
  refine ⟨_, (pss_cons (ps_set (i := 3) scStayed.nd rfl (.inl rfl) (pe_callTy call_list_of (by rfl) B.list (by decide +kernel) (pa_cons (pv 1) pa_nil)))
    (pss_cons (ps_set (i := 4) scStayed.nd rfl (.inl rfl) (pe_lst pa_nil))
    (pss_cons (ps_set (i := 5) scStayed.nd rfl (.inl rfl) (pe_cal CH hr (pa_cons (pv 0) (pa_cons (pv 3) (pa_cons (pv 2) pa_nil)))))
    (pss_cons (ps_while PassesOwn.never (pt_cmp (pc_notN (pv 5)))
      (pss_cons (ps_expr (pe_bm PySem.F.plainAttrs_list PySem.F.slot_list_append PySem.F.type_list_append mt_append (pv 4) (pa_cons (pe_bm PySem.F.plainAttrs_list PySem.F.slot_list_pop PySem.F.type_list_pop mt_popAt (pv 3) (pa_cons (pv 5) pa_nil)) pa_nil)))
      (pss_one (ps_set (i := 5) scStayed.nd rfl (.inl rfl) (pe_cal CH hr (pa_cons (pv 0) (pa_cons (pv 3) (pa_cons (pv 2) pa_nil))))))))
    (pss_one (ps_ret (pe_tup (pa_cons (pv 4) (pa_cons (pe_callTy call_tupleF (by rfl) B.tuple (by decide +kernel) (pa_cons (pv 3) pa_nil)) pa_nil))))))))), ?_⟩
  have sq : SqL K H r (row.map V.str) ∨ SqT K H r (row.map V.str) := hrow.elim (fun e => .inr e.sq) (fun e => .inl (.inl (.inl e)))
  refine ⟨.ref r, rfl, r, _, rfl, sq, fun le hle => ?_⟩
  have s2 := same_upd (o := .lst (row.map V.str)) hle
  refine ⟨(by show 0 ≤ sizeLine; decide), fun go hgo => ?_⟩
  have s3 := same_upd (o := .lst []) hgo
  have ngl : le ≠ go := fun z => by rw [← z, upd_same] at hgo; cases hgo
  have hle0 : H le = none := hle
  have hgo0 : H go = none := s2.free hgo
  have l3 : upd (upd H le (.lst (row.map V.str))) go (.lst []) le = some (.lst (row.map V.str)) := s3 _ _ upd_same
  have s03 := s2.trans s3
  refine ⟨_, rfl, _, rfl, _, rfl, d, le, p, ps, row, stay, rfl, (k1.same s2).same s3, l3, hn, (fun H' s => hb H' (s03.trans s)), fun v H4 s4 hv => ?_⟩
  refine while_by (fun σ H' => ∃ (acc cur : List Str) (v : V), σ = [some (.ref d), some (.ref r), some (.ref p), some (.ref le), some (.ref go), some v] ∧ Same H H' ∧ KnAt H' d ps ∧ H' le = some (.lst (cur.map V.str)) ∧ H' go = some (.lst (acc.map V.str)) ∧ cur.Nodup ∧ acc.length + cur.length = row.length ∧ hindV cur (someL ps stay cur).getLast? v ∧ acc ++ goneO ps stay cur = goneO ps stay row ∧ goneR ps stay cur = goneR ps stay row)
    (fun σ H' => match H' le with | some (.lst xs) => xs.length | _ => 0) ?_ ?_ ?_
  · exact ⟨[], row, v, rfl, s03.trans s4, ((k1.same s2).same s3).same s4, s4 _ _ l3, s4 _ _ upd_same, hd, Nat.zero_add _, hv, rfl, rfl⟩
  · rintro σ H5 ⟨acc, cur, v, rfl, s5, k5, l5, g5, d5, n5, v5, a5, r5⟩
    refine ⟨_, rfl, ?_⟩
    cases e : (someL ps stay cur).getLast? with
    | none =>
      rw [e] at v5
      have v5' : v = .non := v5
      subst v5'
      refine ⟨_, rfl, ?_⟩
      have en := List.getLast?_eq_none_iff.mp e
      obtain ⟨z1, z2⟩ := gone_none en
      rw [z1, List.append_nil] at a5
      rw [z2] at r5
      refine ⟨.ref go, rfl, .ref le, rfl, le, _, rfl, .inl ⟨.inl (.inl l5), fun t H6 s6 n6 t6 => ?_⟩⟩
      refine ⟨(by show 2 ≤ sizeLine; decide), fun T hT => ?_⟩
      have s7 := same_upd (o := .tup [.ref go, .ref t]) hT
      refine q T go t _ ((s5.trans s6).trans s7) hgo0 upd_same ?_ ?_
      · rw [← a5]
        exact s7 _ _ (s6 _ _ g5)
      · rw [← r5]
        exact t6.same s7
    | some x =>
      rw [e] at v5
      obtain ⟨i, rfl, hx⟩ := v5
      have hi : i < cur.length := (List.getElem?_eq_some_iff.mp hx).1
      obtain ⟨z1, z2⟩ := gone_some d5 e
      have rl := rem_len d5 (List.mem_of_getElem? hx)
      refine ⟨_, rfl, ?_⟩
      have ngl' : go ≠ le := Ne.symm ngl
      refine ⟨.ref go, rfl, .inl ⟨rfl, _, .inl (.inl g5)⟩, .ref le, rfl, .inl ⟨rfl, _, .inl (.inl l5)⟩, _, rfl, le, _, i, i, .str x, rfl, rfl, l5, by omega, by omega, ?_, ix_map hx, ?_⟩
      · rw [List.length_map]
        exact PyProof.Rows.seqIndex_at (by omega) (by omega)
      rw [erase_map, erase_rem d5 hx]
      have g6 : upd H5 le (.lst ((rem cur x).map V.str)) go = some (.lst (acc.map V.str)) := (upd_ne ngl').trans g5
      refine ⟨go, _, _, rfl, rfl, g6, ?_, ?_⟩
      · rw [List.length_map]
        exact small1000 (by omega)
      have l7 : upd (upd H5 le (.lst ((rem cur x).map V.str))) go (.lst (acc.map V.str ++ [.str x])) le = some (.lst ((rem cur x).map V.str)) := (upd_ne ngl).trans upd_same
      have s7 : Same H (upd (upd H5 le (.lst ((rem cur x).map V.str))) go (.lst (acc.map V.str ++ [.str x]))) := fun b o z => by
        rw [upd_ne (ne_of_none z hgo0), upd_ne (ne_of_none z hle0)]
        exact s5 _ _ z
      have k7 : KnAt (upd (upd H5 le (.lst ((rem cur x).map V.str))) go (.lst (acc.map V.str ++ [.str x]))) d ps := by
        obtain ⟨kvs, w1, w2⟩ := k5
        exact ⟨kvs, (upd_ne (ne_of w1 g5 (fun z => nomatch z))).trans ((upd_ne (ne_of w1 l5 (fun z => nomatch z))).trans w1), w2⟩
      refine ⟨_, rfl, _, rfl, _, rfl, d, le, p, ps, rem cur x, stay, rfl, k7, l7, by omega, (fun H' s => hb H' (s7.trans s)), fun v8 H8 s8 hv8 => ?_⟩
      refine ⟨⟨acc ++ [x], rem cur x, v8, rfl, s7.trans s8, k7.same s8, s8 _ _ l7, ?_, rem_nodup d5, ?_, hv8, ?_, ?_⟩, ?_⟩
      · rw [List.map_append]
        exact s8 _ _ upd_same
      · rw [List.length_append]
        show acc.length + 1 + _ = _
        omega
      · rw [List.append_assoc]
        show acc ++ (x :: goneO ps stay (rem cur x)) = _
        rw [← z1]
        exact a5
      · rw [← z2]
        exact r5
      · rw [s8 _ _ l7, l5]
        show ((rem cur x).map V.str).length < (cur.map V.str).length
        rw [List.length_map, List.length_map]
        omega
  · rintro σ H5 Q1 Q2 hQ ⟨y, hy, c, hc, z⟩
    exact ⟨y, hy, c, hc, hQ _ _ z⟩
abbrev sGone : Stmt := topS 10
abbrev nGone : List Str := ["friends", "row", "but"]
theorem scGone : FnScope nGone nGone (defScope sGone) := ⟨rfl, rfl, rfl, by decide +kernel, rfl, by decide +kernel, by decide +kernel⟩
theorem ok_gone {f : Addr} {fd : FuncData} (CB : Cal P w K mg base 1 "both_ways" ["friends"] spBoth) (CS : Cal P w K mg base 4 "gone_and_stayed" ["known", "row", "but"] (spStayed K)) (F : Fun K "gone_and_left" "gone_and_left" sGone f fd) : FnOk P w K mg base CX0 5 f fd ["friends", "row", "but"] (spGone K) := by
  refine fok F scGone (fun vs H Q E h => ?_) (fun cdv A outer s H vs Q E hr h => ?_)
  · obtain ⟨a, r, p, ps, row, stay, rfl, _⟩ := h
    rfl
  obtain ⟨a, r, p, ps, row, stay, rfl, ha, hp, hrow, hd, hn, hb, q⟩ := h
  refine ⟨_, pss_one (ps_ret (pe_cal CS hr (pa_cons (pe_cal CB hr (pa_cons (pv 0) pa_nil)) (pa_cons (pv 1) (pa_cons (pv 2) pa_nil))))), ?_⟩
  refine ⟨_, rfl, a, ps, rfl, ha, hp, fun d H1 s1 nd1 k1 => ?_⟩
  refine ⟨_, rfl, _, rfl, d, r, p, ps, row, stay, rfl, k1, hrow.same s1, hd, hn, (fun H' s => hb H' (s1.trans s)), fun T g t H2 s2 n2 eT eg et => ?_⟩
  exact q T g t H2 (s1.trans s2) (s1.free n2) eT eg et
/-! ### some_order, hung -/
abbrev sSomeO : Stmt := topS 12
abbrev nSomeO : List Str := ["friends", "row", "gone", "left"]
theorem scSomeO : FnScope nSomeO ["friends", "row"] (defScope sSomeO) := ⟨rfl, rfl, rfl, by decide +kernel, rfl, by decide +kernel, by decide +kernel⟩
theorem ok_someO {f : Addr} {fd : FuncData} (CG : Cal P w K mg base 5 "gone_and_left" ["friends", "row", "but"] (spGone K)) (F : Fun K "some_order" "some_order" sSomeO f fd) : FnOk P w K mg base CX0 6 f fd ["friends", "row"] spSomeO := by
  refine fok F scSomeO (fun vs H Q E h => ?_) (fun cdv A outer s H vs Q E hr h => ?_)
  · obtain ⟨a, r, ps, row, rfl, _⟩ := h
    rfl
  obtain ⟨a, r, ps, row, rfl, ha, hp, hrow, hd, hn, g0, q⟩ := h
  refine ⟨_, pss_cons (ps_asg (pe_cal CG hr (pa_cons (pv 0) (pa_cons (pv 1) (pa_cons (pe_tupF pa_nil) pa_nil)))) (pg_tup rfl (pgs_cons (pg_name (i := 2) scSomeO.nd rfl (.inl rfl)) (pgs_cons (pg_name (i := 3) scSomeO.nd rfl (.inl rfl)) pgs_nil))))
    (pss_cons (ps_if (pt_truth (pv 3) (by intro _; rfl)) (pss_one ps_never) pss_nil)
    (pss_one (ps_ret (pe_revL (pv 2))))), ?_⟩
  refine ⟨_, rfl, _, rfl, (by show 0 ≤ sizeLine; decide), fun p0 H0 s0 n0 t0 => ?_⟩
  refine ⟨a, r, p0, ps, row, [], rfl, ha.same s0, hp, hrow.same s0, hd, hn, (fun H' s => .inr (t0.same s).sq), fun T g t H1 s1 ng eT eg et => ?_⟩
  refine ⟨T, _, rfl, .inl (.inl eT), rfl, _, _, rfl, _, _, rfl, rfl, ?_⟩
  have s01 := s0.trans s1
  rw [g0] at et
  refine ⟨.ref t, rfl, _, .inr (.inl ⟨_, et.sq, rfl⟩), ?_⟩
  refine ⟨.ref g, rfl, g, _, rfl, .inl (.inl eg), fun p hp2 => ?_⟩
  rw [← List.map_reverse]
  exact q p _ (s01.trans (same_upd hp2)) (s01.free hp2) upd_same
abbrev sHung : Stmt := topS 14
abbrev nHung : List Str := ["friends", "row", "known", "told", "place", "who", "host"]
theorem scHung : FnScope nHung ["friends", "row"] (defScope sHung) := ⟨rfl, rfl, rfl, by decide +kernel, rfl, by decide +kernel, by decide +kernel⟩
theorem ok_hung {f : Addr} {fd : FuncData} (B : Blt mg) (CS : Cal P w K mg base 6 "some_order" ["friends", "row"] spSomeO) (CB : Cal P w K mg base 1 "both_ways" ["friends"] spBoth) (CL : Cal P w K mg base 1 "last_friend_place" ["known", "row", "who"] spLfp) (F : Fun K "hung" "hung" sHung f fd) : FnOk P w K mg base CX0 7 f fd ["friends", "row"] spHung := by
  refine fok F scHung (fun vs H Q E h => ?_) (fun cdv A outer s H vs Q E hr h => ?_)
  · obtain ⟨a, r, ps, row, rfl, _⟩ := h
    rfl
  obtain ⟨a, r, ps, row, rfl, ha, hp, hrow, hd, hn, g0, q⟩ := h
  refine ⟨_, pss_cons (ps_expr (pe_cal CS hr (pa_cons (pv 0) (pa_cons (pv 1) pa_nil))))
    (pss_cons (ps_set (i := 2) scHung.nd rfl (.inl rfl) (pe_cal CB hr (pa_cons (pv 0) pa_nil)))
    (pss_cons (ps_set (i := 3) scHung.nd rfl (.inl rfl) (pe_lst pa_nil))
    (pss_cons (ps_for PassesOwn.never rfl (pi_rowE (by rfl) B.enumerate (pv 1)) (pg_tup rfl (pgs_cons (pg_name (i := 4) scHung.nd rfl (.inl rfl)) (pgs_cons (pg_name (i := 5) scHung.nd rfl (.inl rfl)) pgs_nil)))
      (pss_cons (ps_set (i := 6) scHung.nd rfl (.inl rfl) (pe_cal CL hr (pa_cons (pv 2) (pa_cons (pe_slice sl_row (pv 1) po_none (po_some (pv 4))) (pa_cons (pv 5) pa_nil)))))
      (pss_one (ps_expr (pe_bm PySem.F.plainAttrs_list PySem.F.slot_list_append PySem.F.type_list_append mt_append (pv 3) (pa_cons (pe_tup (pa_cons (pv 5) (pa_cons (pe_mid (pe_ifExp (pt_cmp (pc_isN (pv 6))) pe_non (pe_ix ix_row (pv 1) (pv 6) (fun _ _ => rfl)))) pa_nil))) pa_nil))))))
    (pss_one (ps_ret (pv 3)))))), ?_⟩
  refine ⟨_, rfl, _, rfl, a, r, ps, row, rfl, ha, hp, hrow, hd, hn, g0, fun po H1 s1 npo epo => ?_⟩
  refine ⟨_, rfl, a, ps, rfl, ha.same s1, hp, fun d H2 s2 nd2 k2 => ?_⟩
  have s02 := s1.trans s2
  refine ⟨(by show 0 ≤ sizeLine; decide), fun to hto => ?_⟩
  have s3 := same_upd (o := .lst []) hto
  have nto : H to = none := s02.free hto
  have row3 := (hrow.same s02).same s3
  refine ⟨r, row, rfl, row3, fun J G wk hG => ?_⟩
  refine for_it wk (fun i σ H' => ∃ (qs : List B3O) (y4 y5 y6 : Option V), σ = [some (.ref a), some (.ref r), some (.ref d), some (.ref to), y4, y5, y6] ∧ Same H2 H' ∧ H' r = H2 r ∧ H' to = some (.lst (refsO qs)) ∧ PairsO H' qs ∧ qs.map (·.2) = hungL ps row i) ?_ ?_ ?_ ?_
  · exact ⟨[], _, _, _, rfl, s3, (hrow.same s02).kept s3, upd_same, (fun _ h => nomatch h), rfl⟩
  · rintro i σ H' _ ⟨qs, y4, y5, y6, _, s4, e4, _⟩
    exact hG H' (e4.trans ((hrow.same s02).kept s3).symm)
  · rintro i v σ H4 H5 hi ⟨qs, y4, y5, y6, rfl, s4, r4, e4, p4, m4⟩ ⟨T, x1, x2, rfl, nT, rfl, e1, e2⟩
    cases e1
    obtain ⟨x, hx, rfl⟩ := at_map e2
    have hil : i < row.length := (List.getElem?_eq_some_iff.mp hx).1
    have sT := same_upd (o := .tup [.int (i : Nat), .str x]) nT
    have s5 := s4.trans sT
    refine ⟨T, _, rfl, .inl (.inl upd_same), rfl, _, _, rfl, _, _, rfl, rfl, ?_⟩
    have row5 := (hrow.same s02).same s5
    refine ⟨_, rfl, .ref r, rfl, _, rfl, _, rfl, r, row, rfl, row5, fun sl H6 s6 r6 => ?_⟩
    rw [cutL_to] at r6
    refine ⟨_, rfl, d, sl, ps, row.take i, x, rfl, (k2.same s5).same s6, r6, (by rw [List.length_take]; omega), fun H7 s7 => ?_⟩
    have s47 := (sT.trans s6).trans s7
    have s27 := s4.trans s47
    have e7 := s47 _ _ e4
    have ml : qs.length ≤ 100 := by
      have := congrArg List.length m4
      rw [List.length_map] at this
      rw [this]
      exact Nat.le_trans (hungL_len ps row i) hn
    refine ⟨.ref to, rfl, .inl ⟨rfl, _, .inl (.inl e7)⟩, .str x, rfl, fun v H' => v = optV (hostO ps row x) ∧ H7 = H', ?_, ?_⟩
    · refine ⟨_, rfl, _, rfl, ?_⟩
      rw [hostO_at hd hx]
      cases e : lastP (frd ps x) (row.take i) with
      | none => exact ⟨rfl, rfl⟩
      | some k =>
        obtain ⟨y, q1, _, _⟩ := lastP_some e
        have q2 : row[k]? = some y := by
          rw [List.getElem?_take] at q1
          split at q1
          · exact q1
          · cases q1
        refine ⟨.ref r, rfl, _, rfl, r, row, (k : Int), y, rfl, rfl, (hrow.same s02).same s27, atI_nat (ix_map q2), ?_, rfl⟩
        show V.str y = optV (row[k]?)
        rw [q2]
        rfl
    rintro v _ ⟨rfl, rfl⟩
    refine ⟨(by show 2 ≤ sizeLine; decide), fun pr hpr => ?_⟩
    have s8 := same_upd (o := .tup [.str x, optV (hostO ps row x)]) hpr
    have npr : to ≠ pr := ne_of_none e7 hpr
    have e8 := s8 _ _ e7
    refine ⟨to, _, _, rfl, rfl, e8, ?_, ?_⟩
    · show (qs.map _).length < sizeLine
      rw [List.length_map]
      exact small1000 (by omega)
    have s48 := s47.trans s8
    refine ⟨qs ++ [(pr, x, hostO ps row x)], _, _, _, rfl, fun b o' e => ?_, ?_, ?_, ?_, ?_⟩
    · have nb : b ≠ to := fun z => by
        rw [z, hto] at e
        cases e
      rw [upd_ne nb]
      exact s48 _ _ (s4 _ _ e)
    · obtain ⟨o', eo⟩ := (hrow.same s02).some_
      have nr : r ≠ to := fun z => by
        rw [← z, eo] at hto
        cases hto
      rw [upd_ne nr, eo]
      exact s48 _ _ (s4 _ _ eo)
    · rw [upd_same]
      unfold refsO
      rw [List.map_append]
      rfl
    · intro c hc
      rcases List.mem_append.mp hc with u | u
      · exact ((p4.same s48).upd_ e8) c u
      · rw [List.mem_singleton.mp u, upd_ne (Ne.symm npr), upd_same]
    · rw [hungL_step hx, List.map_append, m4]
      rfl
  · rintro σ H4 ⟨qs, y4, y5, y6, rfl, s4, r4, e4, p4, m4⟩
    rw [List.length_map] at m4
    exact ⟨.ref to, rfl, q to qs H4 (s02.trans s4) nto e4 p4 m4⟩
/-! ### _law_let_in -/
abbrev sLetUp : Stmt := topS 29
abbrev nLetUp : List Str := ["_law_hosts", "_law_name", "_law_found"]
abbrev pLetUp : List Str := ["_law_hosts", "_law_name"]
theorem scLetUp : FnScope nLetUp pLetUp (defScope sLetUp) := ⟨rfl, rfl, rfl, by decide +kernel, rfl, by decide +kernel, by decide +kernel⟩
-- slots: 0:hosts 1:name 2:found
theorem ok_letUp {f : Addr} {fd : FuncData} (B : Blt mg) (F : Fun K "_law_let_in" "_law_let_in" sLetUp f fd) : FnOk P w K mg base CX0 1 f fd pLetUp spLetUp := by
  refine fok F scLetUp (fun vs H Q E h => ?_) (fun cdv A outer s H vs Q E hr h => ?_)
  · obtain ⟨D, x, ps, row, rfl, _⟩ := h
    rfl
  have hu := hu_of hr
  refine ⟨_, pss_cons (ps_set (i := 2) scLetUp.nd rfl (.inl rfl) (pe_lst pa_nil))
    (pss_cons (ps_while PassesOwn.never (pt_cmp (pc_notN (pe_dget hu (pv 0) (pv 1) (fun _ _ => rfl))))
      (pss_cons (ps_set (i := 1) scLetUp.nd rfl (.inl rfl) (pe_dget hu (pv 0) (pv 1) (fun _ _ => rfl)))
        (pss_one (ps_expr (pe_bm PySem.F.plainAttrs_list PySem.F.slot_list_append PySem.F.type_list_append mt_append (pv 2) (pa_cons (pv 1) pa_nil))))))
    (pss_one (ps_ret (pv 2)))), ?_⟩
  obtain ⟨D, x, ps, row, rfl, hD, nd, hn, hx, q⟩ := h
  refine ⟨(by show 0 ≤ sizeLine; decide), fun fo hfo => ?_⟩
  have s1 := same_upd (o := .lst []) hfo
  refine while_by (fun σ H' => ∃ (cur : Str) (acc : List Str) (n : Nat), σ = [some (.ref D), some (.str cur), some (.ref fo)] ∧ Same H H' ∧ H' fo = some (.lst (acc.map V.str)) ∧ cur ∈ row ∧ row.idxOf cur < n ∧ acc.length + n = row.length ∧ acc ++ upL ps row n cur = upL ps row row.length x)
    (fun σ H' => match σ[1]? with | some (some (V.str z)) => row.idxOf z | _ => 0) ?_ ?_ ?_
  · exact ⟨x, [], row.length, rfl, s1, upd_same, hx, List.idxOf_lt_length_of_mem hx, Nat.zero_add _, rfl⟩
  · rintro σ H2 ⟨cur, acc, n, rfl, s2, f2, hc, ln, an, en⟩
    obtain ⟨kvs, d1, d2⟩ := hD.same s2
    have dv := d2 cur hc
    obtain ⟨m, rfl⟩ : ∃ m, n = m + 1 := ⟨n - 1, by omega⟩
    refine ⟨_, rfl, _, rfl, D, _, rfl, .inl ⟨kvs, .inr cur, .inl d1, rfl, dv.symm⟩, ?_⟩
    cases e : hostO ps row cur with
    | none =>
      refine ⟨_, rfl, ?_⟩
      rw [show upL ps row (m + 1) cur = [] by simp only [upL, e], List.append_nil] at en
      rw [en] at f2
      exact ⟨_, rfl, q fo H2 s2 hfo f2⟩
    | some d =>
      refine ⟨_, rfl, ?_⟩
      obtain ⟨q1, q2, _⟩ := hostO_some nd e
      rw [e] at dv
      refine ⟨_, rfl, _, rfl, D, _, rfl, .inl ⟨kvs, .inr cur, .inl d1, rfl, dv.symm⟩, ?_⟩
      refine ⟨_, rfl, .inl ⟨rfl, _, .inl (.inl f2)⟩, _, rfl, fo, _, _, rfl, rfl, f2, ?_, ?_⟩
      · rw [List.length_map]
        exact small1000 (by omega)
      rw [show upL ps row (m + 1) cur = d :: upL ps row m d by simp only [upL, e]] at en
      refine ⟨⟨d, acc ++ [d], m, rfl, fun b o z => ?_, ?_, q1, by omega, by rw [List.length_append, List.length_singleton]; omega, by rw [List.append_assoc]; exact en⟩, ?_⟩
      · rw [upd_ne (ne_of_none z hfo)]
        exact s2 _ _ z
      · rw [upd_same, List.map_append]
        rfl
      · show row.idxOf d < row.idxOf cur
        exact q2
  · rintro σ H5 Q1 Q2 hQ ⟨v1, e1, v2, e2, a, v, ex, g, c, hc, z⟩
    exact ⟨v1, e1, v2, e2, a, v, ex, g, c, hc, hQ _ _ z⟩
/-! ### one by its name, by its place -/
theorem nd_snd {bl : List (Str × Addr)} (h : (bl.map (·.2)).Nodup) {p q : Str × Addr} (hp : p ∈ bl) (hq : q ∈ bl) (e : p.2 = q.2) : p = q := by
  induction bl with
  | nil => cases hp
  | cons c r ih =>
    rw [List.map_cons] at h
    obtain ⟨h1, h2⟩ := List.nodup_cons.mp h
    rcases List.mem_cons.mp hp with z | z <;> rcases List.mem_cons.mp hq with y | y
    · rw [z, y]
    · exact absurd (List.mem_map.mpr ⟨q, y, by rw [← e, z]⟩) h1
    · exact absurd (List.mem_map.mpr ⟨p, z, by rw [e, y]⟩) h1
    · exact ih h2 z y
theorem nd_fst {bl : List (Str × Addr)} (h : (bl.map (·.1)).Nodup) {p q : Str × Addr} (hp : p ∈ bl) (hq : q ∈ bl) (e : p.1 = q.1) : p = q := by
  induction bl with
  | nil => cases hp
  | cons c r ih =>
    rw [List.map_cons] at h
    obtain ⟨h1, h2⟩ := List.nodup_cons.mp h
    rcases List.mem_cons.mp hp with z | z <;> rcases List.mem_cons.mp hq with y | y
    · rw [z, y]
    · exact absurd (List.mem_map.mpr ⟨q, y, by rw [← e, z]⟩) h1
    · exact absurd (List.mem_map.mpr ⟨p, z, by rw [e, y]⟩) h1
    · exact ih h2 z y
/-! ### _law_gone_through -/
abbrev sByHosts : Stmt := topS 28
abbrev nByHosts : List Str := ["_law_hosts", "_law_some", "_law_below", "_law_name", "_law_roots", "_law_pile", "_law_found"]
abbrev pByHosts : List Str := ["_law_hosts", "_law_some"]
theorem scByHosts : FnScope nByHosts pByHosts (defScope sByHosts) := ⟨rfl, rfl, rfl, by decide +kernel, rfl, by decide +kernel, by decide +kernel⟩
-- slots: 0:hosts* 1:some 2:below 3:name 4:roots 5:pile 6:found
theorem ok_byHosts {f : Addr} {fd : FuncData} (B : Blt mg) (F : Fun K "_law_gone_through" "_law_gone_through" sByHosts f fd) : FnOk P w K mg base CX0 1 f fd pByHosts spByHosts := by
  refine fok F scByHosts (fun vs H Q E h => ?_) (fun cdv A outer s H vs Q E hr h => ?_)
  · obtain ⟨D, o, ps, row, order, rfl, _⟩ := h
    rfl
  have hu := hu_of hr
  refine ⟨_, pss_cons (ps_mid (ps_set (i := 2) scByHosts.nd rfl (.inl rfl) (pe_callTy (call_dictP rfl) (by rfl) B.dict (by decide +kernel) (pa_cons (pe_lc (own := [("_law_name", 3)]) (g := gName 3) (tt := tYes) (te := tTupF (tCons (tVar 3) (tCons (tLst tNil) tNil))) rfl scByHosts.nd (pi_list (pv 1)) (blkOk_by (N := nByHosts) (sc := defScope sByHosts) (by decide +kernel)) (fun _ _ _ _ _ => pg_name (i := 3) scByHosts.nd rfl (Or.inl rfl)) (fun _ _ _ _ _ => pts_nil) (fun _ _ _ _ _ => pe_tupF (pa_cons (pv 3) (pa_cons (pe_lst pa_nil) pa_nil)))) pa_nil))))
    (pss_cons (ps_mid (ps_setLc (i := 4) (own := [("_law_name", 3)]) (g := gName 3) (tt := tB (tIsN (tDGet (tVar 0) (tVar 3)))) (te := tVar 3) rfl scByHosts.nd rfl rfl (sw_true rfl rfl rfl (by decide +kernel)) (pi_list (pv 1)) (blkOk_by (N := nByHosts) (sc := defScope sByHosts) (by decide +kernel)) (fun _ _ _ _ _ => pg_name (i := 3) scByHosts.nd rfl (Or.inl rfl)) (fun _ _ _ _ _ => pts_one (pt_cmp (pc_isN (pe_dget hu (pv 0) (pv 3) (fun _ _ => rfl))))) (fun _ _ _ _ _ => pv 3)))
    (pss_cons (ps_for PassesOwn.never rfl (pi_list (pv 1)) (pg_name (i := 3) scByHosts.nd rfl (.inl rfl))
      (pss_one (ps_if (pt_cmp (pc_notN (pe_dget hu (pv 0) (pv 3) (fun _ _ => rfl))))
          (pss_one (ps_expr (pe_bm PySem.F.plainAttrs_list PySem.F.slot_list_append PySem.F.type_list_append mt_append (pe_dget hu (pv 2) (pe_dget hu (pv 0) (pv 3) (fun _ _ => rfl)) (fun _ _ => rfl)) (pa_cons (pv 3) pa_nil))))
          pss_nil)))
    (pss_cons (ps_par (i := 5) (j := 6) (by rfl) scByHosts.nd rfl rfl (by decide) rfl rfl (pa_cons (pe_revL (pv 4)) (pa_cons (pe_lst pa_nil) pa_nil)) (by rfl))
    (pss_cons (ps_while PassesOwn.never (pt_cmpR (op_neNil hr.units) (pv 5) (pe_lst pa_nil) (nomark _))
      (pss_cons (ps_set (i := 3) scByHosts.nd rfl (.inl rfl) (pe_bm0 PySem.F.plainAttrs_list PySem.F.slot_list_pop PySem.F.type_list_pop mt_pop (pv 5)))
        (pss_cons (ps_expr (pe_bm PySem.F.plainAttrs_list PySem.F.slot_list_append PySem.F.type_list_append mt_append (pv 6) (pa_cons (pv 3) pa_nil)))
        (pss_one (ps_set (i := 5) scByHosts.nd rfl (.inl rfl) (pe_op op_cat (pv 5) (pe_dget hu (pv 2) (pv 3) (fun _ _ => rfl))))))))
    (pss_one (ps_ret (pe_callTy call_tupleF (by rfl) B.tuple (by decide +kernel) (pa_cons (pv 6) pa_nil)))))))), ?_⟩
  obtain ⟨D, o, ps, row, order, rfl, hD, irr, ho, hd, pm, hs, hn, gr, q⟩ := h
  have nd : row.Nodup := pm.nodup_iff.mp hd
  have lo : order.length ≤ 100 := by rw [pm.length_eq]; exact hn
  have rl : (order.map V.str).length = order.length := List.length_map ..
  -- who waits behind whom: nobody yet
  refine ⟨fun σ' H' => ∃ (Bd : Addr) (bl : List (Str × Addr)), σ' = [some (.ref D), some (.ref o), some (.ref Bd), none, none, none, none] ∧ Same H H' ∧ H Bd = none ∧ bl.map (·.1) = order ∧ (bl.map (·.2)).Nodup ∧ H' Bd = some (.dK (bl.map fun q => (Sum.inr q.1, V.ref q.2))) ∧ ∀ q ∈ bl, H q.2 = none ∧ H' q.2 = some (.lst []), ?_, ?_⟩
  · refine ⟨_, rfl, o, rfl, ⟨_, .inl (.inl ho)⟩, fun L hL => ?_⟩
    refine lc_it (walk_list (xs := order.map V.str)) (fun i H' => Same H H' ∧ ∃ ts : List (Addr × Str × Addr), H' L = some (.lst (ts.map fun q => V.ref q.1)) ∧ ts.map (·.2.1) = order.take i ∧ (ts.map (·.2.2)).Nodup ∧ ∀ q ∈ ts, TupAt H' q.1 [.str q.2.1, .ref q.2.2] ∧ H q.2.2 = none ∧ H' q.2.2 = some (.lst []) ∧ q.2.2 ≠ L) ?_ ?_ ?_ ?_
    · exact ⟨same_upd hL, [], upd_same, rfl, List.nodup_nil, fun _ h => nomatch h⟩
    · rintro i H' _ ⟨sx, _⟩
      exact .inl (.inl (sx _ _ ho))
    · rintro i v H2 H1 hi ⟨s1, ts, l1, m1, n1, t1⟩ ⟨rfl, ex⟩
      obtain ⟨x, hx, rfl⟩ := at_map ex
      have hil : i < order.length := (List.getElem?_eq_some_iff.mp hx).1
      have lts : ts.length = i := by
        have := congrArg List.length m1
        rw [List.length_map, List.length_take] at this
        omega
      refine ⟨rfl, _, rfl, (by show 0 ≤ sizeLine; decide), fun la hla => ⟨(by show 2 ≤ sizeLine; decide), fun tq H3 s3 n3 e3 => ?_⟩⟩
      have s2 := same_upd (o := .lst []) hla
      have s23 := s2.trans s3
      have hl3 := s23 _ _ l1
      have nla : la ≠ L := fun z => by
        rw [z, l1] at hla
        cases hla
      have nl0 : H la = none := s1.free hla
      refine ⟨_, hl3, ?_, fun b o' z => ?_, ts ++ [(tq, x, la)], ?_, ?_, ?_, fun q' hq => ?_⟩
      · rw [List.length_map, lts]
        exact small1000 (by omega)
      · rw [upd_ne (ne_of_none z hL)]
        exact s23 _ _ (s1 _ _ z)
      · rw [upd_same, List.map_append]
        rfl
      · rw [List.map_append, m1, List.take_add_one, hx]
        rfl
      · rw [List.map_append, List.nodup_append]
        refine ⟨n1, List.nodup_cons.mpr ⟨(fun h => nomatch h), List.nodup_nil⟩, fun a ha b hb e => ?_⟩
        obtain ⟨q', hq, rfl⟩ := List.mem_map.mp ha
        rw [List.mem_singleton.mp hb] at e
        obtain ⟨_, _, h3, _⟩ := t1 q' hq
        rw [show q'.2.2 = la from e, hla] at h3
        cases h3
      · rcases List.mem_append.mp hq with z | z
        · obtain ⟨h1, h2, h3, h4⟩ := t1 q' z
          exact ⟨(h1.same s23).upd_ hl3, h2, (upd_ne h4).trans (s23 _ _ h3), h4⟩
        · rw [List.mem_singleton.mp z]
          exact ⟨(show TupAt H3 tq [.str x, .ref la] from e3).upd_ hl3, nl0, (upd_ne nla).trans (s3 _ _ upd_same), nla⟩
    rintro H1 ⟨s1, ts, l1, m1, n1, t1⟩
    rw [rl, List.take_of_length_le (Nat.le_refl _)] at m1
    refine ⟨L, ts.map (·.1), ts.map (fun q => (Sum.inr q.2.1, V.ref q.2.2)), rfl, .inl (.inl (by rw [List.map_map]; exact l1)), ?_, fun Bd hBd => ?_⟩
    · clear l1 m1 n1
      induction ts with
      | nil => exact .nil
      | cons c r ih => exact .cons (t1 c List.mem_cons_self).1.sq (ih fun q' hq => t1 q' (List.mem_cons_of_mem _ hq))
    have nk : ((([] : List (Key × V)) ++ ts.map (fun q => ((Sum.inr q.2.1 : Key), V.ref q.2.2))).map (·.1)).Nodup := by
      rw [List.nil_append, List.map_map]
      have : (ts.map (·.2.1)).Nodup := by rw [m1]; exact hd
      have e2 : ts.map ((·.1) ∘ fun q : Addr × Str × Addr => ((Sum.inr q.2.1 : Key), V.ref q.2.2)) = (ts.map (·.2.1)).map (fun x => (Sum.inr x : Key)) := by
        rw [List.map_map]
        rfl
      rw [e2]
      exact List.Pairwise.map _ (fun a b h e => h (Sum.inr.inj e)) this
    rw [merge_nd _ _ nk, List.nil_append]
    have s2 := same_upd (o := .dK (ts.map (fun q => ((Sum.inr q.2.1 : Key), V.ref q.2.2)))) hBd
    refine ⟨Bd, ts.map (fun q => (q.2.1, q.2.2)), rfl, s1.trans s2, s1.free hBd, ?_, ?_, ?_, fun q' hq => ?_⟩
    · rw [List.map_map]
      exact m1
    · rw [List.map_map]
      exact n1
    · rw [upd_same, List.map_map]
      rfl
    · obtain ⟨c, hc, rfl⟩ := List.mem_map.mp hq
      obtain ⟨_, h2, h3, _⟩ := t1 c hc
      exact ⟨h2, s2 _ _ h3⟩
  rintro σ' H1 ⟨Bd, bl, rfl, s1, nBd, m1, n1, d1, b1⟩
  have hval : ∀ {H' : Hp}, Same H H' → ∀ x ∈ row, DGet H' D (.str x) (some (optV (hostO ps row x))) := fun {H'} s x hx => by
    obtain ⟨kvs, h1, h2⟩ := hD.same s
    exact .inl ⟨kvs, .inr x, .inl h1, rfl, (h2 x hx).symm⟩
  -- the roots
  refine ⟨fun σ' H' => ∃ (R : Addr), σ' = [some (.ref D), some (.ref o), some (.ref Bd), none, some (.ref R), none, none] ∧ Same H1 H' ∧ H1 R = none ∧ H' R = some (.lst ((rootsL ps row order).map V.str)), ?_, ?_⟩
  · refine ⟨_, rfl, o, rfl, ⟨_, .inl (.inl (s1 _ _ ho))⟩, fun R hR => ?_⟩
    refine lc_take (walk_list (xs := order.map V.str)) (fun y => decide (hostO ps row y = none)) (by omega) hR (fun H' s => .inl (.inl (s _ _ (s1 _ _ ho)))) ?_ ?_
    · rintro k y v H3 H3' kk k0 hy s3 ⟨rfl, ex⟩ k1 k2
      rw [ix_map hy] at ex
      cases ex
      have hyr : y ∈ row := pm.mem_iff.mp (List.mem_of_getElem? hy)
      refine ⟨rfl, _, rfl, _, rfl, D, _, rfl, hval (s1.trans s3) y hyr, _, rfl, ?_⟩
      cases e : hostO ps row y with
      | none => exact ⟨_, rfl, k1 (decide_eq_true e) _ (Same.refl _)⟩
      | some d => exact k2 (decide_eq_false (by rw [e]; exact fun z => nomatch z)) _ (Same.refl _)
    · intro H3 s3 e3
      exact ⟨R, rfl, s3, hR, e3⟩
  rintro σ' H2 ⟨R, rfl, s2, nR, eR⟩
  have nRq : ∀ q ∈ bl, q.2 ≠ R := fun q' hq z => by
    have := (b1 q' hq).2
    rw [z, nR] at this
    cases this
  have nRB : Bd ≠ R := fun z => by
    rw [z, nR] at d1
    cases d1
  have nBq : ∀ q ∈ bl, q.2 ≠ Bd := fun q' hq z => by
    have := (b1 q' hq).2
    rw [z, d1] at this
    cases this
  have s12 := s1.trans s2
  have bval : ∀ {H' : Hp}, H' Bd = some (.dK (bl.map fun q => ((Sum.inr q.1 : Key), V.ref q.2))) → ∀ q ∈ bl, DGet H' Bd (.str q.1) (some (.ref q.2)) := fun {H'} h q' hq => by
    refine .inl ⟨_, .inr q'.1, .inl h, rfl, ?_⟩
    have nb : (bl.map (·.1)).Nodup := by rw [m1]; exact hd
    clear h d1 b1 nRq nBq n1 m1
    induction bl with
    | nil => cases hq
    | cons c r ih =>
      rw [List.map_cons] at nb
      obtain ⟨n2, n3⟩ := List.nodup_cons.mp nb
      rw [List.map_cons]
      rcases List.mem_cons.mp hq with z | z
      · rw [z]
        exact (valV_pos (κ := Key) (p := ((Sum.inr c.1 : Key), V.ref c.2)) rfl).symm
      · have ne : ¬ ((Sum.inr c.1 : Key), V.ref c.2).1 = (Sum.inr q'.1 : Key) := fun e => n2 (by
          rw [show c.1 = q'.1 from Sum.inr.inj e]
          exact List.mem_map.mpr ⟨q', z, rfl⟩)
        rw [valV_neg ne]
        exact ih z n3
  refine ⟨_, rfl, o, rfl, ⟨_, .inl (.inl (s12 _ _ ho))⟩, ?_⟩
  have d2 := s2 _ _ d1
  refine for_it (walk_list (xs := order.map V.str)) (fun i σ H' => ∃ y3 : Option V, σ = [some (.ref D), some (.ref o), some (.ref Bd), y3, some (.ref R), none, none] ∧ Same H H' ∧ H' Bd = some (.dK (bl.map fun q => ((Sum.inr q.1 : Key), V.ref q.2))) ∧ H' R = some (.lst ((rootsL ps row order).map V.str)) ∧ ∀ q ∈ bl, H' q.2 = some (.lst (((order.take i).filter fun y => decide (hostO ps row y = some q.1)).map V.str))) ?_ ?_ ?_ ?_
  · exact ⟨none, rfl, s12, d2, eR, fun q' hq => s2 _ _ (b1 q' hq).2⟩
  · rintro i σ H' _ ⟨_, _, sx, _⟩
    exact .inl (.inl (sx _ _ ho))
  · rintro i v σ H4 H3 hi ⟨y3, rfl, s3, d3, r3, b3⟩ ⟨rfl, ex⟩
    obtain ⟨x, hx, rfl⟩ := at_map ex
    have hxr : x ∈ row := pm.mem_iff.mp (List.mem_of_getElem? hx)
    have tk : order.take (i + 1) = order.take i ++ [x] := by rw [List.take_add_one, hx]; rfl
    refine ⟨_, rfl, _, rfl, D, _, rfl, hval s3 x hxr, ?_⟩
    cases e : hostO ps row x with
    | none =>
      refine ⟨_, rfl, ?_⟩
      refine ⟨_, rfl, s3, d3, r3, fun q' hq => ?_⟩
      rw [tk, List.filter_append, List.filter_cons, if_neg (by rw [e]; simp), List.filter_nil, List.append_nil]
      exact b3 q' hq
    | some d =>
      refine ⟨_, rfl, ?_⟩
      obtain ⟨dr, _⟩ := hostO_some nd e
      obtain ⟨qd, hqd, eqd⟩ := List.mem_map.mp (show d ∈ bl.map (·.1) by rw [m1]; exact pm.mem_iff.mpr dr)
      have hv := hval s3 x hxr
      rw [e] at hv
      have bv := bval d3 qd hqd
      rw [eqd] at bv
      refine ⟨_, rfl, _, rfl, _, rfl, D, _, rfl, hv, Bd, _, rfl, bv, .inl ⟨rfl, _, .inl (.inl (b3 qd hqd))⟩, _, rfl, qd.2, _, _, rfl, rfl, b3 qd hqd, ?_, ?_⟩
      · rw [List.length_map]
        refine small1000 (Nat.le_trans (List.length_filter_le _ _) ?_)
        rw [List.length_take]
        omega
      refine ⟨_, rfl, fun b' o' z => ?_, (upd_ne (Ne.symm (nBq qd hqd))).trans d3, (upd_ne (Ne.symm (nRq qd hqd))).trans r3, fun q' hq => ?_⟩
      · rw [upd_ne (ne_of_none z (b1 qd hqd).1)]
        exact s3 _ _ z
      · rw [tk, List.filter_append, List.filter_cons]
        by_cases c : q'.2 = qd.2
        · have : q' = qd := nd_snd n1 hq hqd c
          subst this
          rw [upd_same, if_pos (by rw [e, eqd]; simp), List.filter_nil, List.map_append]
          rfl
        · have nf : ¬ q'.1 = d := fun z => c (by
            have : q' = qd := nd_fst (by rw [m1]; exact hd) hq hqd (by rw [z, eqd])
            rw [this])
          rw [upd_ne c, if_neg (by rw [e]; simpa using fun z => nf z.symm), List.filter_nil, List.append_nil]
          exact b3 q' hq
  rintro σ H3 ⟨y3, rfl, s3, d3, r3, b3⟩
  rw [rl, List.take_of_length_le (Nat.le_refl _)] at b3
  -- the pile
  refine ⟨_, rfl, R, _, rfl, .inl (.inl r3), fun pa hpa => ⟨(by show 0 ≤ sizeLine; decide), fun fo hfo => ⟨_, _, rfl, ?_⟩⟩⟩
  have s4 := same_upd (o := .lst ((rootsL ps row order).map V.str).reverse) hpa
  have s5 := same_upd (o := .lst []) hfo
  have s45 := s4.trans s5
  have s05 := s3.trans s45
  have hpa0 : H pa = none := s3.free hpa
  have hfo0 : H fo = none := (s3.trans s4).free hfo
  have other : ∀ {H' : Hp} {p x : Addr} {o' : HO}, H' p = none → H' x = some o' → x ≠ p := fun {H' p x o'} h1 h2 z => by
    rw [z, h1] at h2
    cases h2
  have pf : pa ≠ fo := other hfo upd_same
  have fB : fo ≠ Bd := (other hfo (s4 _ _ d3)).symm
  have fq : ∀ q ∈ bl, q.2 ≠ fo := fun q' hq => other hfo (s4 _ _ (b3 q' hq))
  refine while_by (fun σ H' => ∃ (y3 : Option V) (pa : Addr) (i : Nat), σ = [some (.ref D), some (.ref o), some (.ref Bd), y3, some (.ref R), some (.ref pa), some (.ref fo)] ∧ Same H H' ∧ H pa = none ∧ pa ≠ fo ∧ pa ≠ Bd ∧ (∀ q ∈ bl, q.2 ≠ pa) ∧ H' Bd = some (.dK (bl.map fun q => ((Sum.inr q.1 : Key), V.ref q.2))) ∧ (∀ q ∈ bl, H' q.2 = some (.lst ((belowL ps row order q.1).map V.str))) ∧ H' pa = some (.lst ((pendL ps row i).reverse.map V.str)) ∧ H' fo = some (.lst ((row.take i).map V.str)) ∧ i ≤ row.length)
    (fun σ H' => match H' fo with | some (.lst xs) => row.length - xs.length | _ => 0) ?_ ?_ ?_
  · refine ⟨y3, pa, 0, rfl, s05, hpa0, pf, (other hpa d3).symm, fun q' hq => other hpa (b3 q' hq), s45 _ _ d3, fun q' hq => s45 _ _ (b3 q' hq), ?_, upd_same, Nat.zero_le _⟩
    rw [pend_start irr hd pm hs, List.map_reverse]
    exact s5 _ _ upd_same
  · clear s4 s5 s45 s05 hpa hpa0 pf s3 r3 b3 d3 y3
    rintro σ H4 ⟨y3, pa, i, rfl, s4, hpa0, pf, pB, pq, d4, b4, e4, f4, li⟩
    refine ⟨_, rfl, (by show 0 ≤ sizeLine; decide), fun nl hnl => ?_⟩
    have s5 := same_upd (o := .lst []) hnl
    have gp : Goods (pendL ps row i).reverse := fun x hx => gr x (List.mem_of_mem_drop (List.mem_filter.mp (List.mem_reverse.mp hx)).1)
    refine ⟨pa, nl, _, rfl, rfl, s5 _ _ e4, upd_same, gp, _, rfl, ?_⟩
    have s05 := s4.trans s5
    have d5 := s5 _ _ d4
    have e5 := s5 _ _ e4
    have f5 := s5 _ _ f4
    have b5 : ∀ q ∈ bl, upd H4 nl (.lst []) q.2 = some (.lst ((belowL ps row order q.1).map V.str)) := fun q' hq => s5 _ _ (b4 q' hq)
    generalize upd H4 nl (.lst []) = H5 at s5 s05 d5 e5 f5 b5
    refine ite2 (fun c => ?_) (fun c => ?_)
    · have il : i < row.length := by
        refine Classical.byContradiction fun z => ?_
        have : pendL ps row i = [] := by
          unfold pendL
          rw [List.drop_eq_nil_of_le (by omega)]
          rfl
        rw [this] at c
        exact absurd c (by simp)
      obtain ⟨x, hx⟩ : ∃ x, row[i]? = some x := ⟨row[i], List.getElem?_eq_getElem il⟩
      obtain ⟨p1, p2⟩ := pend_step irr hd pm hs hx
      rw [p1, List.reverse_cons, List.map_append] at e5
      generalize (row.drop (i + 1)).filter (pendB ps row i) = rest at p1 p2 e5
      have e5' : H5 pa = some (.lst (rest.reverse.map V.str ++ [V.str x])) := e5
      refine ⟨_, rfl, .inl ⟨rfl, _, .inl (.inl e5')⟩, pa, _, .str x, rfl, rfl, e5', (by simp), ?_⟩
      rw [List.dropLast_concat]
      have f6 : upd H5 pa (.lst (rest.reverse.map V.str)) fo = some (.lst ((row.take i).map V.str)) := (upd_ne (Ne.symm pf)).trans f5
      refine ⟨_, rfl, .inl ⟨rfl, _, .inl (.inl f6)⟩, _, rfl, fo, _, _, rfl, rfl, f6, ?_, ?_⟩
      · rw [List.length_map]
        refine small1000 ?_
        rw [List.length_take]
        omega
      have mx : x ∈ order := pm.mem_iff.mpr (List.mem_of_getElem? hx)
      obtain ⟨qx, hqx, eqx⟩ := List.mem_map.mp (show x ∈ bl.map (·.1) by rw [m1]; exact mx)
      have d7 : upd (upd H5 pa (.lst (rest.reverse.map V.str))) fo (.lst ((row.take i).map V.str ++ [V.str x])) Bd = some (.dK (bl.map fun q => ((Sum.inr q.1 : Key), V.ref q.2))) := (upd_ne (Ne.symm fB)).trans ((upd_ne (Ne.symm pB)).trans d5)
      have b7 : ∀ q ∈ bl, upd (upd H5 pa (.lst (rest.reverse.map V.str))) fo (.lst ((row.take i).map V.str ++ [V.str x])) q.2 = some (.lst ((belowL ps row order q.1).map V.str)) := fun q' hq => (upd_ne (fq q' hq)).trans ((upd_ne (pq q' hq)).trans (b5 q' hq))
      have e7 : upd (upd H5 pa (.lst (rest.reverse.map V.str))) fo (.lst ((row.take i).map V.str ++ [V.str x])) pa = some (.lst (rest.reverse.map V.str)) := (upd_ne pf).trans upd_same
      have f7 : upd (upd H5 pa (.lst (rest.reverse.map V.str))) fo (.lst ((row.take i).map V.str ++ [V.str x])) fo = some (.lst ((row.take (i + 1)).map V.str)) := by
        rw [upd_same, List.take_add_one, hx, List.map_append]
        rfl
      have s07 : Same H (upd (upd H5 pa (.lst (rest.reverse.map V.str))) fo (.lst ((row.take i).map V.str ++ [V.str x]))) := fun b' o' z => by
        rw [upd_ne (ne_of_none z hfo0), upd_ne (ne_of_none z hpa0)]
        exact s05 _ _ z
      have bv := bval d7 qx hqx
      rw [eqx] at bv
      have bx := b7 qx hqx
      rw [eqx] at bx
      generalize upd (upd H5 pa (.lst (rest.reverse.map V.str))) fo (.lst ((row.take i).map V.str ++ [V.str x])) = H7 at d7 b7 e7 f7 s07 bv bx
      refine ⟨_, rfl, _, rfl, _, rfl, Bd, _, rfl, bv, pa, qx.2, _, _, rfl, rfl, e7, bx, ?_, fun pa2 hpa2 => ?_⟩
      · rw [List.length_map, List.length_map]
        have l1 : rest.reverse.length ≤ row.length := by
          rw [List.length_reverse]
          have h1 : (pendL ps row i).length ≤ row.length := by
            unfold pendL
            refine Nat.le_trans (List.length_filter_le _ _) ?_
            rw [List.length_drop]
            omega
          rw [p1, List.length_cons] at h1
          omega
        have l2 : (belowL ps row order x).length ≤ order.length := List.length_filter_le _ _
        exact small_le (by omega)
      have s8 := same_upd (o := .lst (rest.reverse.map V.str ++ (belowL ps row order x).map V.str)) hpa2
      refine ⟨⟨_, pa2, i + 1, rfl, s07.trans s8, s07.free hpa2, (other hpa2 f7).symm, (other hpa2 d7).symm, fun q' hq => other hpa2 (b7 q' hq), s8 _ _ d7, fun q' hq => s8 _ _ (b7 q' hq), ?_, s8 _ _ f7, by omega⟩, ?_⟩
      · rw [upd_same, p2, List.reverse_append, List.reverse_reverse, List.map_append]
      · rw [s8 _ _ f7, f4]
        show row.length - ((row.take (i + 1)).map V.str).length < row.length - ((row.take i).map V.str).length
        rw [List.length_map, List.length_map, List.length_take, List.length_take]
        omega
    · have ei : i = row.length := by
        refine Classical.byContradiction fun z => c ?_
        obtain ⟨x, hx⟩ : ∃ x, row[i]? = some x := ⟨row[i]'(by omega), List.getElem?_eq_getElem _⟩
        obtain ⟨p1, _⟩ := pend_step irr hd pm hs hx
        rw [p1]
        simp
      rw [ei, List.take_of_length_le (Nat.le_refl _)] at f5
      refine ⟨_, rfl, fo, _, rfl, .inl ⟨.inl (.inl f5), fun t H6 s6 n6 e6 => ?_⟩⟩
      exact q t H6 (s05.trans s6) e6
  · rintro σ H5 Q1 Q2 hQ ⟨v1, e1, le, z⟩
    refine ⟨v1, e1, le, fun nl hnl => ?_⟩
    obtain ⟨a1, b1, xs, f1, f2, f3, f4, f5, k, ek, zz⟩ := z nl hnl
    exact ⟨a1, b1, xs, f1, f2, f3, f4, f5, k, ek, hQ _ _ zz⟩
/-! ### _law_right -/
abbrev sRight : Stmt := topS 30
abbrev nRight : List Str := ["_law_box_here", "_law_pals_here", "_law_pool", "_law_some", "_law_stand", "_law_rows", "_law_hosts", "_law_name", "_law_host", "_law_order", "_law_spot", "_law_low", "_law_between", "_law_its"]
abbrev pRight : List Str := ["_law_box_here"]
theorem scRight : FnScope nRight pRight (defScope sRight) := ⟨rfl, rfl, rfl, by decide +kernel, rfl, by decide +kernel, by decide +kernel⟩
-- slots: 0:box_here 1:pals_here 2:pool 3:some 4:stand 5:rows 6:hosts* 7:name* 8:host 9:order* 10:spot 11:low 12:between 13:its
theorem ok_right {f : Addr} {fd : FuncData} (B : Blt mg) (CBh : Cal P w K mg base 1 "_law_gone_through" ["_law_hosts", "_law_some"] spByHosts) (CLu : Cal P w K mg base 1 "_law_let_in" ["_law_hosts", "_law_name"] spLetUp) (COt : Cal P w K mg base 4 "_law_other" ["_law_box_here", "_law_pals_here", "_law_stand"] spOther) (CWd : Cal P w K mg base 4 "_law_world" ["_law_box_here", "_law_least", "_law_utmost"] spWorld) (CHu : Cal P w K mg base 7 "hung" ["friends", "row"] spHung) (F : Fun K "_law_right" "_law_right" sRight f fd) : FnOk P w K mg base CX0 8 f fd pRight spRight := by
  refine fok F scRight (fun vs H Q E h => ?_) (fun cdv A outer s H vs Q E hr h => ?_)
  · obtain ⟨b, rfl, _⟩ := h
    rfl
  have hu := hu_of hr
  refine ⟨_, pss_cons (ps_asg (pe_cal CWd hr (pa_cons (pv 0) (pa_cons pe_int (pa_cons pe_int pa_nil)))) (pg_tup rfl (pgs_cons (pg_name (i := 1) scRight.nd rfl (.inl rfl)) (pgs_cons (pg_name (i := 2) scRight.nd rfl (.inl rfl)) (pgs_cons (pg_name (i := 3) scRight.nd rfl (.inl rfl)) (pgs_cons (pg_name (i := 4) scRight.nd rfl (.inl rfl)) pgs_nil))))))
    (pss_cons (ps_set (i := 5) scRight.nd rfl (.inl rfl) (pe_cal CHu hr (pa_cons (pv 1) (pa_cons (pv 4) pa_nil))))
    (pss_cons (ps_set (i := 6) scRight.nd rfl (.inr rfl) (pe_callTy (call_dictP rfl) (by rfl) B.dict (by decide +kernel) (pa_cons (pv 5) pa_nil)))
    (pss_cons (ps_mid (ps_if (pt_cmpR (op_neD hr.units) (pe_lc (own := [("_law_name", 7), ("_law_host", 8)]) (g := gTup K 2 (gCons (gName 7) (gCons (gName 8) gNil))) (tt := tYes) (te := tVar 7) rfl scRight.nd (pi_list (pv 5)) (blkOk_by (N := nRight) (sc := defScope sRight) (by decide +kernel)) (fun _ _ _ _ _ => pg_tup rfl (pgs_cons (pg_name (i := 7) scRight.nd rfl (Or.inl rfl)) (pgs_cons (pg_name (i := 8) scRight.nd rfl (Or.inl rfl)) pgs_nil))) (fun _ _ _ _ _ => pts_nil) (fun _ _ _ _ _ => pv 7)) (pe_callTy call_list_of (by rfl) B.list (by decide +kernel) (pa_cons (pv 4) pa_nil)) (nomark _))
      (pss_one (ps_ret pe_bl))
      pss_nil))
    (pss_cons (ps_mid (ps_if (pt_not (pt_val (pe_callB (cr_all rfl) (by rfl) B.all (by decide +kernel) (pa_cons (pe_lock (pe_lc (own := [("_law_host", 8)]) (g := gName 8) (tt := tB (tNotN (tVar 8))) (te := tDIn (tVar 8) (tVar 6)) rfl scRight.nd (pi_values (pv 6)) (blkOk_by (N := nRight) (sc := defScope sRight) (by decide +kernel)) (fun _ _ _ _ _ => pg_name (i := 8) scRight.nd rfl (Or.inl rfl)) (fun _ _ _ _ _ => pts_one (pt_cmp (pc_notN (pv 8)))) (fun _ _ _ _ _ => pe_cmp (pc_din hu (pv 8) (pv 6)) rfl))) pa_nil))))
      (pss_one (ps_ret pe_bl))
      pss_nil))
    (pss_cons (ps_for PassesOwn.never rfl (pi_tup (pe_tup (pa_cons (pv 3) (pa_cons (pe_cal COt hr (pa_cons (pv 0) (pa_cons (pv 1) (pa_cons (pv 4) pa_nil)))) pa_nil)))) (pg_name (i := 9) scRight.nd rfl (.inr rfl))
      (pss_cons (ps_if (pt_cmpR (op_neT hr.units) (pe_cal CBh hr (pa_cons (pv 6) (pa_cons (pv 9) pa_nil))) (pv 4) (nomark _))
          (pss_one (ps_ret pe_bl))
          pss_nil)
        (pss_one (ps_for PassesOwn.never rfl (pi_enumT (by rfl) B.enumerate (pa_cons (pv 4) pa_nil)) (pg_tup rfl (pgs_cons (pg_name (i := 10) scRight.nd rfl (.inl rfl)) (pgs_cons (pg_name (i := 7) scRight.nd rfl (.inr rfl)) pgs_nil)))
          (pss_cons (ps_mid (ps_set (i := 11) scRight.nd rfl (.inl rfl) (pe_ifExp (pt_cmp (pc_isN (pe_dget hu (pv 6) (pv 7) (fun _ _ => rfl)))) pe_int (pe_op op_add (pe_bmT PySem.F.slot_tuple_index PySem.F.type_tuple_index mt_tup_index (pv 4) (pa_cons (pe_dget hu (pv 6) (pv 7) (fun _ _ => rfl)) pa_nil)) pe_int))))
            (pss_cons (ps_setLc (i := 12) (own := [("_law_its", 13)]) (g := gName 13) (tt := tB (tNotN (tDGet (tVar 6) (tVar 7)))) (te := tVar 13) rfl scRight.nd rfl rfl (sw_true rfl rfl rfl (by decide +kernel)) (pi_tup (pe_slice sl_tupM (pv 4) (po_some (pv 11)) (po_some (pv 10)))) (blkOk_by (N := nRight) (sc := defScope sRight) (by decide +kernel)) (fun _ _ _ _ _ => pg_name (i := 13) scRight.nd rfl (Or.inl rfl)) (fun _ _ _ _ _ => pts_one (pt_cmp (pc_notN (pe_dget hu (pv 6) (pv 7) (fun _ _ => rfl))))) (fun _ _ _ _ _ => pv 13))
            (pss_cons (ps_if (pt_not (pt_val (pe_callB (cr_all rfl) (by rfl) B.all (by decide +kernel) (pa_cons (pe_lc (own := [("_law_its", 13)]) (g := gName 13) (tt := tYes) (te := tOp (rIn K false) (tDGet (tVar 6) (tVar 7)) (tCall spLetUp [] E0 (tCons (tVar 6) (tCons (tVar 13) tNil)))) rfl scRight.nd (pi_list (pv 12)) (blkOk_by (N := nRight) (sc := defScope sRight) (by decide +kernel)) (fun _ _ _ _ _ => pg_name (i := 13) scRight.nd rfl (Or.inl rfl)) (fun _ _ _ _ _ => pts_nil) (fun _ _ _ _ _ => pe_cmpR op_in_seq (pe_dget hu (pv 6) (pv 7) (fun _ _ => rfl)) (pe_cal CLu hr (pa_cons (pv 6) (pa_cons (pv 13) pa_nil))) (by rfl))) pa_nil))))
              (pss_one (ps_ret pe_bl))
              pss_nil)
            (pss_one (ps_if (pt_val (pe_callB (cr_any rfl) (by rfl) B.any (by decide +kernel) (pa_cons (pe_lc (own := [("_law_its", 13)]) (g := gName 13) (tt := tYes) (te := tOp (rI0 fun i j => .bl (decide (i < j))) (tBM K "list" rIdxL (tVar 9) (tCons (tVar 13) tNil)) (tBM K "list" rIdxL (tVar 9) (tCons (tVar 7) tNil))) rfl scRight.nd (pi_list (pv 12)) (blkOk_by (N := nRight) (sc := defScope sRight) (by decide +kernel)) (fun _ _ _ _ _ => pg_name (i := 13) scRight.nd rfl (Or.inl rfl)) (fun _ _ _ _ _ => pts_nil) (fun _ _ _ _ _ => pe_cmpR op_lt (pe_bm PySem.F.plainAttrs_list PySem.F.slot_list_index PySem.F.type_list_index mt_idxL (pv 9) (pa_cons (pv 13) pa_nil)) (pe_bm PySem.F.plainAttrs_list PySem.F.slot_list_index PySem.F.type_list_index mt_idxL (pv 9) (pa_cons (pv 7) pa_nil)) (nomark _))) pa_nil)))
              (pss_one (ps_ret pe_bl))
              pss_nil)))))))))
    (pss_one (ps_ret pe_bl))))))), ?_⟩
  obtain ⟨b, rfl, hb, q⟩ := h
  refine ⟨.ref b, rfl, b, 0, 20, rfl, hb, by decide, by decide, fun T a l o t bs pool order H1 o1 b1 eT na nl no ea pa _ el eo et nlo ndp okp pm ofp bl0 pl0 pl1 => ?_⟩
  have gp : Goods pool := fun x hx => (okp x hx).good
  have hpa : PalsAt H1 a (bs.map (·.2)) := ⟨bs, ea, pa, rfl⟩
  have hpo : PalsOk (bs.map (·.2)) := ofp.ok gp
  have irr : Irr (bs.map (·.2)) := ofp.irr
  have hpl : (bs.map (·.2)).length ≤ 1000 := by rw [List.length_map]; exact bl0
  generalize bs.map (·.2) = ps at hpa hpo hpl et irr
  have ndo : order.Nodup := pm.nodup_iff.mpr ndp
  have pms := stand_perm ps order
  have g0 := stand_gone (ps := ps) irr ndo
  have nds : (standOf ps order).Nodup := pms.nodup_iff.mpr ndo
  have oks : ∀ x ∈ standOf ps order, NameOk x := fun x hx => okp x (pm.mem_iff.mp (pms.mem_iff.mp hx))
  have sl : (standOf ps order).length ≤ 20 := by
    rw [pms.length_eq, pm.length_eq]
    exact pl1
  obtain ⟨row, hrow⟩ : ∃ row, standOf ps order = row := ⟨_, rfl⟩
  rw [hrow] at et g0 nds oks sl pms
  have gst : Goods row := fun x hx => (oks x hx).good
  refine ⟨T, _, rfl, .inl (.inl eT), rfl, _, _, rfl, _, _, rfl, _, _, rfl, _, _, rfl, rfl, ?_⟩
  refine ⟨_, rfl, _, rfl, a, t, ps, row, rfl, hpa.fr, hpl, .inl et, nds, by omega, g0, fun to qs H2 s2 nto e2 p2 m2 => ?_⟩
  have lq : qs.length = row.length := by
    have := congrArg List.length m2
    rw [List.length_map] at this
    rw [this]
    unfold hungL
    rw [List.length_map, List.take_of_length_le (Nat.le_refl _)]
  have mq : qs.map (·.2.1) = row := by
    have := congrArg (List.map (·.1)) m2
    rw [List.map_map] at this
    refine this.trans ?_
    unfold hungL
    rw [List.map_map, List.take_of_length_le (Nat.le_refl _)]
    exact List.map_id' row
  -- the dict of hosts
  refine ⟨_, rfl, to, qs.map (·.1), qs.map (fun c => ((Sum.inr c.2.1 : Key), optV c.2.2)), rfl, .inl (.inl (by rw [List.map_map]; exact e2)), ?_, fun Dh hDh => ?_⟩
  · clear e2 m2 lq mq
    induction qs with
    | nil => exact .nil
    | cons c r ih => exact .cons (.inl (.inl (p2 c List.mem_cons_self))) (ih fun q' hq => p2 q' (List.mem_cons_of_mem _ hq))
  have ek : qs.map (fun c => ((Sum.inr c.2.1 : Key), optV c.2.2)) = row.map (fun x => ((Sum.inr x : Key), optV (hostO ps row x))) := by
    have := congrArg (List.map fun p : Str × Option Str => ((Sum.inr p.1 : Key), optV p.2)) m2
    rw [List.map_map] at this
    refine this.trans ?_
    unfold hungL
    rw [List.map_map, List.take_of_length_le (Nat.le_refl _)]
    rfl
  rw [ek, merge_nd _ [] (by
    rw [List.nil_append, List.map_map]
    exact List.Pairwise.map _ (fun a b h e => h (Sum.inr.inj e)) nds), List.nil_append]
  have s3 := same_upd (o := .dK (row.map (fun x => ((Sum.inr x : Key), optV (hostO ps row x))))) hDh
  have dh : HostsD (upd H2 Dh (.dK (row.map (fun x => ((Sum.inr x : Key), optV (hostO ps row x)))))) Dh ps row := ⟨_, upd_same, fun x hx => valV_names hx⟩
  have ed : upd H2 Dh (.dK (row.map (fun x => ((Sum.inr x : Key), optV (hostO ps row x))))) Dh = some (.dK (row.map (fun x => ((Sum.inr x : Key), optV (hostO ps row x))))) := upd_same
  generalize upd H2 Dh (.dK (row.map (fun x => ((Sum.inr x : Key), optV (hostO ps row x))))) = H3 at s3 dh ed
  have s13 := s2.trans s3
  -- who stands there
  refine ⟨fun σ' H' => σ' = [some (.ref b), some (.ref a), some (.ref l), some (.ref o), some (.ref t), some (.ref to), some (.ref Dh), none, none, none, none, none, none, none] ∧ Same H3 H', ?_, ?_⟩
  · refine ⟨_, rfl, to, rfl, ⟨_, .inl (.inl (s3 _ _ e2))⟩, fun L hL => ?_⟩
    refine lc_strs (walk_list (xs := refsO qs)) row (by unfold refsO; rw [List.length_map, lq]) (by unfold refsO; rw [List.length_map]; omega) hL (fun H' s => .inl (.inl (s _ _ (s3 _ _ e2)))) ?_ ?_
    · rintro j x v H5 H5' kk hx s5 ⟨rfl, ex⟩ hk
      obtain ⟨c, hc, rfl⟩ := at_map ex
      have ec : c.2.1 = x := by
        have h1 : (qs.map (·.2.1))[j]? = some c.2.1 := by rw [List.getElem?_map, hc]; rfl
        rw [mq, hx] at h1
        exact (Option.some.inj h1).symm
      refine ⟨c.1, _, rfl, .inl (.inl (s5 _ _ (s3 _ _ (p2 c (List.mem_of_getElem? hc))))), rfl, _, _, rfl, _, _, rfl, rfl, rfl, _, rfl, ?_⟩
      rw [ec]
      exact hk _ (Same.refl _)
    · intro H5 s5 e5
      refine ⟨_, rfl, t, _, rfl, .inr ((et.same s13).same s5).sq, fun L2 hL2 => ?_⟩
      have s6 := same_upd (o := .lst (row.map V.str)) hL2
      refine ⟨_, _, dp_list (s6 _ _ e5), dp_list upd_same, sh_list gst, sh_list gst, _, rfl, ite2 (fun c => ?_) (fun _ => ?_)⟩
      · rw [PyData.eqv, eqv_strs, decide_eq_true rfl] at c
        exact absurd c (by decide)
      · exact ⟨rfl, s5.trans s6⟩
  rintro σ' H4 ⟨rfl, s4⟩
  -- each host stands there, too
  refine ⟨fun σ' H' => σ' = [some (.ref b), some (.ref a), some (.ref l), some (.ref o), some (.ref t), some (.ref to), some (.ref Dh), none, none, none, none, none, none, none] ∧ Same H3 H', ?_, ?_⟩
  · refine ⟨Dh, _, s4 _ _ ed, trivial, fun od => ?_⟩
    refine ⟨.ref Dh, rfl, Dh, od, _, rfl, upd_same, fun L hL => ?_⟩
    refine lc_pick (walk_values (d := Dh) (o := od) (kvs := row.map (fun x => ((Sum.inr x : Key), optV (hostO ps row x))))) row (fun _ => V.bl true) (fun x => (hostO ps row x).isSome) (by rw [List.length_map]) (by rw [List.length_map]; omega) hL (fun H' s => s _ _ upd_same) ?_ ?_
    · rintro i x v H6 H6' kk k0 hx s6 ⟨rfl, kz, ekv⟩ h5 h6
      rw [List.getElem?_map, hx] at ekv
      have ev : v = optV (hostO ps row x) := (congrArg Prod.snd (Option.some.inj ekv)).symm
      subst ev
      refine ⟨rfl, _, rfl, ?_⟩
      cases e : hostO ps row x with
      | none =>
        rw [e] at h5 h6
        exact ⟨_, rfl, h6 rfl _ (Same.refl _)⟩
      | some d =>
        rw [e] at h5 h6
        have hd := (hostO_some nds e).1
        have g : DGet H6' Dh (.str d) (some (optV (hostO ps row d))) := .inl ⟨_, .inr d, .inr ⟨od, s6 _ _ upd_same⟩, rfl, (valV_names (g := fun x => optV (hostO ps row x)) hd).symm⟩
        exact ⟨_, rfl, _, rfl, _, rfl, Dh, _, rfl, g, h5 rfl _ (Same.refl _)⟩
    · intro H6 s6 e6
      have nLD : L ≠ Dh := fun z => by rw [z, upd_same] at hL; cases hL
      refine ⟨s6 _ _ upd_same, L, (List.replicate (row.filter fun x => (hostO ps row x).isSome).length true), rfl, .inl (.inl ?_), ?_⟩
      · rw [upd_ne nLD, e6, List.map_const', List.map_replicate]
      · rw [show (List.replicate (row.filter fun x => (hostO ps row x).isSome).length true).all id = true by simp]
        exact ⟨_, rfl, rfl, s4.trans (same_unlock (s4 _ _ ed) s6)⟩
  rintro σ' H5 ⟨rfl, s5⟩
  have s15 := s13.trans s5
  have b5 := b1.same s15
  have hpa5 := hpa.same s15
  have d5 := dh.same s5
  -- both orders
  refine ⟨.ref o, rfl, _, rfl, _, rfl, _, rfl, b, a, t, ps, row, rfl, b5, hpa5, hpo, irr, et.same s15, gst, nds, by omega, g0, fun la last H7 o7 b7 nla e7 ol7 => ?_⟩
  have t7 := (et.same s15).oth o7 b5
  have eo7 := o7 _ _ (b5.ne_strs (s15 _ _ eo)) (s15 _ _ eo)
  have d7 := d5.oth o7 b5
  have oo : OrdOf ps row order := ⟨ndo, by rw [← hrow]; exact (stand_perm ps order).symm, hrow⟩
  refine ⟨(by show 2 ≤ sizeLine; decide), fun T5 hT5 => ?_⟩
  have sT5 := same_upd (o := .tup [.ref o, .ref la]) hT5
  refine ⟨T5, rfl, ⟨_, .inl (.inl upd_same)⟩, ?_⟩
  have two : ∀ (i : Nat) (v : V), [V.ref o, V.ref la][i]? = some v → ∃ (c : Addr) (ord : List Str), v = .ref c ∧ H7 c = some (.lst (ord.map V.str)) ∧ OrdOf ps row ord := fun i v h => by
    match i, h with
    | 0, h => cases h; exact ⟨o, order, rfl, eo7, oo⟩
    | 1, h => cases h; exact ⟨la, last, rfl, e7, ol7⟩
  refine for_it (walk_tup (xs := [V.ref o, V.ref la])) (fun i σ H' => ∃ (y7 y8 y9 y10 y11 y12 y13 : Option V), σ = [some (.ref b), some (.ref a), some (.ref l), some (.ref o), some (.ref t), some (.ref to), some (.ref Dh), y7, y8, y9, y10, y11, y12, y13] ∧ Same (upd H7 T5 (.tup [.ref o, .ref la])) H') ?_ ?_ ?_ ?_
  · exact ⟨_, _, _, _, _, _, _, rfl, Same.refl _⟩
  · rintro i σ H' _ ⟨y7, y8, y9, y10, y11, y12, y13, _, s6⟩
    exact .inl (.inl (s6 _ _ upd_same))
  · rintro i v σ H8' H8 hi ⟨y7, y8, y9, y10, y11, y12, y13, rfl, s8⟩ ⟨rfl, ex⟩
    obtain ⟨c, ord, rfl, hc, oc⟩ := two i v ex
    have s78 := sT5.trans s8
    refine ⟨_, rfl, _, rfl, Dh, c, ps, row, ord, rfl, d7.same s78, irr, s78 _ _ hc, oc.nd, oc.pm, oc.st, by omega, gst, fun t9 H9 s9 e9 => ?_⟩
    have s79 := s78.trans s9
    refine ⟨_, rfl, t9, t, row, row, rfl, rfl, e9, t7.same s79, gst, gst, _, rfl, ?_⟩
    rw [decide_eq_true rfl]
    refine ⟨_, rfl, t, _, rfl, (t7.same s79).sq, ?_⟩
    refine for_it (walk_enumT (K := K) (a := t) (xs := row.map V.str)) (fun k σ H' => ∃ (y7 y8 y10 y11 y12 y13 : Option V), σ = [some (.ref b), some (.ref a), some (.ref l), some (.ref o), some (.ref t), some (.ref to), some (.ref Dh), y7, y8, some (.ref c), y10, y11, y12, y13] ∧ Same H9 H') ?_ ?_ ?_ ?_
    · exact ⟨_, _, _, _, _, _, rfl, Same.refl _⟩
    · rintro k σ H' _ ⟨y7, y8, y10, y11, y12, y13, _, s6⟩
      exact ((t7.same s79).same s6).sq
    · rintro k v2 σ H10 H11 hk ⟨y7, y8, y10, y11, y12, y13, rfl, s10⟩ ⟨T6, x1, x2, rfl, nT6, rfl, e1, e2'⟩
      cases e1
      obtain ⟨x, hx, rfl⟩ := at_map e2'
      have sT6 := same_upd (o := .tup [.int (k : Nat), .str x]) nT6
      have s711 := (s79.trans s10).trans sT6
      have s911 := s10.trans sT6
      have ik := idx_at nds hx
      have mx := List.mem_of_getElem? hx
      refine ⟨T6, _, rfl, .inl (.inl upd_same), rfl, _, _, rfl, _, _, rfl, rfl, ?_⟩
      generalize upd H10 T6 (.tup [.int (k : Nat), .str x]) = H11 at s711 s911
      have gx : ∀ H', Same H7 H' → DGet H' Dh (.str x) (some (optV (hostO ps row x))) := fun H' s => by
        obtain ⟨kvs, d1, d2⟩ := d7.same s
        exact .inl ⟨kvs, .inr x, .inl d1, rfl, (d2 x mx).symm⟩
      -- low
      obtain ⟨low, hlow⟩ : ∃ low : Nat, low = match hostO ps row x with | none => 0 | some d => row.idxOf d + 1 := ⟨_, rfl⟩
      refine ⟨fun σ' H' => σ' = [some (.ref b), some (.ref a), some (.ref l), some (.ref o), some (.ref t), some (.ref to), some (.ref Dh), some (.str x), y8, some (.ref c), some (.int (k : Nat)), some (.int (low : Nat)), y12, y13] ∧ H' = H11, ?_, ?_⟩
      · refine ⟨_, rfl, _, rfl, Dh, _, rfl, gx _ s711, ?_⟩
        cases e : hostO ps row x with
        | none =>
          rw [e] at hlow
          subst hlow
          exact ⟨_, rfl, rfl, rfl⟩
        | some d =>
          rw [e] at hlow
          subst hlow
          have hd := (hostO_some nds e).1
          refine ⟨_, rfl, _, rfl, ⟨t, _, rfl, t7.same s711⟩, _, rfl, _, rfl, Dh, _, rfl, gx _ s711, ?_⟩
          rw [e]
          exact ⟨t, row, d, row.idxOf d, rfl, rfl, (t7.same s711).sq, ix_at hd, nd_first nds (ix_at hd), _, _, rfl, rfl, rfl, rfl⟩
      rintro σ' H12 ⟨rfl, rfl⟩
      -- who stands between
      refine ⟨_, rfl, _, rfl, (low : Int), rfl, _, rfl, (k : Int), rfl, t, _, rfl, t7.same s711, fun tc H13 s13 e13 => ?_⟩
      rw [cutV_map] at e13
      refine ⟨tc, rfl, ⟨_, e13.sq⟩, fun L hL => ?_⟩
      have cl := cutL_le row (some (low : Int)) (some (k : Int))
      obtain ⟨cut, hcut⟩ : ∃ cut, cutL row (some (low : Int)) (some (k : Int)) = cut := ⟨_, rfl⟩
      rw [hcut] at e13 cl
      refine lc_take (walk_tup (xs := cut.map V.str)) (fun _ => (hostO ps row x).isSome) (by omega) hL (fun H' s => (e13.same s).sq) ?_ ?_
      · rintro j z v H14 H14' kk k0 hz s14 ⟨rfl, ex⟩ h5 h6
        rw [ix_map hz] at ex
        cases ex
        refine ⟨rfl, _, rfl, _, rfl, Dh, _, rfl, gx _ ((s711.trans s13).trans s14), ?_⟩
        cases e : hostO ps row x with
        | none =>
          rw [e] at h5 h6
          exact ⟨_, rfl, h6 rfl _ (Same.refl _)⟩
        | some d =>
          rw [e] at h5 h6
          exact ⟨_, rfl, _, rfl, h5 rfl _ (Same.refl _)⟩
      intro H14 s14 e14
      obtain ⟨btw, hbtw⟩ : ∃ btw, cut.filter (fun _ => (hostO ps row x).isSome) = btw := ⟨_, rfl⟩
      rw [hbtw] at e14
      have bl : btw.length ≤ 100 := by
        rw [← hbtw]
        exact Nat.le_trans (List.length_filter_le _ _) (by omega)
      have bt : ∀ z ∈ btw, ∃ d, hostO ps row x = some d ∧ z ∈ row ∧ row.idxOf d < row.idxOf z ∧ row.idxOf z < row.idxOf x := fun z hz => by
        rw [← hbtw] at hz
        obtain ⟨z1, z2⟩ := List.mem_filter.mp hz
        rw [← hcut] at z1
        cases e : hostO ps row x with
        | none => rw [e] at z2; cases z2
        | some d =>
          rw [e] at hlow
          have hlow : low = row.idxOf d + 1 := hlow
          obtain ⟨m, m1, m2, m3⟩ := mem_cut z1
          have := idx_at nds m1
          exact ⟨d, rfl, List.mem_of_getElem? m1, by omega, by omega⟩
      have s714 := (s711.trans s13).trans s14
      refine ⟨_, rfl, L, rfl, ⟨_, .inl (.inl e14)⟩, fun L2 hL2 => ?_⟩
      refine lc_vals (walk_list (K := K) (xs := btw.map V.str)) (fun _ => V.bl true) (by rw [List.length_map]; omega) hL2 (fun H' s => .inl (.inl (s _ _ e14))) ?_ ?_
      · rintro j v H15 H15' kk hj s15' ⟨rfl, ex⟩ hkk
        obtain ⟨z, hz, rfl⟩ := at_map ex
        obtain ⟨d, e, z1, z2, z3⟩ := bt z (List.mem_of_getElem? hz)
        have gx2 := gx _ (s714.trans s15')
        rw [e] at gx2
        refine ⟨rfl, _, rfl, _, rfl, Dh, _, rfl, gx2, ?_⟩
        refine ⟨_, rfl, _, rfl, Dh, z, ps, row, rfl, d7.same (s714.trans s15'), nds, by omega, z1, fun p16 H16 s16 n16 e16 => ?_⟩
        refine ⟨p16, _, rfl, .inl (.inl (.inl e16)), rfl, flat_strs _, ?_⟩
        show kk (.bl (inV (.str d) _)) _
        rw [inV_strs, decide_eq_true (up_mem irr oc.nd oc.pm oc.st mx e row.length z z1 (List.idxOf_lt_length_of_mem z1) z2 z3)]
        exact hkk _ s16
      intro H15 s15' e15
      rw [trues_all] at e15
      refine ⟨L2, _, rfl, .inl (.inl e15), _, rfl, ?_⟩
      rw [show (List.replicate (btw.map V.str).length true).all id = true by simp]
      have s715 := s714.trans s15'
      refine ⟨_, rfl, L, rfl, ⟨_, .inl (.inl (s15' _ _ e14))⟩, fun L3 hL3 => ?_⟩
      refine lc_vals (walk_list (K := K) (xs := btw.map V.str)) (fun _ => V.bl false) (by rw [List.length_map]; omega) hL3 (fun H' s => .inl (.inl (s _ _ (s15' _ _ e14)))) ?_ ?_
      · rintro j v H16 H16' kk hj s16 ⟨rfl, ex⟩ hkk
        obtain ⟨z, hz, rfl⟩ := at_map ex
        obtain ⟨d, e, z1, z2, z3⟩ := bt z (List.mem_of_getElem? hz)
        have c16 := (s715.trans s16) _ _ hc
        have m1 := oc.pm.mem_iff.mpr z1
        have m2 := oc.pm.mem_iff.mpr mx
        have lt := came_after irr oc.nd oc.pm oc.st mx z1 (.inr ⟨d, e, z2, z3⟩)
        refine ⟨rfl, .ref c, rfl, .inl ⟨rfl, _, .inl (.inl c16)⟩, _, rfl, c, ord, z, ord.idxOf z, rfl, rfl, c16, ix_at m1, nd_first oc.nd (ix_at m1), ?_⟩
        refine ⟨.ref c, rfl, .inl ⟨rfl, _, .inl (.inl c16)⟩, _, rfl, c, ord, x, ord.idxOf x, rfl, rfl, c16, ix_at m2, nd_first oc.nd (ix_at m2), _, _, rfl, rfl, ?_⟩
        show kk (.bl (decide (((ord.idxOf z : Nat) : Int) < ((ord.idxOf x : Nat) : Int)))) _
        rw [decide_eq_false (show ¬ ((ord.idxOf z : Nat) : Int) < ((ord.idxOf x : Nat) : Int) by omega)]
        exact hkk _ (Same.refl _)
      intro H16 s16 e16
      rw [falses_all] at e16
      refine ⟨L3, _, rfl, .inl (.inl e16), _, rfl, ?_⟩
      rw [show (List.replicate (btw.map V.str).length false).any id = false by simp]
      exact ⟨_, _, _, _, _, _, rfl, (s911.trans s13).trans ((s14.trans s15').trans s16)⟩
    · rintro σ H10 ⟨y7, y8, y10, y11, y12, y13, rfl, s10⟩
      exact ⟨_, _, _, _, _, _, _, rfl, (s8.trans s9).trans s10⟩
  rintro σ H8 ⟨y7, y8, y9, y10, y11, y12, y13, rfl, s8⟩
  exact q H8 (((o1.trans (Oth.of s15)).trans o7).trans (Oth.of (sT5.trans s8)))
abbrev sThrough : Stmt := topS 28
/-! ### law -/
abbrev sLaw : Stmt := topS 31
abbrev nLaw : List Str := ["_law_script", "_law_cells_here", "_law_k"]
theorem scLaw : FnScope nLaw ["_law_script"] (defScope sLaw) := ⟨rfl, rfl, rfl, by decide +kernel, rfl, by decide +kernel, by decide +kernel⟩
theorem ok_law {f : Addr} {fd : FuncData} {n : Nat} (B : Blt mg) (CC : Cal P w K mg base 1 "_law_cells" ["_law_script", "_law_utmost"] (spCells K)) (CX : Cal P w K mg base 1 "_law_box" ["_law_cells_here", "_law_k"] spBox) (CR : Cal P w K mg base (n + 1) "_law_right" ["_law_box_here"] spRight) (F : Fun K "law" "law" sLaw f fd) : FnOk P w K mg base CX0 (n + 2) f fd ["_law_script"] (spLaw K) := by
  refine fok F scLaw (fun vs H Q E h => ?_) (fun cdv A outer s H vs Q E hr h => ?_)
  · obtain ⟨a, ns, rfl, _⟩ := h
    rfl
  obtain ⟨a, ns, rfl, ha, hn, q⟩ := h
  have h1 : Room 1 _ := hr.mono (by omega)
  refine ⟨_, pss_cons (ps_set (i := 1) scLaw.nd rfl (.inl rfl) (pe_cal CC h1 (pa_cons (pv 0) (pa_cons pe_int pa_nil))))
    (pss_cons (ps_for PassesOwn.never rfl (pi_range1 (by rfl) B.range (pa_cons (pe_callB call_len_seq (by rfl) B.len PySem.boot_len (pa_cons (pv 1) pa_nil)) pa_nil)) (pg_name (i := 2) scLaw.nd rfl (.inl rfl))
      (pss_one (ps_if (pt_not (pt_val (pe_cal CR hr (pa_cons (pe_cal CX h1 (pa_cons (pv 1) (pa_cons (pv 2) pa_nil))) pa_nil)))) (pss_one (ps_ret pe_bl)) pss_nil)))
    (pss_one (ps_ret pe_bl))), ?_⟩
  refine ⟨.ref a, rfl, a, ns, _, rfl, ha, hn, by decide, by decide, fun c ms H1 s1 nc e1 m0 m3 => ?_⟩
  refine ⟨.ref c, rfl, c, _, rfl, .inl (.inl (.inl e1)), _, rfl, ?_, ?_, ?_⟩
  · rw [List.length_map]
    omega
  · rw [List.length_map]
    omega
  rw [List.length_map]
  refine for_it (walk_range (lo := 0) (n := ((ms.length : Int)).toNat)) (fun i σ H' => ∃ y2, σ = [some (.ref a), some (.ref c), y2] ∧ H' c = some (.lst (ms.map V.int))) ?_ (fun _ _ _ _ _ => trivial) ?_ ?_
  · exact ⟨_, rfl, e1⟩
  · rintro i x σ H3 H2 hi ⟨y2, rfl, e2⟩ ⟨rfl, rfl⟩
    have ei : (0 : Int) + (i : Int) = (i : Int) := Int.zero_add _
    refine ⟨.ref c, rfl, _, rfl, c, ms, i, congrArg (fun z => [V.ref c, V.int z]) ei, e2, by omega, by omega, fun b H4 s4 nb b4 => ?_⟩
    have c4 := s4 _ _ e2
    have ncb : c ≠ b := ne_of_none e2 nb
    exact ⟨b, rfl, b4, fun H5 o5 => ⟨true, rfl, _, rfl, o5 _ _ ncb c4⟩⟩
  · rintro σ H2 ⟨y2, rfl, e2⟩
    exact q _
end
/-! ### what the top has written; the law's own head -/
theorem all_mk {l : PySem.W.OpenLaw} {w : World} {K : PySem.W.Frag} {h : Heap} {mg : Str → Option Value} {fa f1 f2 f3 f4 f5 f6 f7 f8 f9 f10 f11 f12 f13 f14 f15 f16 f17 f18 f19 f20 f21 f22 f23 f24 : Addr} (XK : K.In h) (G : h.Ns mainGlobals mg) (hfa : mg "law" = some (.ref fa))
    {od1 an1 od2 an2 od3 an3 od4 an4 od5 an5 od6 an6 od7 an7 od8 an8 od9 an9 od10 an10 od11 an11 od12 an12 od13 an13 od14 an14 od15 an15 od16 an16 od17 an17 od18 an18 od19 an19 od20 an20 od21 an21 od22 an22 od23 an23 od24 an24 : Option Addr} {sl1 sl2 sl3 sl4 sl5 sl6 sl7 sl8 sl9 sl10 sl11 sl12 sl13 sl14 sl15 sl16 sl17 sl18 sl19 sl20 sl21 sl22 sl23 sl24 : Array (Option Value)} {oc1 kV1 dc1 pm1 cd1 ct1 oc2 kV2 dc2 pm2 cd2 ct2 oc3 kV3 dc3 pm3 cd3 ct3 oc4 kV4 dc4 pm4 cd4 ct4 oc5 kV5 dc5 pm5 cd5 ct5 oc6 kV6 dc6 pm6 cd6 ct6 oc7 kV7 dc7 pm7 cd7 ct7 oc8 kV8 dc8 pm8 cd8 ct8 oc9 kV9 dc9 pm9 cd9 ct9 oc10 kV10 dc10 pm10 cd10 ct10 oc11 kV11 dc11 pm11 cd11 ct11 oc12 kV12 dc12 pm12 cd12 ct12 oc13 kV13 dc13 pm13 cd13 ct13 oc14 kV14 dc14 pm14 cd14 ct14 oc15 kV15 dc15 pm15 cd15 ct15 oc16 kV16 dc16 pm16 cd16 ct16 oc17 kV17 dc17 pm17 cd17 ct17 oc18 kV18 dc18 pm18 cd18 ct18 oc19 kV19 dc19 pm19 cd19 ct19 oc20 kV20 dc20 pm20 cd20 ct20 oc21 kV21 dc21 pm21 cd21 ct21 oc22 kV22 dc22 pm22 cd22 ct22 oc23 kV23 dc23 pm23 cd23 ct23 oc24 kV24 dc24 pm24 cd24 ct24 : Value}
    (a1 : PySem.W.nsIn K mainGlobals "both_ways" = some (some (.ref f1))) (l1 : K.lookup f1 = some ⟨oc1, od1, .func (PySem.W.fnOf "both_ways" "both_ways" (defArgs sBoth) (defBody sBoth) (defScope sBoth) .none kV1 dc1 pm1 an1 cd1 ct1), sl1⟩) (c1 : PySem.W.codeIn K cd1 "both_ways" = true) (k1 : PySem.W.keepIn K (.ref f1) = true)
    (a2 : PySem.W.nsIn K mainGlobals "last_friend_place" = some (some (.ref f2))) (l2 : K.lookup f2 = some ⟨oc2, od2, .func (PySem.W.fnOf "last_friend_place" "last_friend_place" (defArgs sLfp) (defBody sLfp) (defScope sLfp) .none kV2 dc2 pm2 an2 cd2 ct2), sl2⟩) (c2 : PySem.W.codeIn K cd2 "last_friend_place" = true) (k2 : PySem.W.keepIn K (.ref f2) = true)
    (a3 : PySem.W.nsIn K mainGlobals "loose_at" = some (some (.ref f3))) (l3 : K.lookup f3 = some ⟨oc3, od3, .func (PySem.W.fnOf "loose_at" "loose_at" (defArgs sLooseAt) (defBody sLooseAt) (defScope sLooseAt) .none kV3 dc3 pm3 an3 cd3 ct3), sl3⟩) (c3 : PySem.W.codeIn K cd3 "loose_at" = true) (k3 : PySem.W.keepIn K (.ref f3) = true)
    (a4 : PySem.W.nsIn K mainGlobals "hindmost_loose" = some (some (.ref f4))) (l4 : K.lookup f4 = some ⟨oc4, od4, .func (PySem.W.fnOf "hindmost_loose" "hindmost_loose" (defArgs sHind) (defBody sHind) (defScope sHind) .none kV4 dc4 pm4 an4 cd4 ct4), sl4⟩) (c4 : PySem.W.codeIn K cd4 "hindmost_loose" = true) (k4 : PySem.W.keepIn K (.ref f4) = true)
    (a5 : PySem.W.nsIn K mainGlobals "gone_and_stayed" = some (some (.ref f5))) (l5 : K.lookup f5 = some ⟨oc5, od5, .func (PySem.W.fnOf "gone_and_stayed" "gone_and_stayed" (defArgs sStayed) (defBody sStayed) (defScope sStayed) .none kV5 dc5 pm5 an5 cd5 ct5), sl5⟩) (c5 : PySem.W.codeIn K cd5 "gone_and_stayed" = true) (k5 : PySem.W.keepIn K (.ref f5) = true)
    (a6 : PySem.W.nsIn K mainGlobals "gone_and_left" = some (some (.ref f6))) (l6 : K.lookup f6 = some ⟨oc6, od6, .func (PySem.W.fnOf "gone_and_left" "gone_and_left" (defArgs sGone) (defBody sGone) (defScope sGone) .none kV6 dc6 pm6 an6 cd6 ct6), sl6⟩) (c6 : PySem.W.codeIn K cd6 "gone_and_left" = true) (k6 : PySem.W.keepIn K (.ref f6) = true)
    (a7 : PySem.W.nsIn K mainGlobals "some_order" = some (some (.ref f7))) (l7 : K.lookup f7 = some ⟨oc7, od7, .func (PySem.W.fnOf "some_order" "some_order" (defArgs sSomeO) (defBody sSomeO) (defScope sSomeO) .none kV7 dc7 pm7 an7 cd7 ct7), sl7⟩) (c7 : PySem.W.codeIn K cd7 "some_order" = true) (k7 : PySem.W.keepIn K (.ref f7) = true)
    (a8 : PySem.W.nsIn K mainGlobals "hung" = some (some (.ref f8))) (l8 : K.lookup f8 = some ⟨oc8, od8, .func (PySem.W.fnOf "hung" "hung" (defArgs sHung) (defBody sHung) (defScope sHung) .none kV8 dc8 pm8 an8 cd8 ct8), sl8⟩) (c8 : PySem.W.codeIn K cd8 "hung" = true) (k8 : PySem.W.keepIn K (.ref f8) = true)
    (a9 : PySem.W.nsIn K mainGlobals "_law_box" = some (some (.ref f9))) (l9 : K.lookup f9 = some ⟨oc9, od9, .func (PySem.W.fnOf "_law_box" "_law_box" (defArgs sBox) (defBody sBox) (defScope sBox) .none kV9 dc9 pm9 an9 cd9 ct9), sl9⟩) (c9 : PySem.W.codeIn K cd9 "_law_box" = true) (k9 : PySem.W.keepIn K (.ref f9) = true)
    (a10 : PySem.W.nsIn K mainGlobals "_law_take" = some (some (.ref f10))) (l10 : K.lookup f10 = some ⟨oc10, od10, .func (PySem.W.fnOf "_law_take" "_law_take" (defArgs sTake) (defBody sTake) (defScope sTake) .none kV10 dc10 pm10 an10 cd10 ct10), sl10⟩) (c10 : PySem.W.codeIn K cd10 "_law_take" = true) (k10 : PySem.W.keepIn K (.ref f10) = true)
    (a11 : PySem.W.nsIn K mainGlobals "_law_cells" = some (some (.ref f11))) (l11 : K.lookup f11 = some ⟨oc11, od11, .func (PySem.W.fnOf "_law_cells" "_law_cells" (defArgs sCells) (defBody sCells) (defScope sCells) .none kV11 dc11 pm11 an11 cd11 ct11), sl11⟩) (c11 : PySem.W.codeIn K cd11 "_law_cells" = true) (k11 : PySem.W.keepIn K (.ref f11) = true)
    (a12 : PySem.W.nsIn K mainGlobals "_law_names" = some (some (.ref f12))) (l12 : K.lookup f12 = some ⟨oc12, od12, .func (PySem.W.fnOf "_law_names" "_law_names" (defArgs sNames) (defBody sNames) (defScope sNames) .none kV12 dc12 pm12 an12 cd12 ct12), sl12⟩) (c12 : PySem.W.codeIn K cd12 "_law_names" = true) (k12 : PySem.W.keepIn K (.ref f12) = true)
    (a13 : PySem.W.nsIn K mainGlobals "_law_pals" = some (some (.ref f13))) (l13 : K.lookup f13 = some ⟨oc13, od13, .func (PySem.W.fnOf "_law_pals" "_law_pals" (defArgs sPals) (defBody sPals) (defScope sPals) .none kV13 dc13 pm13 an13 cd13 ct13), sl13⟩) (c13 : PySem.W.codeIn K cd13 "_law_pals" = true) (k13 : PySem.W.keepIn K (.ref f13) = true)
    (a14 : PySem.W.nsIn K mainGlobals "_law_are" = some (some (.ref f14))) (l14 : K.lookup f14 = some ⟨oc14, od14, .func (PySem.W.fnOf "_law_are" "_law_are" (defArgs sAre) (defBody sAre) (defScope sAre) .none kV14 dc14 pm14 an14 cd14 ct14), sl14⟩) (c14 : PySem.W.codeIn K cd14 "_law_are" = true) (k14 : PySem.W.keepIn K (.ref f14) = true)
    (a15 : PySem.W.nsIn K mainGlobals "_law_come" = some (some (.ref f15))) (l15 : K.lookup f15 = some ⟨oc15, od15, .func (PySem.W.fnOf "_law_come" "_law_come" (defArgs sCome) (defBody sCome) (defScope sCome) .none kV15 dc15 pm15 an15 cd15 ct15), sl15⟩) (c15 : PySem.W.codeIn K cd15 "_law_come" = true) (k15 : PySem.W.keepIn K (.ref f15) = true)
    (a16 : PySem.W.nsIn K mainGlobals "_law_stand_of" = some (some (.ref f16))) (l16 : K.lookup f16 = some ⟨oc16, od16, .func (PySem.W.fnOf "_law_stand_of" "_law_stand_of" (defArgs sStandOf) (defBody sStandOf) (defScope sStandOf) .none kV16 dc16 pm16 an16 cd16 ct16), sl16⟩) (c16 : PySem.W.codeIn K cd16 "_law_stand_of" = true) (k16 : PySem.W.keepIn K (.ref f16) = true)
    (a17 : PySem.W.nsIn K mainGlobals "_law_strewn" = some (some (.ref f17))) (l17 : K.lookup f17 = some ⟨oc17, od17, .func (PySem.W.fnOf "_law_strewn" "_law_strewn" (defArgs sStrewn) (defBody sStrewn) (defScope sStrewn) .none kV17 dc17 pm17 an17 cd17 ct17), sl17⟩) (c17 : PySem.W.codeIn K cd17 "_law_strewn" = true) (k17 : PySem.W.keepIn K (.ref f17) = true)
    (a18 : PySem.W.nsIn K mainGlobals "_law_world" = some (some (.ref f18))) (l18 : K.lookup f18 = some ⟨oc18, od18, .func (PySem.W.fnOf "_law_world" "_law_world" (defArgs sWorld) (defBody sWorld) (defScope sWorld) .none kV18 dc18 pm18 an18 cd18 ct18), sl18⟩) (c18 : PySem.W.codeIn K cd18 "_law_world" = true) (k18 : PySem.W.keepIn K (.ref f18) = true)
    (a19 : PySem.W.nsIn K mainGlobals "_law_loose" = some (some (.ref f19))) (l19 : K.lookup f19 = some ⟨oc19, od19, .func (PySem.W.fnOf "_law_loose" "_law_loose" (defArgs sLoose) (defBody sLoose) (defScope sLoose) .none kV19 dc19 pm19 an19 cd19 ct19), sl19⟩) (c19 : PySem.W.codeIn K cd19 "_law_loose" = true) (k19 : PySem.W.keepIn K (.ref f19) = true)
    (a20 : PySem.W.nsIn K mainGlobals "_law_other" = some (some (.ref f20))) (l20 : K.lookup f20 = some ⟨oc20, od20, .func (PySem.W.fnOf "_law_other" "_law_other" (defArgs sOther) (defBody sOther) (defScope sOther) .none kV20 dc20 pm20 an20 cd20 ct20), sl20⟩) (c20 : PySem.W.codeIn K cd20 "_law_other" = true) (k20 : PySem.W.keepIn K (.ref f20) = true)
    (a21 : PySem.W.nsIn K mainGlobals "_law_gone_through" = some (some (.ref f21))) (l21 : K.lookup f21 = some ⟨oc21, od21, .func (PySem.W.fnOf "_law_gone_through" "_law_gone_through" (defArgs sThrough) (defBody sThrough) (defScope sThrough) .none kV21 dc21 pm21 an21 cd21 ct21), sl21⟩) (c21 : PySem.W.codeIn K cd21 "_law_gone_through" = true) (k21 : PySem.W.keepIn K (.ref f21) = true)
    (a22 : PySem.W.nsIn K mainGlobals "_law_let_in" = some (some (.ref f22))) (l22 : K.lookup f22 = some ⟨oc22, od22, .func (PySem.W.fnOf "_law_let_in" "_law_let_in" (defArgs sLetUp) (defBody sLetUp) (defScope sLetUp) .none kV22 dc22 pm22 an22 cd22 ct22), sl22⟩) (c22 : PySem.W.codeIn K cd22 "_law_let_in" = true) (k22 : PySem.W.keepIn K (.ref f22) = true)
    (a23 : PySem.W.nsIn K mainGlobals "_law_right" = some (some (.ref f23))) (l23 : K.lookup f23 = some ⟨oc23, od23, .func (PySem.W.fnOf "_law_right" "_law_right" (defArgs sRight) (defBody sRight) (defScope sRight) .none kV23 dc23 pm23 an23 cd23 ct23), sl23⟩) (c23 : PySem.W.codeIn K cd23 "_law_right" = true) (k23 : PySem.W.keepIn K (.ref f23) = true)
    (a24 : PySem.W.nsIn K mainGlobals "law" = some (some (.ref f24))) (l24 : K.lookup f24 = some ⟨oc24, od24, .func (PySem.W.fnOf "law" "law" (defArgs sLaw) (defBody sLaw) (defScope sLaw) .none kV24 dc24 pm24 an24 cd24 ct24), sl24⟩) (c24 : PySem.W.codeIn K cd24 "law" = true) (k24 : PySem.W.keepIn K (.ref f24) = true)
    (z1 : PySem.W.nsIn K mainGlobals "len" = some none)
    (z2 : PySem.W.nsIn K mainGlobals "abs" = some none)
    (z3 : PySem.W.nsIn K mainGlobals "int" = some none)
    (z4 : PySem.W.nsIn K mainGlobals "list" = some none)
    (z5 : PySem.W.nsIn K mainGlobals "tuple" = some none)
    (z6 : PySem.W.nsIn K mainGlobals "enumerate" = some none)
    (z7 : PySem.W.nsIn K mainGlobals "range" = some none)
    (z8 : PySem.W.nsIn K mainGlobals "min" = some none)
    (z9 : PySem.W.nsIn K mainGlobals "max" = some none)
    (z10 : PySem.W.nsIn K mainGlobals "sorted" = some none)
    (z11 : PySem.W.nsIn K mainGlobals "isinstance" = some none)
    (z12 : PySem.W.nsIn K mainGlobals "zip" = some none)
    (z13 : PySem.W.nsIn K mainGlobals "all" = some none)
    (z14 : PySem.W.nsIn K mainGlobals "str" = some none)
    (z15 : PySem.W.nsIn K mainGlobals "bool" = some none)
    (z16 : PySem.W.nsIn K mainGlobals "any" = some none)
    (z17 : PySem.W.nsIn K mainGlobals "repr" = some none)
    (z18 : PySem.W.nsIn K mainGlobals "set" = some none)
    (z19 : PySem.W.nsIn K mainGlobals "sum" = some none)
    (z20 : PySem.W.nsIn K mainGlobals "reversed" = some none)
    (z21 : PySem.W.nsIn K mainGlobals "dict" = some none)
    : ∃ fd : FuncData, (∀ (s : Shared) (v : Value), BindsTo s fd ⟨[v], []⟩ [("_law_script", v)]) ∧ ∀ base : Heap, K.In base → base.Ns mainGlobals mg → FnOk l.prog w K mg base CX0 9 fa fd ["_law_script"] (spLaw K) := by
  have e := hfa.symm.trans (PySem.W.mg_of XK G a24)
  cases e
  have FBo := fun_mk (st := sBoth) l1 c1 k1
  have gBo := PySem.W.mg_of XK G a1
  have bBo := FBo.binds (ps := ["friends"]) fun _ _ _ _ _ _ us hl => match us, hl with | [_], _ => rfl
  have FL := fun_mk (st := sLfp) l2 c2 k2
  have gL := PySem.W.mg_of XK G a2
  have bL := FL.binds (ps := ["known", "row", "who"]) fun _ _ _ _ _ _ us hl => match us, hl with | [_, _, _], _ => rfl
  have FLa := fun_mk (st := sLooseAt) l3 c3 k3
  have gLa := PySem.W.mg_of XK G a3
  have bLa := FLa.binds (ps := ["known", "row", "place"]) fun _ _ _ _ _ _ us hl => match us, hl with | [_, _, _], _ => rfl
  have FHl := fun_mk (st := sHind) l4 c4 k4
  have gHl := PySem.W.mg_of XK G a4
  have bHl := FHl.binds (ps := ["known", "row", "but"]) fun _ _ _ _ _ _ us hl => match us, hl with | [_, _, _], _ => rfl
  have FGs := fun_mk (st := sStayed) l5 c5 k5
  have gGs := PySem.W.mg_of XK G a5
  have bGs := FGs.binds (ps := ["known", "row", "but"]) fun _ _ _ _ _ _ us hl => match us, hl with | [_, _, _], _ => rfl
  have FGl := fun_mk (st := sGone) l6 c6 k6
  have gGl := PySem.W.mg_of XK G a6
  have bGl := FGl.binds (ps := ["friends", "row", "but"]) fun _ _ _ _ _ _ us hl => match us, hl with | [_, _, _], _ => rfl
  have FSo := fun_mk (st := sSomeO) l7 c7 k7
  have gSo := PySem.W.mg_of XK G a7
  have bSo := FSo.binds (ps := ["friends", "row"]) fun _ _ _ _ _ _ us hl => match us, hl with | [_, _], _ => rfl
  have FHu := fun_mk (st := sHung) l8 c8 k8
  have gHu := PySem.W.mg_of XK G a8
  have bHu := FHu.binds (ps := ["friends", "row"]) fun _ _ _ _ _ _ us hl => match us, hl with | [_, _], _ => rfl
  have FX := fun_mk (st := sBox) l9 c9 k9
  have gX := PySem.W.mg_of XK G a9
  have bX := FX.binds (ps := ["_law_cells_here", "_law_k"]) fun _ _ _ _ _ _ us hl => match us, hl with | [_, _], _ => rfl
  have FT := fun_mk (st := sTake) l10 c10 k10
  have gT := PySem.W.mg_of XK G a10
  have bT := FT.binds (ps := ["_law_box_here", "_law_many"]) fun _ _ _ _ _ _ us hl => match us, hl with | [_, _], _ => rfl
  have FC := fun_mk (st := sCells) l11 c11 k11
  have gC := PySem.W.mg_of XK G a11
  have bC := FC.binds (ps := ["_law_script", "_law_utmost"]) fun _ _ _ _ _ _ us hl => match us, hl with | [_, _], _ => rfl
  have FN := fun_mk (st := sNames) l12 c12 k12
  have gN := PySem.W.mg_of XK G a12
  have bN := FN.binds (ps := ["_law_box_here", "_law_many"]) fun _ _ _ _ _ _ us hl => match us, hl with | [_, _], _ => rfl
  have FP := fun_mk (st := sPals) l13 c13 k13
  have gP := PySem.W.mg_of XK G a13
  have bP := FP.binds (ps := ["_law_box_here", "_law_pool"]) fun _ _ _ _ _ _ us hl => match us, hl with | [_, _], _ => rfl
  have FA := fun_mk (st := sAre) l14 c14 k14
  have gA := PySem.W.mg_of XK G a14
  have bA := FA.binds (ps := ["_law_pals_here", "_law_mine", "_law_its"]) fun _ _ _ _ _ _ us hl => match us, hl with | [_, _, _], _ => rfl
  have FCo := fun_mk (st := sCome) l15 c15 k15
  have gCo := PySem.W.mg_of XK G a15
  have bCo := FCo.binds (ps := ["_law_pals_here", "_law_stand", "_law_name"]) fun _ _ _ _ _ _ us hl => match us, hl with | [_, _, _], _ => rfl
  have FS := fun_mk (st := sStandOf) l16 c16 k16
  have gS := PySem.W.mg_of XK G a16
  have bS := FS.binds (ps := ["_law_pals_here", "_law_some"]) fun _ _ _ _ _ _ us hl => match us, hl with | [_, _], _ => rfl
  have FW := fun_mk (st := sStrewn) l17 c17 k17
  have gW := PySem.W.mg_of XK G a17
  have bW := FW.binds (ps := ["_law_box_here", "_law_some"]) fun _ _ _ _ _ _ us hl => match us, hl with | [_, _], _ => rfl
  have FWd := fun_mk (st := sWorld) l18 c18 k18
  have gWd := PySem.W.mg_of XK G a18
  have bWd := FWd.binds (ps := ["_law_box_here", "_law_least", "_law_utmost"]) fun _ _ _ _ _ _ us hl => match us, hl with | [_, _, _], _ => rfl
  have FLl := fun_mk (st := sLoose) l19 c19 k19
  have gLl := PySem.W.mg_of XK G a19
  have bLl := FLl.binds (ps := ["_law_pals_here", "_law_stand", "_law_name"]) fun _ _ _ _ _ _ us hl => match us, hl with | [_, _, _], _ => rfl
  have FOt := fun_mk (st := sOther) l20 c20 k20
  have gOt := PySem.W.mg_of XK G a20
  have bOt := FOt.binds (ps := ["_law_box_here", "_law_pals_here", "_law_stand"]) fun _ _ _ _ _ _ us hl => match us, hl with | [_, _, _], _ => rfl
  have FGt := fun_mk (st := sThrough) l21 c21 k21
  have gGt := PySem.W.mg_of XK G a21
  have bGt := FGt.binds (ps := ["_law_hosts", "_law_some"]) fun _ _ _ _ _ _ us hl => match us, hl with | [_, _], _ => rfl
  have FLup := fun_mk (st := sLetUp) l22 c22 k22
  have gLup := PySem.W.mg_of XK G a22
  have bLup := FLup.binds (ps := ["_law_hosts", "_law_name"]) fun _ _ _ _ _ _ us hl => match us, hl with | [_, _], _ => rfl
  have FR := fun_mk (st := sRight) l23 c23 k23
  have gR := PySem.W.mg_of XK G a23
  have bR := FR.binds (ps := ["_law_box_here"]) fun _ _ _ _ _ _ us hl => match us, hl with | [_], _ => rfl
  have FLaw := fun_mk (st := sLaw) l24 c24 k24
  have gLaw := PySem.W.mg_of XK G a24
  have bLaw := FLaw.binds (ps := ["_law_script"]) fun _ _ _ _ _ _ us hl => match us, hl with | [_], _ => rfl
  have B : Blt mg := ⟨PySem.W.mg_none_of XK G z1, PySem.W.mg_none_of XK G z2, PySem.W.mg_none_of XK G z3, PySem.W.mg_none_of XK G z4, PySem.W.mg_none_of XK G z5, PySem.W.mg_none_of XK G z6, PySem.W.mg_none_of XK G z7, PySem.W.mg_none_of XK G z8, PySem.W.mg_none_of XK G z9, PySem.W.mg_none_of XK G z10, PySem.W.mg_none_of XK G z11, PySem.W.mg_none_of XK G z12, PySem.W.mg_none_of XK G z13, PySem.W.mg_none_of XK G z14, PySem.W.mg_none_of XK G z15, PySem.W.mg_none_of XK G z16, PySem.W.mg_none_of XK G z17, PySem.W.mg_none_of XK G z18, PySem.W.mg_none_of XK G z19, PySem.W.mg_none_of XK G z20, PySem.W.mg_none_of XK G z21⟩
  refine ⟨PySem.W.fnOf "law" "law" (defArgs sLaw) (defBody sLaw) (defScope sLaw) .none kV24 dc24 pm24 an24 cd24 ct24, fun s v => .of_eq rfl, fun base _ _ => ?_⟩
  have cBo : Cal l.prog w K mg base 1 "both_ways" _ spBoth := ⟨_, _, ok_both FBo, gBo, FBo.kp, bBo⟩
  have cL : Cal l.prog w K mg base 1 "last_friend_place" _ spLfp := ⟨_, _, ok_lfp B FL, gL, FL.kp, bL⟩
  have cLa : Cal l.prog w K mg base 2 "loose_at" _ spLooseAt := ⟨_, _, ok_looseAt B cL FLa, gLa, FLa.kp, bLa⟩
  have cHl : Cal l.prog w K mg base 3 "hindmost_loose" _ (spHind K) := ⟨_, _, ok_hind B cLa FHl, gHl, FHl.kp, bHl⟩
  have cGs : Cal l.prog w K mg base 4 "gone_and_stayed" _ (spStayed K) := ⟨_, _, ok_stayed B cHl FGs, gGs, FGs.kp, bGs⟩
  have cGl : Cal l.prog w K mg base 5 "gone_and_left" _ (spGone K) := ⟨_, _, ok_gone cBo cGs FGl, gGl, FGl.kp, bGl⟩
  have cSo : Cal l.prog w K mg base 6 "some_order" _ spSomeO := ⟨_, _, ok_someO cGl FSo, gSo, FSo.kp, bSo⟩
  have cHu : Cal l.prog w K mg base 7 "hung" _ spHung := ⟨_, _, ok_hung B cSo cBo cL FHu, gHu, FHu.kp, bHu⟩
  have cX : Cal l.prog w K mg base 1 "_law_box" _ spBox := ⟨_, _, ok_box B FX, gX, FX.kp, bX⟩
  have cT : Cal l.prog w K mg base 1 "_law_take" _ spTake := ⟨_, _, ok_take FT, gT, FT.kp, bT⟩
  have cC : Cal l.prog w K mg base 1 "_law_cells" _ (spCells K) := ⟨_, _, ok_cells B FC, gC, FC.kp, bC⟩
  have cN : Cal l.prog w K mg base 2 "_law_names" _ spNames := ⟨_, _, ok_names B cT FN, gN, FN.kp, bN⟩
  have cP : Cal l.prog w K mg base 2 "_law_pals" _ spPals := ⟨_, _, ok_pals B cT FP, gP, FP.kp, bP⟩
  have cA : Cal l.prog w K mg base 1 "_law_are" _ spAre := ⟨_, _, ok_are B FA, gA, FA.kp, bA⟩
  have cCo : Cal l.prog w K mg base 2 "_law_come" _ spCome := ⟨_, _, ok_come B cA FCo, gCo, FCo.kp, bCo⟩
  have cS : Cal l.prog w K mg base 3 "_law_stand_of" _ spStandOf := ⟨_, _, ok_standOf cCo FS, gS, FS.kp, bS⟩
  have cW : Cal l.prog w K mg base 2 "_law_strewn" _ spStrewn := ⟨_, _, ok_strewn B cT FW, gW, FW.kp, bW⟩
  have cWd : Cal l.prog w K mg base 4 "_law_world" _ spWorld := ⟨_, _, ok_world cT cN cP cS cW FWd, gWd, FWd.kp, bWd⟩
  have cLl : Cal l.prog w K mg base 3 "_law_loose" _ spLoose := ⟨_, _, ok_loose cCo FLl, gLl, FLl.kp, bLl⟩
  have cOt : Cal l.prog w K mg base 4 "_law_other" _ spOther := ⟨_, _, ok_other B cLl cT FOt, gOt, FOt.kp, bOt⟩
  have cGt : Cal l.prog w K mg base 1 "_law_gone_through" _ spByHosts := ⟨_, _, ok_byHosts B FGt, gGt, FGt.kp, bGt⟩
  have cLup : Cal l.prog w K mg base 1 "_law_let_in" _ spLetUp := ⟨_, _, ok_letUp B FLup, gLup, FLup.kp, bLup⟩
  have cR : Cal l.prog w K mg base 8 "_law_right" _ spRight := ⟨_, _, ok_right B cGt cLup cOt cWd cHu FR, gR, FR.kp, bR⟩
  exact ok_law B cC cX cR FLaw
end Lk
open PySem PySem.W PyProof.Rows
set_option maxRecDepth 100000 in
set_option maxHeartbeats 0 in
theorem PySem.Challenge.cw_letinrow_k81_whole_the_row_is_its_tree_o_holds : PySem.Challenge.rw_letinrow_k81_whole_the_row_is_its_tree_o.Holds := by
  w_on; o_law; k_head; (case hw => w_witness2)
  k_fill
  refine Lk.walk_law (l := PySem.Challenge.rw_letinrow_k81_whole_the_row_is_its_tree_o) (n := 63) (k := 9) (x := "_law_script") (sp := fun w => Lk.spLaw _) rfl (by decide) rfl ⟨rfl, by decide, by decide⟩ (fun w h Y => PySem.W.kIn_of Y) ?F (fun _ _ a ns hl hS => ⟨a, ns, rfl, hS, hl, fun _ => rfl⟩)
  case F =>
    intro w mg fa h KX G hmg
    refine' Lk.all_mk KX G hmg ?a1 ?l1 ?c1 ?k1 ?a2 ?l2 ?c2 ?k2 ?a3 ?l3 ?c3 ?k3 ?a4 ?l4 ?c4 ?k4 ?a5 ?l5 ?c5 ?k5 ?a6 ?l6 ?c6 ?k6 ?a7 ?l7 ?c7 ?k7 ?a8 ?l8 ?c8 ?k8 ?a9 ?l9 ?c9 ?k9 ?a10 ?l10 ?c10 ?k10 ?a11 ?l11 ?c11 ?k11 ?a12 ?l12 ?c12 ?k12 ?a13 ?l13 ?c13 ?k13 ?a14 ?l14 ?c14 ?k14 ?a15 ?l15 ?c15 ?k15 ?a16 ?l16 ?c16 ?k16 ?a17 ?l17 ?c17 ?k17 ?a18 ?l18 ?c18 ?k18 ?a19 ?l19 ?c19 ?k19 ?a20 ?l20 ?c20 ?k20 ?a21 ?l21 ?c21 ?k21 ?a22 ?l22 ?c22 ?k22 ?a23 ?l23 ?c23 ?k23 ?a24 ?l24 ?c24 ?k24 ?z1 ?z2 ?z3 ?z4 ?z5 ?z6 ?z7 ?z8 ?z9 ?z10 ?z11 ?z12 ?z13 ?z14 ?z15 ?z16 ?z17 ?z18 ?z19 ?z20 ?z21
    (case a1 => k_is); (case l1 => k_is); (case c1 => k_is); (case k1 => k_is)
    (case a2 => k_is); (case l2 => k_is); (case c2 => k_is); (case k2 => k_is)
    (case a3 => k_is); (case l3 => k_is); (case c3 => k_is); (case k3 => k_is)
    (case a4 => k_is); (case l4 => k_is); (case c4 => k_is); (case k4 => k_is)
    (case a5 => k_is); (case l5 => k_is); (case c5 => k_is); (case k5 => k_is)
    (case a6 => k_is); (case l6 => k_is); (case c6 => k_is); (case k6 => k_is)
    (case a7 => k_is); (case l7 => k_is); (case c7 => k_is); (case k7 => k_is)
    (case a8 => k_is); (case l8 => k_is); (case c8 => k_is); (case k8 => k_is)
    (case a9 => k_is); (case l9 => k_is); (case c9 => k_is); (case k9 => k_is)
    (case a10 => k_is); (case l10 => k_is); (case c10 => k_is); (case k10 => k_is)
    (case a11 => k_is); (case l11 => k_is); (case c11 => k_is); (case k11 => k_is)
    (case a12 => k_is); (case l12 => k_is); (case c12 => k_is); (case k12 => k_is)
    (case a13 => k_is); (case l13 => k_is); (case c13 => k_is); (case k13 => k_is)
    (case a14 => k_is); (case l14 => k_is); (case c14 => k_is); (case k14 => k_is)
    (case a15 => k_is); (case l15 => k_is); (case c15 => k_is); (case k15 => k_is)
    (case a16 => k_is); (case l16 => k_is); (case c16 => k_is); (case k16 => k_is)
    (case a17 => k_is); (case l17 => k_is); (case c17 => k_is); (case k17 => k_is)
    (case a18 => k_is); (case l18 => k_is); (case c18 => k_is); (case k18 => k_is)
    (case a19 => k_is); (case l19 => k_is); (case c19 => k_is); (case k19 => k_is)
    (case a20 => k_is); (case l20 => k_is); (case c20 => k_is); (case k20 => k_is)
    (case a21 => k_is); (case l21 => k_is); (case c21 => k_is); (case k21 => k_is)
    (case a22 => k_is); (case l22 => k_is); (case c22 => k_is); (case k22 => k_is)
    (case a23 => k_is); (case l23 => k_is); (case c23 => k_is); (case k23 => k_is)
    (case a24 => k_is); (case l24 => k_is); (case c24 => k_is); (case k24 => k_is)
    (case z1 => k_is); (case z2 => k_is); (case z3 => k_is); (case z4 => k_is)
    (case z5 => k_is); (case z6 => k_is); (case z7 => k_is); (case z8 => k_is)
    (case z9 => k_is); (case z10 => k_is); (case z11 => k_is); (case z12 => k_is)
    (case z13 => k_is); (case z14 => k_is); (case z15 => k_is); (case z16 => k_is)
    (case z17 => k_is); (case z18 => k_is); (case z19 => k_is); (case z20 => k_is)
    (case z21 => k_is)
