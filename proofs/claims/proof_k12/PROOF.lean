import PyProof.Rows.All
import Wide.All
import OpenK.AllK
import Wide.FinOn
import HandS.ForMost
import HandS.Walk
import HandS.Deep
import HandS.Zip
import HandS.TupAny
import HandS.IsInst
import HandS.Strs
import HandS.More
import HandS.Flow
import HandS.Style
import HandS.NoneIn
import KE.SortData
import KE.GoesEnum
import KE.GoesMore
import HandS.Defaults
import HandS.WordsExc
import HandS.DictComp
import HandS.Iter
import HandS.MakeKwOnly
import HandS.TupMul
import PyProof.ReprLen
import HandS.ExcInit
import HandS.ExcOwn
import HandS.TryOnly
import HandS.FStr
import HandS.ExcIs
import HandS.ExcField
import KE.KExcInit
import KE.KTryMore
import HandS.SortInts
import PySem.Challenge.RW_letinrow_k12_known_rows
set_option Elab.async false
set_option linter.all false
set_option maxRecDepth 100000
set_option maxHeartbeats 2000000
namespace Lk
open PySem PySem.Spec PyProof.Rows L2

/-! ### either of two rules -/
section
variable {X : Cx}
theorem pe_or2 {e : Expr} {t u : TE} (a : PE X e t) (b : PE X e u) : PE X e (fun σ H Q => t σ H Q ∨ u σ H Q) :=
  ⟨fun pins s σ H Q I h => h.elim (a.run pins s σ H Q I) (b.run pins s σ H Q I)⟩
theorem pi_or2 {tg e : Expr} {t u : TI} (a : PI X tg e t) (b : PI X tg e u) : PI X tg e (fun σ H R => t σ H R ∨ u σ H R) :=
  ⟨fun pins s σ H R I h => h.elim (a.run pins s σ H R I) (b.run pins s σ H R I)⟩
theorem sl_or2 {r r' : V → Option Int → Option Int → Hp → VK → Prop} (a : SlR X r) (b : SlR X r') : SlR X (fun x l h H Q => r x l h H Q ∨ r' x l h H Q) :=
  fun pins s σ H x v vl vu lo hi sl Q I rx hs pl pu h => h.elim (a pins s σ H x v vl vu lo hi sl Q I rx hs pl pu) (b pins s σ H x v vl vu lo hi sl Q I rx hs pl pu)
end

/-! ### what is known in between -/
section
variable {X : Cx}
def tMid (t : TE) : TE := fun σ H Q => ∃ M : V → Hp → Prop, t σ H M ∧ ∀ v H', M v H' → Q v H'
theorem pe_mid {e : Expr} {t : TE} (h : PE X e t) : PE X e (tMid t) :=
  ⟨fun pins s σ H Q I ⟨M, h1, h2⟩ => thn (h.run pins s σ H M I h1) fun u s1 ⟨v, H1, I1, r, q⟩ => ⟨v, H1, I1, r, h2 v H1 q⟩⟩
def tMidT (t : TT) : TT := fun σ H Q => ∃ M : Bool → Hp → Prop, t σ H M ∧ ∀ v H', M v H' → Q v H'
theorem pt_mid {e : Expr} {t : TT} (h : PT X e t) : PT X e (tMidT t) :=
  ⟨fun pins s σ H Q I ⟨M, h1, h2⟩ => thn (h.run pins s σ H M I h1) fun u s1 ⟨H1, I1, q⟩ => ⟨H1, I1, h2 u H1 q⟩⟩
def tMidS (t : TS) : TS := fun D σ H => ∃ M : L2.St → Hp → Prop, t { D with nx := M } σ H ∧ ∀ σ' H', M σ' H' → D.nx σ' H'
theorem ps_mid {st : Stmt} {t : TS} (h : PS X st t) : PS X st (tMidS t) := by
  refine ⟨fun pins s σ H D I ⟨M, h1, h2⟩ => thn (h.run pins s σ H { D with nx := M } I h1) fun fl s1 q => ?_⟩
  cases fl with
  | next =>
    obtain ⟨σ', H', I', q'⟩ := q
    exact ⟨σ', H', I', h2 σ' H' q'⟩
  | brk => exact q
  | cont => exact q
  | ret u => exact q
end

/-! ### in, over a tuple of data -/
section
variable {X : Cx}
end

/-! ### room, where nobody writes a text of a thing around us -/
structure Room (k : Nat) (A : Around) : Prop where
  rm : L2.Room k A
  gd : A.guards = some []
theorem Room.mono {j k : Nat} {A : Around} (z : Room k A) (h : j ≤ k) : Room j A := ⟨z.rm.mono h, z.gd⟩
theorem Room.units {k : Nat} {A : Around} (z : Room k A) : A.units + 64 < cLine := z.rm.units
theorem Room.un {k : Nat} {A : Around} (z : Room k A) : A.units + 16 * k + 200 < cLine := z.rm.un
theorem Room.hd {k : Nat} {A : Around} (z : Room k A) : A.handled = none := z.rm.hd
theorem hu_of {A : Around} {k : Nat} (z : Room k A) : A.units + 1 < cLine := L2.hu_of z.rm
/-- a def's promise, asked for only there -/
structure FnOk (P : Program) (w : World) (K : PySem.W.Frag) (mg : Str → Option Value) (base : Heap) (CX : CXT) (k : Nat) (f : Addr) (fd : FuncData) (ps : List Str) (sp : Sp) : Prop where
  len : ∀ vs H Q E, sp vs H Q E → vs.length = ps.length
  run : ∀ (A : Around) (out : List Env) (s : Shared) (H : Hp) (ar : Args) (us : List Value) (vs : List V) (Q : VK) (E : XK), Room k A → Env0 P w K mg base A out s H → BindsTo s fd ar (ps.zip us) → Vals vs us → sp vs H Q E →
    codeAny (model P w) A (.call (.ref f) ar) (CR CX out P w H s Q E) s
section
variable {P : Program} {w : World} {K : PySem.W.Frag} {mg : Str → Option Value} {base : Heap} {CX : CXT} {k : Nat} {f : Addr} {fd : FuncData} {N ps : List Str} {sp : Sp}
theorem FnOk.mono {j : Nat} (F : FnOk P w K mg base CX j f fd ps sp) (h : j ≤ k) : FnOk P w K mg base CX k f fd ps sp := ⟨F.len, fun A out s H ar us vs Q E z => F.run A out s H ar us vs Q E (z.mono h)⟩
theorem FnOk.imp {sq : Sp} (F : FnOk P w K mg base CX k f fd ps sp) (h : ∀ vs H Q E, sq vs H Q E → sp vs H Q E) : FnOk P w K mg base CX k f fd ps sq :=
  ⟨fun vs H Q E z => F.len vs H Q E (h _ _ _ _ z), fun A out s H ar us vs Q E z e b v m => F.run A out s H ar us vs Q E z e b v (h _ _ _ _ m)⟩
/-- its body, by rules -/
theorem fok_of {name qual : Str} {params : Arguments} {body : List Stmt} {scope : Scope} {dV kV doc pm cdv ct oc : Value} {an od : Option Addr} {osl : Array (Option Value)}
    (lk : K.lookup f = some ⟨oc, od, .func (PySem.W.fnOf name qual params body scope dV kV doc pm an cdv ct), osl⟩) (hc : PySem.W.codeIn K cdv qual = true) (S : FnScope N ps scope) (hn : ∀ vs H Q E, sp vs H Q E → vs.length = ps.length)
    (hb : ∀ (A : Around) (out : List Env) (s : Shared) (H : Hp) (vs : List V) (Q : VK) (E : XK), Room k (A.deeper (envOfC qual scope s.heap.objs.size f cdv)) → sp vs H Q E →
      ∃ t, PSs (cxOf CX P w K mg base N qual scope f cdv A out s H E) body t ∧ t { nx := fun _ G => Q .non G, rt := Q } (start N vs) H) :
    FnOk P w K mg base CX (k + 1) f (PySem.W.fnOf name qual params body scope dV kV doc pm an cdv ct) ps sp := by
  refine ⟨hn, fun A out s H ar us vs Q E z e0 bd rv hs => ?_⟩
  have kin : K.In s.heap := e0.mod.kin.keeps fun c u q => (e0.bs c u q).1
  have nol : s.heap.NoLimit := e0.mod.nolimit.keeps fun c u q => (e0.bs c u q).1
  have kinds : ∀ y ∈ ps.zip us, scope.names.lookup y.1 = some .local ∨ (scope.names.lookup y.1 = some .cell ∧ ((cellsFrom (s.heap.objs.size + 1) scope.names []).lookup y.1).isSome = true) := by
    rintro ⟨n, v⟩ hy
    rcases S.par n (List.of_mem_zip hy).1 with c | c
    · exact .inl c
    · exact .inr ⟨c, PySem.W.cellsFrom_some _ _ _ (.inl c)⟩
  refine codeAny_call_function z.rm.depth (kin _ _ lk) rfl S.co S.gen rfl (PySem.W.codeRec_of kin hc) (bd _ _ _ _ ?_)
  refine wpAny_newFunctionEnv_cells S.kind kinds ?_
  rintro env rfl s1 ic
  refine ⟨nol.keeps ic.toInCall.keep, codeAny_func ?_⟩
  obtain ⟨t, pt, qt⟩ := hb A out s H vs Q E ⟨z.rm.deeper _, z.gd⟩ hs
  have I : Inv (cxOf CX P w K mg base N qual scope f cdv A out s H E) [] (start N vs) H s1 := inv_start S z.rm.hd e0 (hn _ _ _ _ hs) rv ic
  refine wpAny_mono (pt.run [] s1 (start N vs) H _ I qt) (fun fl s2 ends => ?_) fun _ _ h => h
  cases fl with
  | brk => exact (let ⟨_, _, _, no⟩ := ends; no : False).elim
  | cont => exact (let ⟨_, _, _, no⟩ := ends; no : False).elim
  | next =>
    obtain ⟨σ1, H1, J, w1⟩ := ends
    exact ⟨.non, H1, J.os, J.bare, J.base, J.hok, rfl, w1⟩
  | ret u =>
    obtain ⟨v, σ1, H1, J, ru, w1⟩ := ends
    exact ⟨v, H1, J.os, J.bare, J.base, J.hok, ru, w1⟩
theorem fok {x qual : Str} {st : Stmt} (F : Fun K x qual st f fd) (S : FnScope N ps (defScope st)) (hn : ∀ vs H Q E, sp vs H Q E → vs.length = ps.length)
    (hb : ∀ (cdv : Value) (A : Around) (out : List Env) (s : Shared) (H : Hp) (vs : List V) (Q : VK) (E : XK), Room k (A.deeper (envOfC qual (defScope st) s.heap.objs.size f cdv)) → sp vs H Q E →
      ∃ t, PSs (cxOf CX0 P w K mg base N qual (defScope st) f cdv A out s H E).nox (defBody st) t ∧ t { nx := fun _ G => Q .non G, rt := Q } (start N vs) H) : FnOk P w K mg base CX0 (k + 1) f fd ps sp := by
  obtain ⟨oc, od, kV, doc, pm, an, cd, ct, sl, rfl, lk, hc⟩ := F.ex
  exact fok_of lk hc S hn fun A out s H vs Q E z hs => let ⟨t, a, b⟩ := hb cd A out s H vs Q E z hs; ⟨t, a.nox, b⟩
end
section
variable {X : Cx} {CX : CXT} {k : Nat} {f : Addr} {fd : FuncData} {ps ks : List Str} {sp : Sp} {E : XK} {g : List Value → List Value → List Value} {gV : List V → List V → List V}
theorem fn_ran {pins : List (Addr × Obj)} {σ : L2.St} {H : Hp} {s : Shared} {Q : VK} {ar : Args} {us : List Value} {vs : List V} (F : FnOk X.prog X.w X.K X.mg X.base CX k f fd ps sp) (z : Room k X.A) (hx : Passes CX X E)
    (I : Inv X pins σ H s) (bd : BindsTo s fd ar (ps.zip us)) (rv : Vals vs us) (h : sp vs H Q E) : wpAny (model X.prog X.w) X.A (call (.ref f) ar.pos ar.kw) (EP X pins σ Q) X.xe s := by
  refine wpAny_call (codeAny_mono (F.run X.A X.stack s H ar us vs Q E z I.env0 bd rv h) ?_)
  rintro (e | fl) s2 ends
  · exact hx pins σ H s e s2 I ends
  cases fl with
  | ret u => exact I.after ends
  | next => exact (ends : False).elim
  | brk => exact (ends : False).elim
  | cont => exact (ends : False).elim
end
/-! ### calls -/
section
variable {X : Cx} {CX : CXT} {k n : Nat} {f : Addr} {fd : FuncData} {ps ks : List Str} {sp : Sp} {E : XK} {x : Str} {p pos : Pos} {kws : List Keyword} {tk t : TA} {g : List Value → List Value → List Value} {gV : List V → List V → List V}
  {e : Expr} {es : List Expr} {dvs : List V} {ds : List Value}
theorem pe_call (F : FnOk X.prog X.w X.K X.mg X.base CX k f fd ps sp) (z : Room k X.A) (gl : Gl X x) (hm : X.mg x = some (.ref f)) (kp : PySem.W.keepIn X.K (.ref f) = true) (hb : Binds X.K fd ps ds) (hd : Vals dvs ds) (hx : Passes CX X E)
    (ha : PA X (e :: es) t) (hdb : (x == ("__debug__" : Str)) = false := by decide)
    (he : starEach (e :: es) X.env = (false, eval e X.env) :: starEach es X.env := by rfl) (hpl : (backTo pos (starEach es X.env)).any (·.1) = false := by rfl) :
    PE X (.Call (.Name x p) (e :: es) [] pos) (tCall sp dvs E t) := by
  constructor
  intro pins s σ H Q I h
  refine wpAny_Call_Name_kw (ld_glob I gl hm (PySem.W.callWith_K (h₀ := X.base) I.ok.mod.kin kp (thn (ha.run pos pins s σ H _ I h) ?_) he hpl) hdb)
  rintro us s1 ⟨vs, H1, I1, rv, q⟩
  have r2 : Vals (vs ++ dvs) (us ++ ds) := rv.append hd
  exact ⟨I1.kIn, fn_ran (ar := ⟨us, []⟩) F z hx I1 (hb s1 us I1.kIn (r2.length.symm.trans (F.len _ _ _ _ q))) r2 q⟩
end

/-! ### the head of a law -/
theorem law_ran {P : Program} {w : World} {K : PySem.W.Frag} {mg mb : Str → Option Value} {k : Nat} {fa a : Addr} {fd : FuncData} {x : Str} {sp : Sp} {s : Shared} {vs : List Value} {ns : List Int}
    (kin : K.In s.heap) (ng : s.heap.Ns mainGlobals mg) (nb : s.heap.Ns builtinsNs mb) (bb : ∀ y : Str, y ≠ "__name__" → mb y = bootBuiltins y) (nol : s.heap.NoLimit) (ge : s.gens = #[])
    (ha : s.heap.get? a = some { cls := .type "list", data := .seq vs.toArray }) (hi : IntsAre vs ns) (hl : ns.length ≤ sizeLine) (z : Room k callerA)
    (F : ∀ base : Heap, K.In base → base.Ns mainGlobals mg → FnOk P w K mg base CX0 k fa fd [x] sp) (bd : ∀ (c : Shared) (u : Value), BindsTo c fd ⟨[u], []⟩ [(x, u)])
    (hsp : ∀ H : Hp, SqL K H a (ns.map V.int) → sp [.ref a] H (fun v _ => v = .bl true) fun _ _ _ => False) :
    codeAny (model P w) callerA (.call (.ref fa) ⟨[.ref a], []⟩) (fun r c => r = .ok (.ret (.bool true)) ∧ OldK s.heap c.heap ∧ c.os = s.os ∧ AllBare c.gens) s := by
  have rv : Vals (ns.map V.int) vs := vals_ints hi
  have main : ∀ H : Hp, Only H → (∀ b, H b ≠ none → b = a ∧ K.lookup a = none) → SqL K H a (ns.map V.int) → HOk P w H s.heap →
      codeAny (model P w) callerA (.call (.ref fa) ⟨[.ref a], []⟩) (fun r c => r = .ok (.ret (.bool true)) ∧ OldK s.heap c.heap ∧ c.os = s.os ∧ AllBare c.gens) s := by
    intro H on at_ sq ok
    have off : ∀ {b : Addr}, b ≠ a → H b = none := fun {b} ne => Classical.byContradiction fun c => ne (at_ b c).1
    have hid : ∀ {b : Addr} {m : Str → Option Value}, s.heap.Ns b m → (hidT s.heap H).Ns b m := by
      rintro b m ⟨o, es, ep, g, d, r⟩
      refine ⟨o, es, ep, hidT_get g (off ?_), d, r⟩
      rintro rfl
      have q := ha.symm.trans g
      cases q
      cases d
    have kb : K.In (hidT s.heap H) := fun b o g => by
      refine hidT_get (kin b o g) (Classical.byContradiction fun c => ?_)
      obtain ⟨eb, no⟩ := at_ b c
      rw [eb, no] at g
      cases g
    have md : Mod K mg (hidT s.heap H) := by
      obtain ⟨mc, n1, n2⟩ := nol
      exact ⟨kb, hid ng, ⟨mb, hid nb, bb⟩, ⟨mc, hid n1, n2⟩⟩
    have e0 : Env0 P w K mg (hidT s.heap H) callerA [] s H :=
      { frames := rfl, mod := md, bs := fun b o g => of_hidT g, bsz := Nat.le_of_eq (hidT_size _ _), funs := trivial, frf := (fun b c => nomatch (show b ∈ ([] : List Addr) from c)), hok := ok, bare := .of_eq ge }
    refine codeAny_mono ((F _ kb (hid ng)).run callerA [] s H ⟨[.ref a], []⟩ [.ref a] [.ref a] _ _ z e0 (bd s (.ref a)) (.cons rfl .nil) (hsp H sq)) ?_
    rintro (er | fl) c ends
    · exact (ends : False).elim
    cases fl with
    | next => exact (ends : False).elim
    | brk => exact (ends : False).elim
    | cont => exact (ends : False).elim
    | ret u =>
      obtain ⟨v, H1, os, bare, un, ok1, ru, q⟩ := ends
      have q1 : v = .bl true := q
      subst q1
      obtain rfl : u = Value.bool true := ru
      refine ⟨rfl, OldK.of_keep ?_, os, bare⟩
      intro b o g
      rcases on b with h0 | ⟨ob, xs, h1⟩
      · exact un.keep b o g h0 (fun c => nomatch (show b ∈ ([] : List Addr) from c)) (fun c => nomatch c)
      · have g2 := (ok1 b _ (un.frzs b ob _ h1)).1
        have g1 := (ok b _ h1).1
        rw [g] at g1
        cases g1
        exact g2
  by_cases no : K.lookup a = none
  · refine main (fun b => if b = a then some (.frz { cls := .type "list", data := .seq vs.toArray } (.lst (ns.map V.int))) else none) ?_ ?_ (.inl (.inr ⟨{ cls := .type "list", data := .seq vs.toArray }, if_pos rfl⟩)) ?_
    · intro b
      by_cases c : b = a
      · exact .inr ⟨_, _, if_pos c⟩
      · exact .inl (if_neg c)
    · intro b q
      by_cases c : b = a
      · exact ⟨c, no⟩
      · exact absurd (if_neg c) q
    · intro b u q
      by_cases c : b = a
      · have q1 := (if_pos c).symm.trans q
        cases q1
        subst c
        exact ⟨ha, by rw [List.length_map]; exact hl, vs, _, rv, ha⟩
      · have q1 := (if_neg c).symm.trans q
        cases q1
  · obtain ⟨o, ho⟩ := Option.ne_none_iff_exists'.mp no
    have g := kin a o ho
    rw [ha] at g
    cases g
    refine main (fun _ => none) (fun _ => .inl rfl) (fun b q => absurd rfl q) (.inr ⟨_, vs.toArray, _, ho, rfl, rfl, rfl, ?_, by simpa using rv⟩) (fun b u q => ?_)
    · rw [List.size_toArray, hi.length]
      exact hl
    · have q' : (none : Option HO) = some u := q
      cases q'
theorem walk_law {l : PySem.W.OpenLaw} {n k : Nat} {q : Program} {loose : List Str} {XP : (Str → Option Value) → Heap → Prop} {YP : World → Heap → Prop} {d : DefRec} {K : Params → PySem.W.Frag} {sp : World → Sp} {x : Str}
    (hn : l.most = some n) (hn2 : n ≤ sizeLine) (hdf : d.params.defaults = []) (z : L2.Room k callerA)
    (hY : ∀ (w : World) (h : Heap), YP w h → (K w.params).In h)
    (F : ∀ (w : World) (mg : Str → Option Value) (fa : Addr) (h : Heap), (K w.params).In h → h.Ns mainGlobals mg → mg d.name = some (.ref fa) →
      ∃ fd : FuncData, (∀ (s : Shared) (u : Value), BindsTo s fd ⟨[u], []⟩ [(x, u)]) ∧ ∀ base : Heap, (K w.params).In base → base.Ns mainGlobals mg → FnOk l.prog w (K w.params) mg base CX0 k fa fd [x] (sp w))
    (hsp : ∀ (w : World) (H : Hp) (a : Addr) (ns : List Int), ns.length ≤ n → SqL (K w.params) H a (ns.map V.int) → sp w [.ref a] H (fun v _ => v = .bl true) fun _ _ _ => False) :
    PySem.W.WalkO q loose XP YP l.row.toRowW d [] (fun f vs => PySem.call f vs) := by
  refine Att.attach_call hn hdf ?_
  intro w s0 s1 mg mb fa o pm cd doc a vs ns G Y _ _ _ hmg ho hi hl hg
  have kin := hY w _ Y
  obtain ⟨fd, bd, ok⟩ := F w mg fa _ kin G.T.g hmg
  exact law_ran kin G.T.g G.T.b G.T.builtins G.T.nolimit hg ho hi (Nat.le_trans hl hn2) ⟨z, rfl⟩ ok bd fun H sq => hsp w H a ns hl sq

/-! ### repr -/
section
variable {X : Cx}
end
end Lk
set_option maxRecDepth 100000
set_option maxHeartbeats 4000000
namespace Lk
open PySem PySem.Spec PyProof.Rows L2

/-! ### enumerate(tuple) -/
theorem meets_enum1 {v : Value} {o : Obj} {H : Heap → Prop} (B : Begins v o H) :
    Meets (Builtin.«enumerate.__new__» ⟨[.type "enumerate", v], []⟩) (fun _ R s => H s.heap ∧
      R (.ok (.ret (.ref (s.heap.push o).objs.size))) { s with heap := (s.heap.push o).push { cls := .type "enumerate", data := .fields #[.none, .bool false, .ref s.heap.objs.size, rawInt 0, .none, .none] } }) :=
  .of_wp fun prog w A R s h => by
    obtain ⟨hp, g, d, tk, os⟩ := s; obtain ⟨h1, h⟩ := h
    have hsub := sub_enumerate
    have q1 : ∀ {A' : Around} {E : Value → Shared → Prop} {Q : Value → Shared → Prop}, Q (.ref hp.objs.size) ⟨hp.push o, g, d, tk, os⟩ → wpAny (model prog w) A' (pyIter v) Q E ⟨hp, g, d, tk, os⟩ :=
      fun q => B.iter prog w _ _ ⟨hp, g, d, tk, os⟩ _ h1 q
    wp_walk using q1
    refine wpAny_stack_any fun st => wpAny_pure ?_
    split
    · rename_i c _ _ _ _ _
      cases (c == Value.type "enumerate")
      · wp_walk using q1
        exact ⟨_, rfl, h⟩
      · wp_walk using q1
        exact ⟨_, rfl, h⟩
    · wp_walk using q1
      exact ⟨_, rfl, h⟩
section
variable {prog : Program} {w : World} {A : Around} {E : Value → Shared → Prop} {s : Shared}
theorem enum1_begins {v : Value} {o : Obj} {H : Heap → Prop} {Q : Value → Shared → Prop} (B : Begins v o H) (h1 : H s.heap)
    (h : ∀ h', IsEnum h' (s.heap.objs.size + 1) s.heap.objs.size 0 .none → h'.get? s.heap.objs.size = some o → h'.objs.size = s.heap.objs.size + 2 →
      (∀ b o, s.heap.get? b = some o → h'.get? b = some o) → Q (.ref (s.heap.objs.size + 1)) { s with heap := h' }) :
    wpAny (model prog w) A (call (.type "enumerate") [v]) Q E s := by
  refine callType_new F.called_enumerate (by decide) (F.typeCall_enumerate_1 _) (F.newCall_enumerate_1 _) (fun obj => F.args_object_init_2 obj _) F.entry_enumerate_new
    (meets_enum1 B) ⟨h1, ?_⟩
  have hz : (s.heap.push o).objs.size = s.heap.objs.size + 1 := Heap.size_push ..
  show _ ∧ _
  rw [hz]
  have he : IsEnum ((s.heap.push o).push { cls := .type "enumerate", data := .fields #[.none, .bool false, .ref s.heap.objs.size, rawInt 0, .none, .none] }) (s.heap.objs.size + 1) s.heap.objs.size 0 .none := by
    have := Heap.get?_push_size (s.heap.push o) (o := { cls := .type "enumerate", data := .fields #[.none, .bool false, .ref s.heap.objs.size, rawInt 0, .none, .none] }) rfl
    rw [hz] at this; exact this
  refine ⟨⟨_, he, rfl⟩, h _ he (Heap.get?_push_of_some _ (Heap.get?_push_size _ B.free)) (by rw [Heap.size_push, hz]) fun b o x => Heap.get?_push_of_some _ (Heap.get?_push_of_some _ x)⟩
end
def IteT (K : PySem.W.Frag) (a : Addr) : It :=
  ⟨fun i H => ∃ (xs : List V) (x : V), SqT K H a xs ∧ xs[i]? = some x, fun i H v H' => ∃ T x, v = .ref T ∧ H T = none ∧ H' = upd H T (.tup [.int (i : Nat), x]) ∧ ∀ xs, SqT K H a xs → xs[i]? = some x, fun i H => ∃ xs : List V, SqT K H a xs ∧ xs.length = i⟩
theorem turn_enumT {P : Program} {w : World} {K : PySem.W.Frag} {elts : List Expr} {kk : Nat} {tpos : Pos} (a e it : Addr) :
    Turn P w K (.Tuple elts kk tpos) (IteT K a) [e, it] e (fun i h => (∃ old, IsEnum h e it ((i : Nat) : Int) old) ∧ h.IsTupleIter it a i ∧ e ≠ it) where
  mem := by simp
  obj := fun i h st b hb => by
    obtain ⟨⟨old, he⟩, ⟨o, ho, hc, hd⟩, _⟩ := st
    have e' : b = e ∨ b = it := by simpa using hb
    rcases e' with z | z
    · rw [z]; exact ⟨_, he, fun v q => nomatch q⟩
    · rw [z]; exact ⟨o, ho, fun v q => by rw [hd] at q; cases q⟩
  keep := fun i h h' st k => let ⟨⟨old, he⟩, hi, hne⟩ := st; ⟨⟨old, k e (by simp) _ he⟩, hi.at fun o q => k it (by simp) o q, hne⟩
  item := by
    intro X hP hw hK hc i pins s σ H E I hf st hg
    subst hP hw hK
    obtain ⟨⟨old, he⟩, hit, hne⟩ := st
    obtain ⟨xs, x, hq, hx⟩ := hg
    obtain ⟨its, rv, p, hz⟩ := I.tuple hq
    obtain ⟨u, hu, ru⟩ := rv.get hx
    have hel : e < s.heap.objs.size := Heap.lt_size he
    have hil : it < s.heap.objs.size := by obtain ⟨_, q, _⟩ := hit; exact Heap.lt_size q
    have hai : a ≠ it := by
      rintro rfl
      obtain ⟨o, ho, hcc, _⟩ := p
      obtain ⟨o', ho', hc', _⟩ := hit
      rw [ho] at ho'; cases ho'
      rw [hcc] at hc'
      exact absurd (Value.type.inj hc') (by decide)
    have hae : e ≠ a := by
      rintro rfl
      obtain ⟨o, ho, hcc, _⟩ := p
      have ho' := ho.symm.trans he
      cases ho'
      exact absurd (Value.type.inj hcc) (by decide)
    have hlt : i < its.toArray.size := by
      rw [List.size_toArray]
      exact (List.getElem?_eq_some_iff.mp hu).1
    refine wpAny_pyNext_enum_itemD (Draws.tuple (A := X.A.in1) (I.ok.hd hc) it a hai its.toArray) he ⟨hit, p⟩ hlt hne (by simp [hne, hae]) fun v h' tk hxv ho st' hT hsz hk => ?_
    have ev : v = u := by
      have q : its.toArray[i]? = some v := hxv
      rw [List.getElem?_toArray, hu] at q
      exact (Option.some.inj q).symm
    subst ev
    refine ⟨_, rfl, wpAny_letOwnedTupleGo_enum (s := { s with heap := h', toks := tk + 1 }) ho fun h'' he' sb => ?_⟩
    have hT2 : h''.get? s.heap.objs.size = some { cls := .type "tuple", data := .seq #[.int i tk, v] } := (sb.2 _ (Nat.ne_of_gt hel)).trans hT
    have new : ObjOk X.prog X.w (upd H s.heap.objs.size (.tup [.int (i : Nat), x])) h'' s.heap.objs.size (.tup [.int (i : Nat), x]) :=
      ⟨by show 2 ≤ sizeLine; decide, [.int i tk, v], .cons ⟨_, rfl⟩ (.cons ru .nil), ⟨_, hT2, rfl, _, rfl⟩⟩
    have I1 : Inv X pins σ (upd H s.heap.objs.size (.tup [.int (i : Nat), x])) { s with heap := h'', toks := tk + 1 } :=
      I.turnedNew (ch := [e, it]) (fun b ob hb q => (sb.2 b (fun z => hb (by simp [z]))).trans (hk b ob (fun z => hb (by simp [z])) (fun z => hb (by simp [z])) q)) hf (Nat.le_refl _) new
    refine ⟨.ref s.heap.objs.size, _, I1, rfl, ⟨_, x, rfl, I.hok.fresh (Nat.le_refl _), rfl, fun ys hy => by rw [I.tuple_inj hy hq]; exact hx⟩, ⟨⟨v, ?_⟩, st'.1.at fun o q => (sb.2 it (Ne.symm hne)).trans q, hne⟩, fun b hb => ?_⟩
    · have e1 : ((i + 1 : Nat) : Int) = (i : Int) + 1 := by omega
      rw [e1]; exact he'
    · have hb' : b < s.heap.objs.size := by
        have e' : b = e ∨ b = it := by simpa using hb
        rcases e' with z | z
        · rw [z]; exact hel
        · rw [z]; exact hil
      rw [upd_ne (Nat.ne_of_lt hb')]
      exact (hf b hb).1
  done := by
    intro X hP hw hK hc i pins s σ H E I hf st hg
    subst hP hw hK
    obtain ⟨⟨old, he⟩, hit, hne⟩ := st
    obtain ⟨xs, hq, hx⟩ := hg
    obtain ⟨its, rv, p, hz⟩ := I.tuple hq
    obtain ⟨f0, f1, f2, f3, f4, f5⟩ := hf it (by simp)
    have hl := rv.length
    have hai : a ≠ it := by
      rintro rfl
      obtain ⟨o, ho, hcc, _⟩ := p
      obtain ⟨o', ho', hc', _⟩ := hit
      rw [ho] at ho'; cases ho'
      rw [hcc] at hc'
      exact absurd (Value.type.inj hc') (by decide)
    have en : i = its.toArray.size := by
      rw [List.size_toArray]
      omega
    subst en
    exact wpAny_pyNext_enum_endD (Draws.tuple (A := X.A.in1) (I.ok.hd hc) it a hai its.toArray) he ⟨hit, p⟩ fun h' eb => ⟨rfl, I.turned (t' := s.toks) (fun b o hb q => eb b o hb q) f0 f1 f3 f4 f5⟩
  self := fun A i s Q E st h => let ⟨⟨_, he⟩, _⟩ := st; wpAny_pyIter_enum he h
def iEnumT (K : PySem.W.Frag) (ta : TA) : TI := fun σ H R => ta σ H fun vs H1 => ∃ a xs, vs = [.ref a] ∧ SqT K H1 a xs ∧ R (IteT K a) H1
theorem pi_enumT {X : Cx} {e : Expr} {ta : TA} {p pos tpos : Pos} {elts : List Expr} {kk : Nat} (hg : Gl X "enumerate") (hm : X.mg "enumerate" = none) (ha : PA X [e] ta) (hs : starEach [e] X.env = [(false, eval e X.env)] := by rfl) :
    PI X (.Tuple elts kk tpos) (.Call (.Name "enumerate" p) [e] [] pos) (iEnumT X.K ta) := by
  refine ⟨fun pins s σ H R I h => ?_⟩
  refine Call_ (ld_blt I hg hm boot_enumerate (PyProof.Rows.callWith_type1 (thn (ha.run pos pins s σ H _ I h) fun us s1 ⟨vs, H1, I1, r1, q1⟩ => ?_) hs rfl))
  obtain ⟨a, xs, ex, hq, q⟩ := q1
  subst ex
  cases r1 with
  | cons r rr =>
    cases rr
    cases r
    obtain ⟨its, rv, p', hz⟩ := I1.tuple hq
    refine enum1_begins (begins_tuple a its.toArray) p' fun h' he hit hsz hk => wpAny_pyIter_enum he ?_
    have I2 : Inv X pins σ H1 { s1 with heap := h' } := I1.kept (t' := s1.toks) hk
    refine ⟨s1.heap.objs.size + 1, [s1.heap.objs.size + 1, s1.heap.objs.size], _, _, H1, rfl, I2, turn_enumT a (s1.heap.objs.size + 1) s1.heap.objs.size, ⟨⟨.none, he⟩, ⟨_, hit, rfl, rfl⟩, Nat.succ_ne_self _⟩, fun b hb => ?_, q⟩
    have e' : b = s1.heap.objs.size + 1 ∨ b = s1.heap.objs.size := by simpa using hb
    have hle : s1.heap.objs.size ≤ b := by
      rcases e' with z | z
      · rw [z]; exact Nat.le_add_right _ _
      · rw [z]; exact Nat.le_refl _
    exact I1.fpOk hle (I1.hok.fresh hle)
theorem walk_enumT {K : PySem.W.Frag} {a : Addr} {xs : List V} : Walk (IteT K a) xs.length (fun H => SqT K H a xs) (YPair (fun i => some (.int (i : Nat))) (fun i => xs[i]?)) := by
  refine ⟨fun i _ hi q => ⟨xs, xs[i], q, by simp [hi]⟩, fun _ q => ⟨xs, q, rfl⟩, fun i H v H' _ q y => ?_⟩
  obtain ⟨T, x, h1, h2, h3, h4⟩ := y
  exact ⟨T, .int (i : Nat), x, h1, h2, h3, rfl, h4 xs q⟩

/-! ### min, max of two texts -/
def lmin (x y : Str) : Str := if y.cps.toList < x.cps.toList then y else x
def lmax (x y : Str) : Str := if x.cps.toList < y.cps.toList then y else x
theorem cmp_lt_strs {prog : Program} {w : World} {A : Around} {P : Nat → Value → Prop} (val : Nat → Str) (hval : ∀ i v, P i v → ∃ t, v = .str (val i) t) :
    CmpOf prog w A .Lt P (fun i j => decide ((val i).cps.toList < (val j).cps.toList)) := fun i j vi vj s Q E hi hj h => by
  obtain ⟨t, rfl⟩ := hval i vi hi
  obtain ⟨u, rfl⟩ := hval j vj hj
  exact richCompare_gives (op := .Lt) (typeIs_str s _ t) (typeIs_str s _ u) F.slot_str_lt F.entry_str_lt (F.args_str_lt_2 _ _) (gives_str_lt _ _ t u) (fun x => nomatch x) h
theorem cmp_gt_strs {prog : Program} {w : World} {A : Around} {P : Nat → Value → Prop} (val : Nat → Str) (hval : ∀ i v, P i v → ∃ t, v = .str (val i) t) :
    CmpOf prog w A .Gt P (fun i j => decide ((val j).cps.toList < (val i).cps.toList)) := fun i j vi vj s Q E hi hj h => by
  obtain ⟨t, rfl⟩ := hval i vi hi
  obtain ⟨u, rfl⟩ := hval j vj hj
  exact richCompare_gives (op := .Gt) (typeIs_str s _ t) (typeIs_str s _ u) F.slot_str_gt F.entry_str_gt (F.args_str_gt_2 _ _) (gives_str_gt _ _ t u) (fun x => nomatch x) h
def txtAt (x y : Str) (i : Nat) : Str := if i = 0 then x else y
theorem two_at {x y : Str} {t u : Tok} {i : Nat} {v : Value} (h : (#[.str x t, .str y u] : Array Value)[i]? = some v) : ∃ k, v = .str (txtAt x y i) k := by
  match i, h with
  | 0, h => exact ⟨t, (Option.some.inj h).symm⟩
  | 1, h => exact ⟨u, (Option.some.inj h).symm⟩
  | i + 2, h =>
    have q : (#[.str x t, .str y u] : Array Value)[i + 2]? = none := by simp
    rw [q] at h
    cases h
section
variable {prog : Program} {w : World} {A : Around} {E : Value → Shared → Prop} {s : Shared}
theorem min_two_strs {a b : Str} {t u : Tok} {Q : Value → Shared → Prop} (hh : A.handled = none)
    (h : ∀ h' tk k, (∀ c o, s.heap.get? c = some o → h'.get? c = some o) → Q (.str (lmin a b) k) { s with heap := h', toks := tk }) :
    wpAny (model prog w) A (call (.builtin "min") [.str a t, .str b u]) Q E s := by
  have hT : (s.heap.push { cls := .type "tuple", data := .seq #[.str a t, .str b u] }).IsTuple s.heap.objs.size #[.str a t, .str b u] := ⟨_, Heap.get?_push_size _ rfl, rfl, 0, rfl⟩
  refine call_min_two (wpAny_pyIter_tuple hT ?_)
  have hsz : (s.heap.push { cls := .type "tuple", data := .seq #[.str a t, .str b u] }).objs.size = s.heap.objs.size + 1 := Heap.size_push ..
  refine ⟨_, [_, s.heap.objs.size], [_], _, _, _, _, rfl, Walks.tuple (A := A.in1) hh _ s.heap.objs.size (by rw [hsz]; exact Nat.ne_of_lt (Nat.lt_succ_self _)) #[.str a t, .str b u],
    ⟨⟨_, Heap.get?_push_size _ rfl, rfl, rfl⟩, hT.push _⟩, fun c hc => ?_, by simp, cmp_lt_strs (txtAt a b) (fun _ _ => two_at), fun v h' tk hP hk => ?_⟩
  · show c < ((s.heap.push _).push _).objs.size
    rw [Heap.size_push, hsz]
    rcases List.mem_cons.mp hc with rfl | hc
    · rw [hsz]; exact Nat.lt_succ_self _
    · rcases List.mem_cons.mp hc with rfl | hc
      · exact Nat.lt_succ_of_lt (Nat.lt_succ_self _)
      · cases hc
  · have hold : ∀ c o, s.heap.get? c = some o → h'.get? c = some o := fun c o e => by
      refine hk c o (fun hm => ?_) (Heap.get?_push_of_some _ (Heap.get?_push_of_some _ e))
      rcases List.mem_cons.mp hm with e1 | hm
      · have := Heap.lt_size e; rw [e1, hsz] at this; exact Nat.lt_irrefl _ (Nat.lt_of_succ_lt this)
      · cases hm
    have hP' : (#[.str a t, .str b u] : Array Value)[argBest (fun i j => decide ((txtAt a b i).cps.toList < (txtAt a b j).cps.toList)) 1]? = some v := hP
    have hv : ∃ k, v = .str (lmin a b) k := by
      by_cases hba : b.cps.toList < a.cps.toList
      · have e : argBest (fun i j => decide ((txtAt a b i).cps.toList < (txtAt a b j).cps.toList)) 1 = 1 := by simp [argBest, txtAt, hba]
        rw [e] at hP'
        refine ⟨u, ?_⟩
        rw [lmin, if_pos hba]
        exact (Option.some.inj hP').symm
      · have e : argBest (fun i j => decide ((txtAt a b i).cps.toList < (txtAt a b j).cps.toList)) 1 = 0 := by simp [argBest, txtAt, hba]
        rw [e] at hP'
        refine ⟨t, ?_⟩
        rw [lmin, if_neg hba]
        exact (Option.some.inj hP').symm
    obtain ⟨k, rfl⟩ := hv
    exact h h' tk k hold
theorem max_two_strs {a b : Str} {t u : Tok} {Q : Value → Shared → Prop} (hh : A.handled = none)
    (h : ∀ h' tk k, (∀ c o, s.heap.get? c = some o → h'.get? c = some o) → Q (.str (lmax a b) k) { s with heap := h', toks := tk }) :
    wpAny (model prog w) A (call (.builtin "max") [.str a t, .str b u]) Q E s := by
  have hT : (s.heap.push { cls := .type "tuple", data := .seq #[.str a t, .str b u] }).IsTuple s.heap.objs.size #[.str a t, .str b u] := ⟨_, Heap.get?_push_size _ rfl, rfl, 0, rfl⟩
  refine call_max_two (wpAny_pyIter_tuple hT ?_)
  have hsz : (s.heap.push { cls := .type "tuple", data := .seq #[.str a t, .str b u] }).objs.size = s.heap.objs.size + 1 := Heap.size_push ..
  refine ⟨_, [_, s.heap.objs.size], [_], _, _, _, _, rfl, Walks.tuple (A := A.in1) hh _ s.heap.objs.size (by rw [hsz]; exact Nat.ne_of_lt (Nat.lt_succ_self _)) #[.str a t, .str b u],
    ⟨⟨_, Heap.get?_push_size _ rfl, rfl, rfl⟩, hT.push _⟩, fun c hc => ?_, by simp, cmp_gt_strs (txtAt a b) (fun _ _ => two_at), fun v h' tk hP hk => ?_⟩
  · show c < ((s.heap.push _).push _).objs.size
    rw [Heap.size_push, hsz]
    rcases List.mem_cons.mp hc with rfl | hc
    · rw [hsz]; exact Nat.lt_succ_self _
    · rcases List.mem_cons.mp hc with rfl | hc
      · exact Nat.lt_succ_of_lt (Nat.lt_succ_self _)
      · cases hc
  · have hold : ∀ c o, s.heap.get? c = some o → h'.get? c = some o := fun c o e => by
      refine hk c o (fun hm => ?_) (Heap.get?_push_of_some _ (Heap.get?_push_of_some _ e))
      rcases List.mem_cons.mp hm with e1 | hm
      · have := Heap.lt_size e; rw [e1, hsz] at this; exact Nat.lt_irrefl _ (Nat.lt_of_succ_lt this)
      · cases hm
    have hP' : (#[.str a t, .str b u] : Array Value)[argBest (fun i j => decide ((txtAt a b j).cps.toList < (txtAt a b i).cps.toList)) 1]? = some v := hP
    have hv : ∃ k, v = .str (lmax a b) k := by
      by_cases hba : a.cps.toList < b.cps.toList
      · have e : argBest (fun i j => decide ((txtAt a b j).cps.toList < (txtAt a b i).cps.toList)) 1 = 1 := by simp [argBest, txtAt, hba]
        rw [e] at hP'
        refine ⟨u, ?_⟩
        rw [lmax, if_pos hba]
        exact (Option.some.inj hP').symm
      · have e : argBest (fun i j => decide ((txtAt a b j).cps.toList < (txtAt a b i).cps.toList)) 1 = 0 := by simp [argBest, txtAt, hba]
        rw [e] at hP'
        refine ⟨t, ?_⟩
        rw [lmax, if_neg hba]
        exact (Option.some.inj hP').symm
    obtain ⟨k, rfl⟩ := hv
    exact h h' tk k hold
end
section
variable {X : Cx}
theorem call_minS (hc : X.calm = true) : CallR X (.builtin "min") (fun xs H Q => ∃ i j, xs = [.str i, .str j] ∧ Q (.str (lmin i j)) H) := by
  intro pins s σ H xs us Q I r h
  obtain ⟨i, j, rfl, q⟩ := h
  obtain ⟨u, w', rfl, ⟨t, rfl⟩, ⟨t', rfl⟩⟩ := vals2 r
  exact min_two_strs (I.ok.hd hc) fun h' tk k kp => ⟨.str _, H, I.kept kp, ⟨_, rfl⟩, q⟩
theorem call_maxS (hc : X.calm = true) : CallR X (.builtin "max") (fun xs H Q => ∃ i j, xs = [.str i, .str j] ∧ Q (.str (lmax i j)) H) := by
  intro pins s σ H xs us Q I r h
  obtain ⟨i, j, rfl, q⟩ := h
  obtain ⟨u, w', rfl, ⟨t, rfl⟩, ⟨t', rfl⟩⟩ := vals2 r
  exact max_two_strs (I.ok.hd hc) fun h' tk k kp => ⟨.str _, H, I.kept kp, ⟨_, rfl⟩, q⟩
end

/-! ### sorted of pairs of texts -/
def encP (b : Addr × Str × Str) : PyData := .tuple [.str b.2.1, .str b.2.2]
def rSortedTT (K : PySem.W.Frag) : List V → Hp → VK → Prop := fun vs H Q => ∃ (a : Addr) (bs : List (Addr × Str × Str)), vs = [V.ref a] ∧ SqL K H a (bs.map fun b => V.ref b.1) ∧ (∀ b ∈ bs, H b.1 = some (.tup [.str b.2.1, .str b.2.2])) ∧
  ∀ p, H p = none → Q (.ref p) (upd H p (.lst ((bs.mergeSort (PySem.W.dataLe false encP)).map fun b => V.ref b.1)))
theorem refs_vals : ∀ {bs : List (Addr × Str × Str)} {its : List Value}, Vals (bs.map fun b => V.ref b.1) its → its = bs.map fun b => Value.ref b.1
  | [], its, h => by cases h; rfl
  | b :: bs, its, h => by
    cases h with
    | cons r t =>
      have e : _ = Value.ref b.1 := r
      rw [e, refs_vals t]
      rfl
theorem vals_refs : ∀ (bs : List (Addr × Str × Str)), Vals (bs.map fun b => V.ref b.1) (bs.map fun b => Value.ref b.1)
  | [] => .nil
  | b :: bs => .cons rfl (vals_refs bs)
theorem each_refs : ∀ (bs : List (Addr × Str × Str)), PySem.W.EachIs (fun v b => v = Value.ref b.1) (bs.map fun b => Value.ref b.1) bs
  | [] => .nil
  | b :: bs => .cons rfl (each_refs bs)
theorem of_each : ∀ {bs : List (Addr × Str × Str)} {out : List Value}, PySem.W.EachIs (fun v b => v = Value.ref b.1) out bs → out = bs.map fun b => Value.ref b.1
  | _, _, .nil => rfl
  | _, _, .cons e t => by rw [e, of_each t]; rfl
theorem each_of {R : Value → Addr × Str × Str → Prop} : ∀ {bs : List (Addr × Str × Str)}, (∀ b ∈ bs, R (Value.ref b.1) b) → PySem.W.EachIs R (bs.map fun b => Value.ref b.1) bs
  | [], _ => .nil
  | b :: bs, h => .cons (h b List.mem_cons_self) (each_of fun c hc => h c (List.mem_cons_of_mem _ hc))
section
variable {X : Cx}
theorem cr_sortedTT (hu : X.A.units + 64 < cLine) : CallR X (.builtin "sorted") (rSortedTT X.K) := by
  intro pins s σ H vs us Q I r h
  obtain ⟨a, bs, rfl, hs, hb, q⟩ := h
  obtain ⟨its, rv, hl, hz⟩ := I.list hs
  rw [Vals.ref1 r]
  have hi := refs_vals rv
  subst hi
  have hlen : bs.length ≤ sizeLine := by rw [List.length_map] at hz; exact hz
  refine PySem.W.sorted_data (R := fun v b => v = Value.ref b.1) (bs := bs) (enc := encP) hl.isList (each_refs bs) (each_of fun b hm => ?_) (PySem.W.AllAlike.of fun b b' => ?_) (PySem.W.Sortable.tuples fun b => ⟨_, _, rfl⟩) hlen (fun b _ => ?_) fun out ho he => ?_
  · obtain ⟨_, its2, r2, o, hob, hc, n, hd⟩ := I.hok _ _ (hb b hm)
    obtain ⟨u1, u2, rfl, ⟨t1, rfl⟩, ⟨t2, rfl⟩⟩ := vals2 r2
    exact ⟨_, Reads.tuple hob hc hd (.cons (Reads.str _ _) (.cons (Reads.str _ _) .nil))⟩
  · simp [encP, PySem.W.alike, PySem.W.alikeAll]
  · have : (encP b).depth = 1 := by simp [encP, PyData.depth, PyData.depthAll]
    omega
  · have eo := of_each he
    subst eo
    obtain ⟨ep, he'⟩ := PyProof.Rows.sortedAll_at s.heap (bs.map fun b => Value.ref b.1) ((bs.mergeSort (PySem.W.dataLe false encP)).map fun b => Value.ref b.1).toArray
    have hlen2 : ((bs.mergeSort (PySem.W.dataLe false encP)).map fun b => V.ref b.1).length ≤ sizeLine := by rw [List.length_map, List.length_mergeSort]; exact hlen
    exact ⟨.ref _, upd H (s.heap.objs.size + 1) (.lst ((bs.mergeSort (PySem.W.dataLe false encP)).map fun b => V.ref b.1)), I.laid (t' := s.toks) (fun _ _ => PyProof.Rows.sortedAll_old) (Nat.le_succ _) ⟨hlen2, _, ep, vals_refs _, he'⟩, rfl, q _ (I.hok.fresh (Nat.le_succ _))⟩
end
end Lk
set_option maxRecDepth 100000
set_option maxHeartbeats 4000000
namespace Lk
open PySem PySem.Spec PyProof.Rows L2

/-! ### heaps -/
theorem same_upd {H : Hp} {p : Addr} {o : HO} (h : H p = none) : Same H (upd H p o) := fun b x e => by
  rw [upd_ne (ne_of_none e h)]
  exact e
/-- all but what stands at b is as it was -/
def Oth (b : Addr) (H H' : Hp) : Prop := ∀ a o, a ≠ b → H a = some o → H' a = some o
theorem Oth.refl (b : Addr) (H : Hp) : Oth b H H := fun _ _ _ h => h
theorem Oth.trans {b : Addr} {H H1 H2 : Hp} (x : Oth b H H1) (y : Oth b H1 H2) : Oth b H H2 := fun a o n h => y a o n (x a o n h)
theorem Oth.of {b : Addr} {H H' : Hp} (x : Same H H') : Oth b H H' := fun a o _ h => x a o h
theorem Oth.upd {b : Addr} {H : Hp} {o : HO} : Oth b H (upd H b o) := fun a u n h => by rw [upd_ne n]; exact h
theorem Oth.free {b p : Addr} {H H' : Hp} (x : Oth b H H') (hb : p ≠ b) (h : H' p = none) : H p = none := by
  cases q : H p with
  | none => rfl
  | some o =>
    rw [x p o hb q] at h
    cases h
def IsBox (H : Hp) (b : Addr) : Prop := ∃ x y z : Int, H b = some (.lst [.int x, .int y, .int z])
theorem IsBox.same {H H' : Hp} {b : Addr} (x : Same H H') (h : IsBox H b) : IsBox H' b := by
  obtain ⟨i, j, k, e⟩ := h
  exact ⟨i, j, k, x _ _ e⟩
theorem IsBox.ne_tup {H : Hp} {b t : Addr} {xs : List V} (h : IsBox H b) (ht : H t = some (.tup xs)) : t ≠ b := by
  obtain ⟨i, j, k, e⟩ := h
  exact ne_of ht e (fun z => nomatch z)
theorem IsBox.ne_dT {H : Hp} {b t : Addr} {xs : List (List Key × V)} (h : IsBox H b) (ht : H t = some (.dT xs)) : t ≠ b := by
  obtain ⟨i, j, k, e⟩ := h
  exact ne_of ht e (fun z => nomatch z)
theorem IsBox.ne_strs {H : Hp} {b t : Addr} {xs : List Str} (h : IsBox H b) (ht : H t = some (.lst (xs.map V.str))) : t ≠ b := by
  obtain ⟨i, j, k, e⟩ := h
  refine ne_of ht e (fun z => ?_)
  match xs, z with
  | [], z => cases z
  | x :: r, z => cases z
theorem IsBox.ne_refs {H : Hp} {b t : Addr} {xs : List Addr} (h : IsBox H b) (ht : H t = some (.lst (xs.map V.ref))) : t ≠ b := by
  obtain ⟨i, j, k, e⟩ := h
  refine ne_of ht e (fun z => ?_)
  match xs, z with
  | [], z => cases z
  | x :: r, z => cases z
theorem IsBox.ne_none {H : Hp} {b p : Addr} (h : IsBox H b) (hp : H p = none) : p ≠ b := by
  obtain ⟨i, j, k, e⟩ := h
  exact (ne_of_none e hp).symm
theorem small9 {n : Nat} (h : n ≤ 9000) : n < sizeLine := Nat.lt_of_le_of_lt h (by decide)
theorem small_le {n : Nat} (h : n ≤ 1000) : n ≤ sizeLine := Nat.le_of_lt (small1000 h)

/-! ### slices -/
def cutL {α : Type} (xs : List α) (lo hi : Option Int) : List α := (xs.drop (HT.sIx xs.length 0 lo)).take (HT.sIx xs.length xs.length hi - HT.sIx xs.length 0 lo)
theorem cutV_map {α : Type} (f : α → V) (xs : List α) (lo hi : Option Int) : cutV (xs.map f) lo hi = (cutL xs lo hi).map f := by
  unfold cutV cutL
  rw [List.length_map, List.map_take, List.map_drop]
theorem cutL_to {α : Type} (xs : List α) (k : Nat) : cutL xs none (some (k : Int)) = xs.take k := by
  unfold cutL
  rw [HT.sIx_none, HT.sIx_nat, List.drop_zero, Nat.sub_zero]
  by_cases h : k ≤ xs.length
  · rw [Nat.min_eq_left h]
  · rw [Nat.min_eq_right (by omega), List.take_of_length_le (Nat.le_refl _), List.take_of_length_le (by omega)]
theorem cutL_from {α : Type} (xs : List α) (k : Nat) : cutL xs (some (k : Int)) none = xs.drop k := by
  unfold cutL
  rw [HT.sIx_none, HT.sIx_nat]
  by_cases h : k ≤ xs.length
  · rw [Nat.min_eq_left h, List.take_of_length_le (by rw [List.length_drop]; exact Nat.le_refl _)]
  · rw [Nat.min_eq_right (by omega), List.drop_length, List.drop_eq_nil_of_le (by omega), List.take_nil]
theorem cutL_le {α : Type} (xs : List α) (lo hi : Option Int) : (cutL xs lo hi).length ≤ xs.length := by
  unfold cutL
  rw [List.length_take, List.length_drop]
  omega
theorem cutL_has {α : Type} {xs : List α} {k : Nat} {hi : Option Int} (h : 0 < (cutL xs (some (k : Int)) hi).length) : k < xs.length := by
  unfold cutL at h
  rw [List.length_take, List.length_drop, HT.sIx_nat] at h
  omega
theorem at_map {α : Type} {f : α → V} {xs : List α} {i : Nat} {x : V} (h : (xs.map f)[i]? = some x) : ∃ y, xs[i]? = some y ∧ x = f y := by
  rw [List.getElem?_map] at h
  cases e : xs[i]? with
  | none => rw [e] at h; cases h
  | some y =>
    rw [e] at h
    exact ⟨y, rfl, (Option.some.inj h).symm⟩
theorem ix_map {α : Type} {f : α → V} {xs : List α} {i : Nat} {y : α} (h : xs[i]? = some y) : (xs.map f)[i]? = some (f y) := by
  rw [List.getElem?_map, h]
  rfl
theorem set_map {α : Type} {f : α → V} {xs : List α} {i : Nat} {y : α} : (xs.map f).set i (f y) = (xs.set i y).map f := by
  rw [List.map_set]

theorem bit01 (k : Bool) : -(2 ^ 64) < (if k = true then 1 else 0 : Int) ∧ (if k = true then 1 else 0 : Int) < 2 ^ 64 := by cases k <;> decide
theorem bit2 (k : Bool) : (0 : Int) ≤ (if k = true then 1 else 0 : Int) ∧ (if k = true then 1 else 0 : Int) ≤ 1 := by cases k <;> decide

/-! ### names of the built-in -/
structure Blt (mg : Str → Option Value) : Prop where
  len : mg "len" = none
  abs : mg "abs" = none
  int : mg "int" = none
  list : mg "list" = none
  tuple : mg "tuple" = none
  enumerate : mg "enumerate" = none
  range : mg "range" = none
  min : mg "min" = none
  max : mg "max" = none
  sorted : mg "sorted" = none
  isinstance : mg "isinstance" = none
  zip : mg "zip" = none
  all : mg "all" = none
  str : mg "str" = none
  bool : mg "bool" = none
  any : mg "any" = none
  repr : mg "repr" = none
  set : mg "set" = none
  sum : mg "sum" = none
  reversed : mg "reversed" = none
  dict : mg "dict" = none

/-! ### a def as its callers know it -/
structure Cal (P : Program) (w : World) (K : PySem.W.Frag) (mg : Str → Option Value) (base : Heap) (k : Nat) (x : Str) (ps : List Str) (sp : Sp) : Prop where
  ex : ∃ f fd, FnOk P w K mg base CX0 k f fd ps sp ∧ mg x = some (.ref f) ∧ PySem.W.keepIn K (.ref f) = true ∧ Binds K fd ps []
theorem Cal.mono {P : Program} {w : World} {K : PySem.W.Frag} {mg : Str → Option Value} {base : Heap} {j k : Nat} {x : Str} {ps : List Str} {sp : Sp} (C : Cal P w K mg base j x ps sp) (h : j ≤ k := by first | decide | omega) : Cal P w K mg base k x ps sp := by
  obtain ⟨f, fd, F, r⟩ := C.ex
  exact ⟨f, fd, F.mono h, r⟩
section
variable {X : Cx} {k n : Nat} {x : Str} {ps : List Str} {sp : Sp} {p pos : Pos} {e : Expr} {es : List Expr} {t : TA}
theorem pe_cal (C : Cal X.prog X.w X.K X.mg X.base k x ps sp) (hr : Room n X.A) (ha : PA X (e :: es) t) (hle : k ≤ n := by first | decide | omega) (hg : Gl X x := by rfl) (hdb : (x == ("__debug__" : Str)) = false := by decide)
    (he : starEach (e :: es) X.env = (false, eval e X.env) :: starEach es X.env := by rfl) (hpl : (backTo pos (starEach es X.env)).any (·.1) = false := by rfl) :
    PE X (.Call (.Name x p) (e :: es) [] pos) (tCall sp [] E0 t) := by
  obtain ⟨f, fd, F, hm, hk, hb⟩ := C.ex
  exact pe_call F (hr.mono hle) hg hm hk hb .nil pass0 ha (hdb := hdb) (he := he) (hpl := hpl)
end

/-! ### drawing -/
def spTake : Sp := fun vs H Q _ => ∃ (b : Addr) (many : Int), vs = [.ref b, .int many] ∧ IsBox H b ∧ 0 < many ∧ many < 1073741824 ∧
  ∀ (v : Int) (H' : Hp), Oth b H H' → IsBox H' b → 0 ≤ v → v < many → Q (.int v) H'
def spBox : Sp := fun vs H Q _ => ∃ (a : Addr) (ns : List Int) (k : Nat), vs = [.ref a, .int k] ∧ H a = some (.lst (ns.map V.int)) ∧ k < ns.length ∧ k < 1000 ∧
  ∀ (b : Addr) (H' : Hp), Same H H' → H b = none → IsBox H' b → Q (.ref b) H'
def spCells (K : PySem.W.Frag) : Sp := fun vs H Q _ => ∃ (a : Addr) (ns : List Int) (u : Nat), vs = [.ref a, .int u] ∧ SqL K H a (ns.map V.int) ∧ ns.length ≤ 63 ∧ 0 < u ∧ u ≤ 3 ∧
  ∀ (c : Addr) (ms : List Int) (H' : Hp), Same H H' → H c = none → H' c = some (.lst (ms.map V.int)) → 0 < ms.length → ms.length ≤ 3 → Q (.ref c) H'
end Lk
set_option maxRecDepth 100000
set_option maxHeartbeats 4000000
namespace Lk
open PySem PySem.Spec PyProof.Rows L2

/-! ### texts and names -/
abbrev tlx (x : Str) : List Nat := x.cps.toList
theorem len_tlx (x : Str) : x.length = (tlx x).length := by
  show x.cps.size = x.cps.toList.length
  rw [Array.length_toList]
theorem tlx_app (x y : Str) : tlx (x ++ y) = tlx x ++ tlx y := by
  show (x.cps ++ y.cps).toList = _
  rw [Array.toList_append]
theorem str_ext {x y : Str} (h : tlx x = tlx y) : x = y := by
  obtain ⟨a⟩ := x
  obtain ⟨b⟩ := y
  have e : a = b := Array.toList_inj.mp h
  rw [e]
def Low (l : List Nat) : Prop := ∀ c ∈ l, 97 ≤ c ∧ c ≤ 122
def NameOk (x : Str) : Prop := 1 ≤ (tlx x).length ∧ (tlx x).length ≤ 8 ∧ Low (tlx x)
theorem NameOk.len {x : Str} (h : NameOk x) : x.length ≤ 8 := by rw [len_tlx]; exact h.2.1
def Good (x : Str) : Prop := PyData.strOk x = true
def Goods (xs : List Str) : Prop := ∀ x ∈ xs, Good x
def abc : Str := "abcdefghijklmnopqrstuvwxyz"
theorem abc_at : ∀ i : Nat, i < 26 → (tlx abc)[i]? = some (97 + i) := by decide +kernel
theorem abc_len : abc.length = 26 := by decide +kernel
theorem abc_ix {i : Int} (h0 : 0 ≤ i) (h1 : i < 26) : atI (tlx abc) i = some (97 + i.toNat) := by
  have e : i = ((i.toNat : Nat) : Int) := by omega
  have q := atI_nat (abc_at i.toNat (by omega))
  rw [← e] at q
  exact q
theorem Low.one {n : Nat} (h : n < 26) : Low [97 + n] := fun c hc => by
  have e : c = 97 + n := by simpa using hc
  omega
theorem join0 : ∀ ys : List Str, tlx (Txt.join ("" : Str) ys) = (ys.map tlx).flatten := by
  intro ys
  rw [TL.join_eq]
  refine (TL.tl_join _ _).trans ?_
  have e : TL.tl ("" : Str) = [] := by decide +kernel
  rw [e]
  have g : ∀ l : List (List Nat), TL.joinL [] l = l.flatten := by
    intro l
    induction l with
    | nil => rfl
    | cons a r ih =>
      cases r with
      | nil => simp [TL.joinL]
      | cons b r =>
        show a ++ ([] ++ TL.joinL [] (b :: r)) = _
        rw [ih]
        simp
  exact g (ys.map TL.tl)
def IsOne (x : Str) : Prop := ∃ n : Nat, n < 26 ∧ x = ⟨#[97 + n]⟩
theorem ones_flat : ∀ {ys : List Str}, (∀ y ∈ ys, IsOne y) → ((ys.map tlx).flatten).length = ys.length ∧ Low (ys.map tlx).flatten
  | [], _ => ⟨rfl, fun _ h => nomatch h⟩
  | y :: r, h => by
    obtain ⟨e1, e2⟩ := ones_flat (ys := r) fun z hz => h z (List.mem_cons_of_mem _ hz)
    obtain ⟨n, hn, rfl⟩ := h y List.mem_cons_self
    constructor
    · rw [List.map_cons, List.flatten_cons, List.length_append, e1]
      simp
      omega
    · rw [List.map_cons, List.flatten_cons]
      intro c hc
      rcases List.mem_append.mp hc with q | q
      · have e : c = 97 + n := by simpa using q
        omega
      · exact e2 c q
theorem ones_len : ∀ {ys : List Str}, (∀ y ∈ ys, IsOne y) → (ys.map (·.length)).sum = ys.length
  | [], _ => rfl
  | y :: r, h => by
    have ih := ones_len (ys := r) fun z hz => h z (List.mem_cons_of_mem _ hz)
    obtain ⟨n, hn, rfl⟩ := h y List.mem_cons_self
    rw [List.map_cons, List.sum_cons, ih, List.length_cons]
    show 1 + r.length = _
    omega
theorem cutS_tlx (z : Str) (lo hi : Option Int) : tlx (cutS z lo hi) = cutL (tlx z) lo hi := by
  unfold cutS cutL
  show (List.toArray _).toList = _
  rw [List.toList_toArray, len_tlx]
theorem Low.cut {l : List Nat} {lo hi : Option Int} (h : Low l) : Low (cutL l lo hi) := fun c hc => h c (List.mem_of_mem_drop (List.mem_of_mem_take hc))
theorem Low.app {l m : List Nat} (h : Low l) (h' : Low m) : Low (l ++ m) := fun c hc => (List.mem_append.mp hc).elim (h c) (h' c)
theorem apart {step : Int} (hs : step = 1 ∨ step = 3 ∨ step = 7 ∨ step = 25) {i j : Nat} (h : j < i) (hi : i < 26) (f : Int) : (f + step * (i : Int)) % 26 ≠ (f + step * (j : Int)) % 26 := by
  rcases hs with rfl | rfl | rfl | rfl <;> omega
/-- a text's last sign -/
def lastC (x : Str) : Option Nat := (tlx x).getLast?
theorem lastC_app (x : Str) (n : Nat) : lastC (x ++ ⟨#[n]⟩) = some n := by
  unfold lastC
  rw [tlx_app]
  simp
theorem ins_perm {α : Type} (l : List α) (p : Nat) (x : α) : (l.take p ++ [x] ++ l.drop p).Perm (x :: l) := by
  have e : l.take p ++ [x] ++ l.drop p = l.take p ++ x :: l.drop p := by simp
  rw [e]
  refine List.perm_middle.trans ?_
  rw [List.take_append_drop]
theorem ins_map {α : Type} (f : α → V) (l : List α) (p : Nat) (x : α) : (l.map f).take p ++ [f x] ++ (l.map f).drop p = (l.take p ++ [x] ++ l.drop p).map f := by
  rw [List.map_append, List.map_append, List.map_take, List.map_drop]
  rfl

/-! ### the order of texts -/
theorem lmin_or (x y : Str) : (lmin x y = x ∧ lmax x y = y) ∨ (lmin x y = y ∧ lmax x y = x) := by
  unfold lmin lmax
  by_cases h : y.cps.toList < x.cps.toList
  · rw [if_pos h, if_neg (List.lt_asymm h)]
    exact .inr ⟨rfl, rfl⟩
  · rw [if_neg h]
    by_cases h2 : x.cps.toList < y.cps.toList
    · rw [if_pos h2]
      exact .inl ⟨rfl, rfl⟩
    · rw [if_neg h2]
      have e : x = y := str_ext (List.le_antisymm h h2)
      subst e
      exact .inl ⟨rfl, rfl⟩
/-- friends, as a law has them: each pair a least and a greatest -/
def PalsOk (ps : List (Str × Str)) : Prop := ∀ p ∈ ps, ∃ m q, Good m ∧ Good q ∧ p = (lmin m q, lmax m q)
def frd (ps : List (Str × Str)) (a b : Str) : Bool := decide ((a, b) ∈ ps ∨ (b, a) ∈ ps)
theorem frd_comm (ps : List (Str × Str)) (a b : Str) : frd ps a b = frd ps b a := by
  unfold frd
  exact decide_eq_decide.mpr Or.comm
theorem menu4 {v : Int} (h0 : 0 ≤ v) (h1 : v < 4) : ∃ step : Int, (step = 1 ∨ step = 3 ∨ step = 7 ∨ step = 25) ∧ atI [V.int 1, V.int 3, V.int 7, V.int 25] v = some (.int step) := by
  have e : v = 0 ∨ v = 1 ∨ v = 2 ∨ v = 3 := by omega
  rcases e with rfl | rfl | rfl | rfl
  · exact ⟨1, by simp, rfl⟩
  · exact ⟨3, by simp, rfl⟩
  · exact ⟨7, by simp, rfl⟩
  · exact ⟨25, by simp, rfl⟩
theorem name_ok {stem : Str} {hi : Option Int} {n : Nat} (h1 : (tlx stem).length ≤ 7) (h2 : Low (tlx stem)) (hn : n < 26) : NameOk (cutS stem none hi ++ ⟨#[97 + n]⟩) := by
  have e : tlx (cutS stem none hi ++ ⟨#[97 + n]⟩) = cutL (tlx stem) none hi ++ [97 + n] := by rw [tlx_app, cutS_tlx]
  have q := cutL_le (tlx stem) none hi
  refine ⟨?_, ?_, ?_⟩
  · rw [e]; simp
  · rw [e, List.length_append, List.length_singleton]; omega
  · rw [e]; exact (Low.cut h2).app (Low.one hn)

/-! ### friends as they stand -/
abbrev B3 := Addr × Str × Str
def refs (bs : List B3) : List V := bs.map fun b => V.ref b.1
def PairsAt (H : Hp) (bs : List B3) : Prop := ∀ b ∈ bs, H b.1 = some (.tup [.str b.2.1, .str b.2.2])
theorem PairsAt.same {H H' : Hp} {bs : List B3} (s : Same H H') (h : PairsAt H bs) : PairsAt H' bs := fun b hb => s _ _ (h b hb)
theorem PairsAt.oth {H H' : Hp} {b : Addr} {bs : List B3} (s : Oth b H H') (hb : IsBox H b) (h : PairsAt H bs) : PairsAt H' bs := fun c hc => s _ _ (hb.ne_tup (h c hc)) (h c hc)
/-- FRIENDS as a tuple -/
def PalsAt (H : Hp) (a : Addr) (ps : List (Str × Str)) : Prop := ∃ bs : List B3, H a = some (.tup (refs bs)) ∧ PairsAt H bs ∧ ps = bs.map (·.2)
theorem PalsAt.same {H H' : Hp} {a : Addr} {ps : List (Str × Str)} (s : Same H H') (h : PalsAt H a ps) : PalsAt H' a ps := by
  obtain ⟨bs, h1, h2, h3⟩ := h
  exact ⟨bs, s _ _ h1, h2.same s, h3⟩
theorem PalsAt.oth {H H' : Hp} {a b : Addr} {ps : List (Str × Str)} (s : Oth b H H') (hb : IsBox H b) (h : PalsAt H a ps) : PalsAt H' a ps := by
  obtain ⟨bs, h1, h2, h3⟩ := h
  exact ⟨bs, s _ _ (hb.ne_tup h1) h1, h2.oth s hb, h3⟩
/-- .. or a list of these -/
def FrAt (H : Hp) (a : Addr) (ps : List (Str × Str)) : Prop := ∃ bs : List B3, (H a = some (.tup (refs bs)) ∨ H a = some (.lst (refs bs))) ∧ PairsAt H bs ∧ ps = bs.map (·.2)
theorem PalsAt.fr {H : Hp} {a : Addr} {ps : List (Str × Str)} (h : PalsAt H a ps) : FrAt H a ps := by
  obtain ⟨bs, h1, h2, h3⟩ := h
  exact ⟨bs, .inl h1, h2, h3⟩
theorem FrAt.same {H H' : Hp} {a : Addr} {ps : List (Str × Str)} (s : Same H H') (h : FrAt H a ps) : FrAt H' a ps := by
  obtain ⟨bs, h1, h2, h3⟩ := h
  exact ⟨bs, h1.elim (fun e => .inl (s _ _ e)) (fun e => .inr (s _ _ e)), h2.same s, h3⟩
/-- what _law_pals tells of a pair -/
def OfPool (pool : List Str) (ps : List (Str × Str)) : Prop := ∀ p ∈ ps, ∃ m q, m ∈ pool ∧ q ∈ pool ∧ m ≠ q ∧ p = (lmin m q, lmax m q)
theorem OfPool.ok {pool : List Str} {ps : List (Str × Str)} (h : OfPool pool ps) (hg : Goods pool) : PalsOk ps := fun p hp => by
  obtain ⟨m, q, h1, h2, _, e⟩ := h p hp
  exact ⟨m, q, hg m h1, hg q h2, e⟩
theorem OfPool.irr {pool : List Str} {ps : List (Str × Str)} (h : OfPool pool ps) (x : Str) : frd ps x x = false := by
  unfold frd
  refine decide_eq_false fun z => ?_
  have z' : (x, x) ∈ ps := z.elim id id
  obtain ⟨m, q, _, _, ne, e⟩ := h _ z'
  have e1 := (Prod.mk.inj e).1
  have e2 := (Prod.mk.inj e).2
  rcases lmin_or m q with ⟨f1, f2⟩ | ⟨f1, f2⟩
  · exact ne ((f1.symm.trans e1.symm).trans (e2.trans f2))
  · exact ne ((f2.symm.trans e2.symm).trans (e1.trans f1))
def spNames : Sp := fun vs H Q _ => ∃ (b : Addr) (many : Nat), vs = [.ref b, .int many] ∧ IsBox H b ∧ many ≤ 26 ∧
  ∀ (l : Addr) (names : List Str) (H' : Hp), Oth b H H' → IsBox H' b → H l = none → H' l = some (.lst (names.map V.str)) → names.length = many → names.Nodup → (∀ x ∈ names, NameOk x) → Q (.ref l) H'
end Lk
set_option maxRecDepth 100000
set_option maxHeartbeats 4000000
namespace Lk
open PySem PySem.Spec PyProof.Rows L2
/-! ### data -/
section
variable {K : PySem.W.Frag} {H : Hp}
end
/-! ### tuples whose object is known to have no dict: their methods may be called -/
def TupAt (H : Hp) (t : Addr) (xs : List V) : Prop := ∃ o : Obj, o.dict = none ∧ H t = some (.frz o (.tup xs))
theorem TupAt.same {H H' : Hp} {t : Addr} {xs : List V} (s : Same H H') (h : TupAt H t xs) : TupAt H' t xs := by
  obtain ⟨o, h1, h2⟩ := h
  exact ⟨o, h1, s _ _ h2⟩
theorem TupAt.sq {K : PySem.W.Frag} {H : Hp} {t : Addr} {xs : List V} (h : TupAt H t xs) : SqT K H t xs := by
  obtain ⟨o, _, h2⟩ := h
  exact .inl (.inr ⟨o, h2⟩)
theorem TupAt.ne {H : Hp} {b t : Addr} {xs : List V} (h : TupAt H t xs) (hb : IsBox H b) : t ≠ b := by
  obtain ⟨o, _, h2⟩ := h
  obtain ⟨i, j, k, e⟩ := hb
  exact ne_of h2 e (fun z => nomatch z)
theorem TupAt.oth {H H' : Hp} {b t : Addr} {xs : List V} (s : Oth b H H') (hb : IsBox H b) (h : TupAt H t xs) : TupAt H' t xs := by
  have n := h.ne hb
  obtain ⟨o, h1, h2⟩ := h
  exact ⟨o, h1, s _ _ n h2⟩
/-- all but what stands at l, as it was -/
theorem TupAt.upd_ {H : Hp} {l t : Addr} {xs ys : List V} {o' : HO} (h : TupAt H t xs) (hl : H l = some (.lst ys)) : TupAt (upd H l o') t xs := by
  obtain ⟨o, h1, h2⟩ := h
  exact ⟨o, h1, (upd_ne (ne_of h2 hl (fun z => nomatch z))).trans h2⟩
theorem cutV_whole {xs : List V} {lo hi : Option Int} (h : HT.sIx xs.length 0 lo = 0 ∧ HT.sIx xs.length xs.length hi = xs.length) : cutV xs lo hi = xs := by
  unfold cutV
  rw [h.1, h.2, List.drop_zero, Nat.sub_zero, List.take_of_length_le (Nat.le_refl _)]
section
variable {X : Cx}
theorem laid_tup {pins : List (Addr × Obj)} {σ : L2.St} {H : Hp} {s : Shared} {xs : List V} {its : List Value} (I : Inv X pins σ H s) (hz : xs.length ≤ sizeLine) (r : Vals xs its) :
    Inv X pins σ (upd H s.heap.objs.size (.frz { cls := .type "tuple", data := .seq its.toArray } (.tup xs))) { s with heap := s.heap.push { cls := .type "tuple", data := .seq its.toArray } } :=
  I.laid (t' := s.toks) (fun b ob q => Heap.get?_push_of_some _ q) (Nat.le_refl _) ⟨Heap.get?_push_size _ rfl, hz, its, r, IsTup.new _ _⟩
def tTupF (t : TA) : TE := fun σ H Q => t σ H fun xs H1 => xs.length ≤ sizeLine ∧ ∀ p H', Same H1 H' → H1 p = none → TupAt H' p xs → Q (.ref p) H'
theorem pe_tupF {es : List Expr} {t : TA} {pos : Pos} {x1} (h : PA X es t) : PE X (.Tuple es x1 pos) (tTupF t) := by
  refine ⟨fun pins s σ H Q I hq => ?_⟩
  refine wpAny_Tuple_spliced (thn (h.run pos pins s σ H _ I hq) fun us s1 ⟨xs, H1, I1, r, z, q⟩ => ⟨by rw [← r.length]; exact z, ?_⟩)
  have hf : H1 s1.heap.objs.size = none := I1.hok.fresh (Nat.le_refl _)
  exact ⟨.ref s1.heap.objs.size, _, laid_tup I1 z r, rfl, q _ _ (same_upd hf) hf ⟨_, rfl, upd_same⟩⟩
theorem call_tupleF : CallR X (.type "tuple") (fun xs H Q => ∃ p ys, xs = [.ref p] ∧ ((SqL X.K H p ys ∧ ∀ l H', Same H H' → H l = none → TupAt H' l ys → Q (.ref l) H') ∨ (SqT X.K H p ys ∧ Q (.ref p) H))) := by
  intro pins s σ H xs us Q I r h
  obtain ⟨p, ys, rfl, h⟩ := h
  obtain ⟨u, rfl, rx⟩ := vals1 r
  cases rx
  rcases h with ⟨hq, q⟩ | ⟨hq, q⟩
  · obtain ⟨its, r', pl, hz⟩ := I.list hq
    have hlen := r'.length
    refine call_tuple_list pl.isList (fun h' kp => ?_) (by simp only [List.size_toArray] <;> omega)
    have I1 : Inv X pins σ H { s with heap := h' } := I.kept (t' := s.toks) kp
    have hf := I1.hok.fresh (Nat.le_refl _)
    exact ⟨.ref h'.objs.size, _, laid_tup I1 hz r', rfl, q _ _ (same_upd hf) hf ⟨_, rfl, upd_same⟩⟩
  · obtain ⟨its, r', pl, hz⟩ := I.tuple hq
    exact call_tuple_same pl ⟨.ref p, H, I, rfl, q⟩
def rSlM : V → Option Int → Option Int → Hp → VK → Prop := fun x lo hi H Q => ∃ a xs, x = .ref a ∧ TupAt H a xs ∧ ∀ t H', Same H H' → TupAt H' t (cutV xs lo hi) → Q (.ref t) H'
theorem sl_tupM : SlR X rSlM := by
  intro pins s σ H x v vl vu lo hi sl Q I rx hs pl pu h
  obtain ⟨a, xs, rfl, ha, q⟩ := h
  by_cases hw : HT.sIx xs.length 0 lo = 0 ∧ HT.sIx xs.length xs.length hi = xs.length
  · exact sl_tupA pins s σ H _ v vl vu lo hi sl Q I rx hs pl pu ⟨a, xs, rfl, ha.sq, fun _ => q a H (Same.refl H) (by rw [cutV_whole hw]; exact ha), fun z => absurd hw z⟩
  · cases rx
    obtain ⟨its, r, ht, hz⟩ := I.tuple (ha.sq (K := X.K))
    have hlen : its.toArray.size = xs.length := by rw [List.size_toArray]; exact r.length.symm
    refine ⟨"tuple", _, PyProof.Rows.slot_tuple_getitem.lookup, ht.typeIs, ?_⟩
    refine HT.getItem_tuple_cut ht hs pl pu (by rw [hlen]; exact hw) ?_ (by rw [hlen]; exact hz)
    rw [hlen]
    have hf : H s.heap.objs.size = none := I.hok.fresh (Nat.le_refl _)
    exact ⟨.ref s.heap.objs.size, _, laid_tup (xs := cutV xs lo hi) I (Nat.le_trans (cutV_length xs lo hi) hz) ((r.drop (HT.sIx xs.length 0 lo)).take (HT.sIx xs.length xs.length hi - HT.sIx xs.length 0 lo)), rfl, q _ _ (same_upd hf) ⟨_, rfl, upd_same⟩⟩
def rCatM : R2 := fun x y H Q => ∃ a b xs ys, x = .ref a ∧ y = .ref b ∧ TupAt H a xs ∧ TupAt H b ys ∧ xs.length + ys.length ≤ sizeLine ∧ ∀ t H', Same H H' → TupAt H' t (xs ++ ys) → Q (.ref t) H'
theorem op_catM : OpR X (binaryOp .Add) rCatM := by
  intro pins s σ H x y v u Q I rx ry h
  obtain ⟨a, b, xs, ys, rfl, rfl, ha, hb, hz, q⟩ := h
  cases rx
  cases ry
  obtain ⟨its, r1, p1, _⟩ := I.tuple (ha.sq (K := X.K))
  obtain ⟨its2, r2, p2, _⟩ := I.tuple (hb.sq (K := X.K))
  by_cases hx : xs = []
  · subst hx
    cases r1
    exact cat_tup0 p1 p2 ⟨.ref b, H, I, rfl, q b H (Same.refl H) hb⟩
  · refine HT.cat_tup p1 p2 (fun z => hx (r1.nil_iff.mp z)) (fun z => ⟨.ref a, H, I, rfl, q a H (Same.refl H) ?_⟩) (fun z => ?_) (by rw [← r1.length, ← r2.length]; exact hz)
    · rw [r2.nil_iff.mp z, List.append_nil]
      exact ha
    · have hf : H s.heap.objs.size = none := I.hok.fresh (Nat.le_refl _)
      exact ⟨.ref s.heap.objs.size, _, laid_tup (xs := xs ++ ys) I (by rw [List.length_append]; exact hz) (r1.append r2), rfl, q _ _ (same_upd hf) ⟨_, rfl, upd_same⟩⟩
/-- o.m(e, ..) of such a tuple -/
def tBMT (r : V → List V → Hp → VK → Prop) (to : TE) (t : TA) : TE := fun σ H Q => to σ H fun x H1 => (∃ a xs, x = .ref a ∧ TupAt H1 a xs) ∧ t σ H1 fun xs H2 => r x xs H2 Q
theorem pe_bmT {o e : Expr} {es : List Expr} {to : TE} {t : TA} {name : Str} {apos cpos : Pos} {id : String} {r : V → List V → Hp → VK → Prop} (slot : Slot "tuple" name id) (hty : typeOf (.builtin id) = pure (.type "method_descriptor")) (hm : MtR X id r) (ho : PE X o to) (ha : PA X (e :: es) t)
    (hbase : attributeBase o name X.env (eval o X.env) = eval o X.env := by rfl)
    (hfew : ((backTo cpos (starEach (e :: es) X.env)).all (fun x => !x.1) && (backToKw cpos (keywordEach [] X.env)).all (fun x => x.1.isSome)
      && decide ((e :: es).length + ([] : List Keyword).length + (if ([] : List Keyword).isEmpty then 0 else 1) < 30)) = true := by rfl)
    (hline : (apos.endLine == cpos.line) = true := by rfl) (hs : starEach (e :: es) X.env = (false, eval e X.env) :: starEach es X.env := by rfl) (hplain : (backTo cpos (starEach es X.env)).any (·.1) = false := by rfl) :
    PE X (.Call (.Attribute o name apos) (e :: es) [] cpos) (tBMT r to t) := by
  refine ⟨fun pins s σ H Q I h => ?_⟩
  refine wpAny_Call_method_late hbase hfew hline rfl (thn (ho.run pins s σ H _ I h) fun v s1 ⟨x, H1, I1, r1, ty, q1⟩ => ?_)
  obtain ⟨a, xs, ea, oo, hd, hH⟩ := ty
  subst ea
  cases r1
  obtain ⟨g1, g2⟩ := I1.hok _ _ hH
  obtain ⟨_, its, rv, o', g3, g4, _⟩ := g2
  have h1 : s1.TypeIs (.ref a) "tuple" := ⟨o', g3, g4⟩
  have h2 : ∀ b, Value.ref a = .ref b → ∃ ob, s1.heap.get? b = some ob ∧ ob.dict = none := fun b eb => by
    cases eb
    exact ⟨oo, g1, hd⟩
  refine ⟨"tuple", id, PySem.F.plainAttrs_tuple, slot, hty, h1, h2, ?_⟩
  have hA := ha.run cpos pins s1 σ H1 _ I1 q1
  rw [hs] at hA ⊢
  refine Calls.callWith_builtin (by show (false || (backTo cpos (starEach es X.env)).any (·.1)) = false; rw [hplain] <;> rfl) (Calls.evalArgs_plain ?_)
  exact thn hA fun us s2 ⟨vs, H2, I2, r2, q2⟩ => hm pins s2 σ H2 (.ref a) vs (.ref a) us Q I2 rfl r2 q2
end

/-! ### a row: a tuple or a list of names -/
def RowAt (H : Hp) (a : Addr) (row : List Str) : Prop := TupAt H a (row.map V.str) ∨ H a = some (.lst (row.map V.str))
theorem RowAt.same {H H' : Hp} {a : Addr} {row : List Str} (s : Same H H') (h : RowAt H a row) : RowAt H' a row := h.elim (fun e => .inl (e.same s)) (fun e => .inr (s _ _ e))

/-! ### where one comes to -/
def lastP {α : Type} (p : α → Bool) : List α → Option Nat
  | [] => none
  | x :: r => match lastP p r with
    | some k => some (k + 1)
    | none => if p x then some 0 else none
theorem lastP_app {α : Type} (p : α → Bool) (x : α) : ∀ l : List α, lastP p (l ++ [x]) = if p x then some l.length else lastP p l
  | [] => by simp [lastP]
  | y :: l => by
    show (match lastP p (l ++ [x]) with | some k => some (k + 1) | none => if p y then some 0 else none) = _
    rw [lastP_app p x l]
    by_cases h : p x = true
    · rw [if_pos h, if_pos h]
      rfl
    · rw [if_neg h, if_neg h]
      rfl
theorem lastP_take {α : Type} (p : α → Bool) {xs : List α} {i : Nat} {x : α} (h : xs[i]? = some x) : lastP p (xs.take (i + 1)) = if p x then some i else lastP p (xs.take i) := by
  have hi : i < xs.length := (List.getElem?_eq_some_iff.mp h).1
  rw [List.take_add_one, h]
  show lastP p (xs.take i ++ [x]) = _
  rw [lastP_app, List.length_take, Nat.min_eq_left (Nat.le_of_lt hi)]
theorem lastP_some {α : Type} {p : α → Bool} : ∀ {l : List α} {k : Nat}, lastP p l = some k → ∃ x, l[k]? = some x ∧ p x = true ∧ ∀ j y, k < j → l[j]? = some y → p y = false
  | [], k, h => by cases h
  | x :: r, k, h => by
    unfold lastP at h
    cases e : lastP p r with
    | some j =>
      rw [e] at h
      have hk : j + 1 = k := Option.some.inj h
      subst hk
      obtain ⟨y, h1, h2, h3⟩ := lastP_some e
      refine ⟨y, h1, h2, fun j' z hj hz => ?_⟩
      match j', hj, hz with
      | j' + 1, hj, hz => exact h3 j' z (by omega) hz
    | none =>
      rw [e] at h
      by_cases hx : p x = true
      · simp only [hx, if_true] at h
        have hk : 0 = k := Option.some.inj h
        subst hk
        refine ⟨x, rfl, hx, fun j' z hj hz => ?_⟩
        match j', hj, hz with
        | j' + 1, hj, hz => exact lastP_none e j' z hz
      · simp only [hx] at h
        cases h
where lastP_none {α : Type} {p : α → Bool} : ∀ {l : List α}, lastP p l = none → ∀ (j : Nat) (y : α), l[j]? = some y → p y = false
  | [], _, j, y, h => by simp at h
  | x :: r, e, j, y, h => by
    unfold lastP at e
    cases e2 : lastP p r with
    | some k => rw [e2] at e; cases e
    | none =>
      rw [e2] at e
      by_cases hx : p x = true
      · simp only [hx, if_true] at e
        cases e
      · match j, h with
        | 0, h =>
          have : x = y := Option.some.inj h
          subst this
          exact Bool.eq_false_iff.mpr hx
        | j + 1, h => exact lastP_none e2 j y h
theorem lastP_nil {α : Type} {p : α → Bool} : ∀ {l : List α}, lastP p l = none ↔ l.filter p = []
  | [] => by simp [lastP]
  | x :: r => by
    have ih := lastP_nil (p := p) (l := r)
    unfold lastP
    cases e : lastP p r with
    | some k =>
      have : ¬ r.filter p = [] := fun z => by rw [ih.mpr z] at e; cases e
      rw [List.filter_cons]
      by_cases hx : p x = true
      · simp [hx]
      · simp [hx, this]
    | none =>
      have z := ih.mp e
      rw [List.filter_cons, z]
      by_cases hx : p x = true
      · simp [hx]
      · simp [hx]
theorem Goods.at_ {xs : List Str} {i : Nat} {x : Str} (h : Goods xs) (e : xs[i]? = some x) : Good x := h x (List.mem_of_getElem? e)
theorem Goods.filter {xs : List Str} {p : Str → Bool} (h : Goods xs) : Goods (xs.filter p) := fun x hx => h x (List.mem_filter.mp hx).1
def spotOf (ps : List (Str × Str)) (stand : List Str) (x : Str) : Nat := match lastP (frd ps x) stand with
  | some k => k + 1
  | none => stand.length
def comeTo (ps : List (Str × Str)) (stand : List Str) (x : Str) : List Str := stand.take (spotOf ps stand x) ++ [x] ++ stand.drop (spotOf ps stand x)
def standOf (ps : List (Str × Str)) (order : List Str) : List Str := order.foldl (comeTo ps) []
theorem come_perm (ps : List (Str × Str)) (stand : List Str) (x : Str) : (comeTo ps stand x).Perm (x :: stand) := ins_perm _ _ _
theorem standOf_app (ps : List (Str × Str)) (o : List Str) (x : Str) : standOf ps (o ++ [x]) = comeTo ps (standOf ps o) x := by
  unfold standOf
  rw [List.foldl_append]
  rfl
theorem stand_perm_from (ps : List (Str × Str)) : ∀ (o stand : List Str), (o.foldl (comeTo ps) stand).Perm (o ++ stand)
  | [], stand => List.Perm.refl _
  | x :: o, stand => by
    show (o.foldl (comeTo ps) (comeTo ps stand x)).Perm _
    refine (stand_perm_from ps o _).trans ?_
    refine ((come_perm ps stand x).append_left o).trans ?_
    exact List.perm_middle
theorem stand_perm (ps : List (Str × Str)) (o : List Str) : (standOf ps o).Perm o := by
  have h := stand_perm_from ps o []
  rw [List.append_nil] at h
  exact h

/-! ### promises -/
end Lk
set_option maxRecDepth 100000
set_option maxHeartbeats 4000000
namespace Lk
open PySem PySem.Spec PyProof.Rows L2
/-- a tuple that is tracked, either way -/
def TupX (H : Hp) (a : Addr) (xs : List V) : Prop := H a = some (.tup xs) ∨ TupAt H a xs
theorem TupX.same {H H' : Hp} {a : Addr} {xs : List V} (s : Same H H') (h : TupX H a xs) : TupX H' a xs := h.elim (fun e => .inl (s _ _ e)) (fun e => .inr (e.same s))
theorem TupX.sq {K : PySem.W.Frag} {H : Hp} {a : Addr} {xs : List V} (h : TupX H a xs) : SqT K H a xs := h.elim (fun e => .inl (.inl e)) (fun e => e.sq)
theorem TupX.ty {K : PySem.W.Frag} {H : Hp} {a : Addr} {xs : List V} (h : TupX H a xs) : TyX K H (.ref a) (.type "tuple") := h.elim (fun e => .base (.tup e)) (fun ⟨_, _, e⟩ => .fTuple e)
/-- two values that _law_same tells to be the same: scalars, lists, tuples, at most n deep -/
def Alk (H : Hp) : Nat → V → V → Prop
  | 0, _, _ => False
  | n + 1, x, y => ((x = .non ∨ (∃ b, x = .bl b) ∨ (∃ i, x = .int i) ∨ ∃ z, x = .str z) ∧ y = x) ∨
    (∃ a b xs ys, x = .ref a ∧ y = .ref b ∧ H a = some (.lst xs) ∧ H b = some (.lst ys) ∧ xs.length = ys.length ∧ xs.length ≤ 1000 ∧ ∀ (i : Nat) (u v : V), xs[i]? = some u → ys[i]? = some v → Alk H n u v) ∨
    (∃ a b xs ys, x = .ref a ∧ y = .ref b ∧ TupX H a xs ∧ TupX H b ys ∧ xs.length = ys.length ∧ xs.length ≤ 1000 ∧ ∀ (i : Nat) (u v : V), xs[i]? = some u → ys[i]? = some v → Alk H n u v)
theorem Alk.same {H H' : Hp} (s : Same H H') : ∀ {n : Nat} {x y : V}, Alk H n x y → Alk H' n x y
  | 0, _, _, h => h.elim
  | n + 1, x, y, h => by
    rcases h with h | ⟨a, b, xs, ys, e1, e2, h1, h2, hl, hz, h⟩ | ⟨a, b, xs, ys, e1, e2, h1, h2, hl, hz, h⟩
    · exact .inl h
    · exact .inr (.inl ⟨a, b, xs, ys, e1, e2, s _ _ h1, s _ _ h2, hl, hz, fun i u v hu hv => Alk.same s (h i u v hu hv)⟩)
    · exact .inr (.inr ⟨a, b, xs, ys, e1, e2, h1.same s, h2.same s, hl, hz, fun i u v hu hv => Alk.same s (h i u v hu hv)⟩)
theorem alk_int {H : Hp} {n : Nat} (i : Int) : Alk H (n + 1) (.int i) (.int i) := .inl ⟨.inr (.inr (.inl ⟨i, rfl⟩)), rfl⟩
theorem alk_str {H : Hp} {n : Nat} (z : Str) : Alk H (n + 1) (.str z) (.str z) := .inl ⟨.inr (.inr (.inr ⟨z, rfl⟩)), rfl⟩
theorem alk_strsL {H : Hp} {n : Nat} {a b : Addr} {xs : List Str} (h1 : H a = some (.lst (xs.map V.str))) (h2 : H b = some (.lst (xs.map V.str))) (hz : xs.length ≤ 1000) : Alk H (n + 2) (.ref a) (.ref b) :=
  .inr (.inl ⟨a, b, _, _, rfl, rfl, h1, h2, rfl, by rw [List.length_map]; exact hz, fun i u v hu hv => by
    rw [hu] at hv
    cases hv
    obtain ⟨z, _, rfl⟩ := at_map hu
    exact alk_str z⟩)
theorem alk_strsT {H : Hp} {n : Nat} {a b : Addr} {xs : List Str} (h1 : TupX H a (xs.map V.str)) (h2 : TupX H b (xs.map V.str)) (hz : xs.length ≤ 1000) : Alk H (n + 2) (.ref a) (.ref b) :=
  .inr (.inr ⟨a, b, _, _, rfl, rfl, h1, h2, rfl, by rw [List.length_map]; exact hz, fun i u v hu hv => by
    rw [hu] at hv
    cases hv
    obtain ⟨z, _, rfl⟩ := at_map hu
    exact alk_str z⟩)
theorem alk_list2 {H : Hp} {n : Nat} {a b : Addr} {x1 x2 y1 y2 : V} (h1 : H a = some (.lst [x1, x2])) (h2 : H b = some (.lst [y1, y2])) (k1 : Alk H n x1 y1) (k2 : Alk H n x2 y2) : Alk H (n + 1) (.ref a) (.ref b) :=
  .inr (.inl ⟨a, b, _, _, rfl, rfl, h1, h2, rfl, by show 2 ≤ 1000; decide, fun i u v hu hv => by
    match i, hu, hv with
    | 0, hu, hv => cases hu; cases hv; exact k1
    | 1, hu, hv => cases hu; cases hv; exact k2⟩)
def spSame (n : Nat) : Sp := fun vs H Q _ => ∃ x y, vs = [x, y] ∧ Alk H n x y ∧ ∀ H', Same H H' → Q (.bl true) H'
theorem walk_zipT {K : PySem.W.Frag} {a b : Addr} {xs ys : List V} {n : Nat} (hn : n = min xs.length ys.length) : Walk (RZ.ItzT K a b) n (fun H => SqT K H a xs ∧ SqT K H b ys) (YPair (fun i => xs[i]?) (fun i => ys[i]?)) := by
  subst hn
  refine ⟨fun i _ hi q => ?_, fun _ q => ⟨xs, ys, q.1, q.2, by omega⟩, fun i H v H' _ q y => ?_⟩
  · have h1 : i < xs.length := by omega
    have h2 : i < ys.length := by omega
    exact ⟨xs, ys, xs[i], ys[i], q.1, q.2, by simp [h1], by simp [h2]⟩
  · obtain ⟨T, x, z, h1, h2, h3, h4, h5⟩ := y
    exact ⟨T, x, z, h1, h2, h3, h4 xs q.1, h5 ys q.2⟩
end Lk
set_option maxRecDepth 100000
set_option maxHeartbeats 4000000
namespace Lk
open PySem PySem.Spec PyProof.Rows L2

/-! ### the dict of friends, either way about -/
def k2 (a b : Str) : List Key := [Sum.inr a, Sum.inr b]
theorem k2_inj {a b c d : Str} : k2 a b = k2 c d ↔ a = c ∧ b = d := by
  unfold k2
  simp
def KnAt (H : Hp) (d : Addr) (ps : List (Str × Str)) : Prop := ∃ kvs, H d = some (.dT kvs) ∧ ∀ a b, (valV kvs (k2 a b)).isSome = frd ps a b
theorem KnAt.same {H H' : Hp} {d : Addr} {ps : List (Str × Str)} (s : Same H H') (h : KnAt H d ps) : KnAt H' d ps := by
  obtain ⟨kvs, h1, h2⟩ := h
  exact ⟨kvs, s _ _ h1, h2⟩
theorem putK_len {kvs : List (List Key × V)} {k : List Key} {v : V} : (putK kvs k v).length ≤ kvs.length + 1 := by
  unfold putK
  split
  · rw [List.length_map]
    omega
  · rw [List.length_append]
    exact Nat.le_refl _
theorem frd_app (ps : List (Str × Str)) (p : Str × Str) (a b : Str) : frd (ps ++ [p]) a b = (frd ps a b || decide ((a, b) = p) || decide ((b, a) = p)) := by
  unfold frd
  by_cases h1 : (a, b) ∈ ps <;> by_cases h2 : (b, a) ∈ ps <;> by_cases h3 : (a, b) = p <;> by_cases h4 : (b, a) = p <;> simp [h1, h2, h3, h4]
theorem both_put {kvs : List (List Key × V)} {ps : List (Str × Str)} (h : ∀ a b, (valV kvs (k2 a b)).isSome = frd ps a b) (x y : Str) (u v : V) (a b : Str) :
    (valV (putK (putK kvs (k2 x y) u) (k2 y x) v) (k2 a b)).isSome = frd (ps ++ [(x, y)]) a b := by
  rw [valV_put, valV_put, frd_app, ← h a b]
  by_cases h1 : k2 a b = k2 y x
  · rw [if_pos h1]
    obtain ⟨e1, e2⟩ := k2_inj.mp h1
    subst e1 e2
    simp
  · rw [if_neg h1]
    have n1 : ¬ (b, a) = (x, y) := fun z => h1 (k2_inj.mpr ⟨(Prod.mk.inj z).2, (Prod.mk.inj z).1⟩)
    by_cases h2 : k2 a b = k2 x y
    · rw [if_pos h2]
      obtain ⟨e1, e2⟩ := k2_inj.mp h2
      subst e1 e2
      simp
    · rw [if_neg h2]
      have n2 : ¬ (a, b) = (x, y) := fun z => h2 (k2_inj.mpr ⟨(Prod.mk.inj z).1, (Prod.mk.inj z).2⟩)
      simp [n1, n2]

/-! ### places, words -/
def optW (c : Bool) (w : Str) : List Str := if c = true then [w] else []
def lfpV : Option Nat → V
  | none => .non
  | some k => .int k
theorem inV_strs (x : Str) (xs : List Str) : inV (.str x) (xs.map V.str) = decide (x ∈ xs) := by
  unfold inV
  rw [List.any_map]
  induction xs with
  | nil => rfl
  | cons y r ih =>
    rw [List.any_cons, ih]
    show ((y == x) || _) = _
    by_cases h : y = x
    · subst h
      simp
    · have h' : ¬ x = y := fun z => h z.symm
      simp [h, h']
theorem lastP_lt {α : Type} {p : α → Bool} {l : List α} {k : Nat} (h : lastP p l = some k) : k < l.length := by
  obtain ⟨x, hx, _⟩ := lastP_some h
  exact (List.getElem?_eq_some_iff.mp hx).1
def btw (i j : Nat) : Option Nat → Bool
  | none => false
  | some k => decide (k < j) && decide (j < i)
/-- the words by which one, at place i, bars other, at place j -/
def wordsOf (ps : List (Str × Str)) (row : List Str) (one other : Str) (i j : Nat) : List Str :=
  optW (decide (lastP (frd ps one) (row.take i) = none) && decide (i < j)) "behind" ++
  optW (btw i j (lastP (frd ps one) (row.take i))) "between" ++
  optW (decide (i < j) && frd ps one other) "friend"
theorem words_len (ps : List (Str × Str)) (row : List Str) (one other : Str) (i j : Nat) : (wordsOf ps row one other i j).length ≤ 3 := by
  unfold wordsOf optW
  rw [List.length_append, List.length_append]
  have q : ∀ (c : Bool) (w : Str), (if c = true then [w] else []).length ≤ 1 := fun c w => by cases c <;> simp
  have q1 := q (decide (lastP (frd ps one) (row.take i) = none) && decide (i < j)) "behind"
  have q2 := q (btw i j (lastP (frd ps one) (row.take i))) "between"
  have q3 := q (decide (i < j) && frd ps one other) "friend"
  omega

/-! ### index -/
section
variable {X : Cx}
def rIdxL : V → List V → Hp → VK → Prop := fun x xs H Q => ∃ (a : Addr) (ys : List Str) (z : Str) (j : Nat), x = .ref a ∧ xs = [.str z] ∧ H a = some (.lst (ys.map V.str)) ∧ ys[j]? = some z ∧ (∀ m, m < j → ys[m]? ≠ some z) ∧ Q (.int (j : Nat)) H
theorem mt_idxL : MtR X "list.index" rIdxL := by
  intro pins s σ H x xs v us Q I rx rs h
  obtain ⟨a, ys, z, j, rfl, rfl, ha, hj, hno, q⟩ := h
  refine mt_index pins s σ H _ _ v us Q I rx rs ⟨a, ys.map V.str, .str z, j, .str z, rfl, rfl, .inl (.inl ha), rfl, flat_strs ys, ix_map hj, ?_, fun m z' hm hz' => ?_, q⟩
  · show (z == z) = true
    exact beq_self_eq_true z
  · obtain ⟨y, hy, rfl⟩ := at_map hz'
    show (y == z) = false
    exact beq_eq_false_iff_ne.mpr fun e => hno m hm (by rw [hy, e])
end
theorem nd_first {row : List Str} {i : Nat} {x : Str} (hd : row.Nodup) (h : row[i]? = some x) : ∀ m, m < i → row[m]? ≠ some x := fun m hm e => by
  have := nd_ix hd h e
  omega

/-! ### promises of the program -/
def spBoth : Sp := fun vs H Q _ => ∃ (a : Addr) (ps : List (Str × Str)), vs = [.ref a] ∧ FrAt H a ps ∧ ps.length ≤ 1000 ∧ ∀ d H', Same H H' → H d = none → KnAt H' d ps → Q (.ref d) H'
def spLfp : Sp := fun vs H Q _ => ∃ (d r : Addr) (ps : List (Str × Str)) (row : List Str) (who : Str), vs = [.ref d, .ref r, .str who] ∧ KnAt H d ps ∧ RowAt H r row ∧ row.length ≤ 100 ∧
  ∀ H', Same H H' → Q (lfpV (lastP (frd ps who) row)) H'
def spBarW : Sp := fun vs H Q _ => ∃ (d r : Addr) (ps : List (Str × Str)) (row : List Str) (one other : Str) (i j : Nat), vs = [.ref d, .ref r, .str one, .str other] ∧ KnAt H d ps ∧ RowAt H r row ∧ row.length ≤ 100 ∧ row.Nodup ∧ row[i]? = some one ∧ row[j]? = some other ∧
  ∀ p H', Same H H' → H p = none → H' p = some (.lst ((wordsOf ps row one other i j).map V.str)) → Q (.ref p) H'
def spBars : Sp := fun vs H Q _ => ∃ (a r : Addr) (ps : List (Str × Str)) (row : List Str) (one other : Str) (i j : Nat), vs = [.ref a, .ref r, .str one, .str other] ∧ FrAt H a ps ∧ ps.length ≤ 1000 ∧ RowAt H r row ∧ row.length ≤ 100 ∧ row.Nodup ∧ row[i]? = some one ∧ row[j]? = some other ∧
  ∀ p H', Same H H' → H p = none → H' p = some (.lst ((wordsOf ps row one other i j).map V.str)) → Q (.ref p) H'
/-! ### .. and of the law's own words -/
def spLaw (K : PySem.W.Frag) : Sp := fun vs H Q _ => ∃ (a : Addr) (ns : List Int), vs = [.ref a] ∧ SqL K H a (ns.map V.int) ∧ ns.length ≤ 63 ∧ ∀ H', Q (.bl true) H'
/-! ### calls by keywords that stand in the parameters' order turned about -/
theorem vals_rev : ∀ {xs : List V} {us : List Value}, Vals xs us → Vals xs.reverse us.reverse
  | _, _, .nil => .nil
  | _, _, .cons r t => by
    rw [List.reverse_cons, List.reverse_cons]
    exact (vals_rev t).append (.cons r .nil)
/-- no positional ones, the keywords turned about -/
def gRev {α : Type} : List α → List α → List α
  | [], ws => ws.reverse
  | _ :: _, _ => []
theorem kbinds_rev {K : PySem.W.Frag} {x qual : Str} {st : Stmt} {f : Addr} {fd : FuncData} {ps ks : List Str} (F : Fun K x qual st f fd) (hp : ps ≠ [])
    (h : ∀ (kV doc pm : Value) (an : Option Addr) (cdv ct : Value) (ws : List Value), ws.length = ps.length → bindArgs (PySem.W.fnOf x qual (defArgs st) (defBody st) (defScope st) .none kV doc pm an cdv ct) ⟨[], ks.zip ws⟩ = pure (ps.zip ws.reverse)) :
    KBinds K fd ps ks gRev gRev := by
  obtain ⟨oc, od, kV, doc, pm, an, cdv, ct, osl, rfl, lk, hcd⟩ := F.ex
  refine ⟨fun s us ws _ hl => ?_, fun {vs us zs ws} r1 r2 => ?_⟩
  · cases us with
    | nil =>
      have hl' : ws.reverse.length = ps.length := hl
      rw [List.length_reverse] at hl'
      exact .of_eq (h kV doc pm an cdv ct ws hl')
    | cons u us =>
      have hl' : 0 = ps.length := hl
      exact absurd (List.length_eq_zero_iff.mp hl'.symm) hp
  · cases r1 with
    | nil => exact vals_rev r2
    | cons _ _ => exact .nil
end Lk
set_option maxRecDepth 100000
set_option maxHeartbeats 4000000
namespace Lk
open PySem PySem.Spec PyProof.Rows L2

/-! ### who can have come last -/
theorem lastP_append {α : Type} (p : α → Bool) (b : List α) : ∀ a : List α, lastP p (a ++ b) = match lastP p b with | some k => some (a.length + k) | none => lastP p a
  | [] => by
    show lastP p b = _
    cases lastP p b with
    | none => rfl
    | some k => simp
  | x :: a => by
    have ih := lastP_append p b a
    show (match lastP p (a ++ b) with | some k => some (k + 1) | none => if p x then some 0 else none) = _
    rw [ih]
    cases lastP p b with
    | none => rfl
    | some k =>
      show some (a.length + k + 1) = some ((x :: a).length + k)
      rw [List.length_cons]
      congr 1
      omega
/-- the one at place i is loose -/
def looseB (ps : List (Str × Str)) (row : List Str) (i : Nat) (x : Str) : Bool := match lastP (frd ps x) row with
  | none => decide (i + 1 = row.length)
  | some k => decide (k + 1 = i)
theorem split_at {α : Type} {row : List α} {i : Nat} {x : α} (h : row[i]? = some x) : row = row.take i ++ x :: row.drop (i + 1) := by
  have hi : i < row.length := (List.getElem?_eq_some_iff.mp h).1
  have e := List.getElem?_eq_getElem hi
  rw [h] at e
  have e2 : x = row[i] := Option.some.inj e
  rw [e2, ← List.drop_eq_getElem_cons hi, List.take_append_drop]
theorem ins_eq {α : Type} {a b : List α} {x : α} {s : Nat} (hx : x ∉ a ++ b) (hs : s ≤ (a ++ b).length) (h : (a ++ b).take s ++ [x] ++ (a ++ b).drop s = a ++ x :: b) : s = a.length := by
  have e1 : ((a ++ b).take s ++ [x] ++ (a ++ b).drop s)[s]? = some x := by
    rw [List.append_assoc, List.getElem?_append_right (by rw [List.length_take]; omega), List.length_take, Nat.min_eq_left hs, Nat.sub_self]
    rfl
  rw [h] at e1
  by_cases h1 : s < a.length
  · rw [List.getElem?_append_left h1] at e1
    exact absurd (List.mem_append_left b (List.mem_of_getElem? e1)) hx
  · rw [List.getElem?_append_right (by omega)] at e1
    cases h2 : s - a.length with
    | zero => omega
    | succ m =>
      rw [h2, List.getElem?_cons_succ] at e1
      exact absurd (List.mem_append_right a (List.mem_of_getElem? e1)) hx
theorem loose_iff {ps : List (Str × Str)} {row : List Str} {i : Nat} {x : Str} (hd : row.Nodup) (h : row[i]? = some x) (irr : frd ps x x = false) :
    decide (comeTo ps (row.take i ++ row.drop (i + 1)) x = row) = looseB ps row i x := by
  have hi : i < row.length := (List.getElem?_eq_some_iff.mp h).1
  have sp := split_at h
  generalize ha : row.take i = a at sp
  generalize hb : row.drop (i + 1) = b at sp
  have la : a.length = i := by
    rw [← ha, List.length_take]
    omega
  have nx : x ∉ a ++ b := by
    rw [sp] at hd
    have q : (x :: (a ++ b)).Nodup := (List.perm_middle.nodup_iff).mp hd
    exact (List.nodup_cons.mp q).1
  have lr : row.length = a.length + b.length + 1 := by
    rw [sp, List.length_append, List.length_cons]
    omega
  have key : comeTo ps (a ++ b) x = row ↔ spotOf ps (a ++ b) x = i := by
    constructor
    · intro e
      rw [← la]
      refine ins_eq (s := spotOf ps (a ++ b) x) nx ?_ (e.trans sp)
      unfold spotOf
      split
      · rename_i k ek
        have := lastP_lt ek
        omega
      · exact Nat.le_refl _
    · intro e
      unfold comeTo
      rw [e, ← la, List.take_left' rfl, List.drop_left' rfl, List.append_assoc]
      exact sp.symm
  have e1 : lastP (frd ps x) (x :: b) = (lastP (frd ps x) b).map (· + 1) := by
    show (match lastP (frd ps x) b with | some k => some (k + 1) | none => if frd ps x x then some 0 else none) = _
    rw [irr]
    cases lastP (frd ps x) b <;> rfl
  have e2 : lastP (frd ps x) row = match lastP (frd ps x) (x :: b) with | some k => some (a.length + k) | none => lastP (frd ps x) a := by
    rw [← lastP_append, ← sp]
  have e3 := lastP_append (frd ps x) b a
  rw [e1] at e2
  have fin : (spotOf ps (a ++ b) x = i) ↔ looseB ps row i x = true := by
    unfold looseB spotOf
    rw [e2, e3]
    cases lastP (frd ps x) b with
    | some k =>
      show (a.length + k + 1 = i) ↔ decide (a.length + (k + 1) + 1 = i) = true
      rw [decide_eq_true_eq]
      omega
    | none =>
      cases lastP (frd ps x) a with
      | some k =>
        show (k + 1 = i) ↔ decide (k + 1 = i) = true
        rw [decide_eq_true_eq]
      | none =>
        show ((a ++ b).length = i) ↔ decide (i + 1 = row.length) = true
        rw [decide_eq_true_eq, List.length_append]
        omega
  cases c : looseB ps row i x with
  | true => exact decide_eq_true (key.mpr (fin.mpr c))
  | false => exact decide_eq_false (fun z => by rw [fin.mp (key.mp z)] at c; cases c)
/-- all that are loose, in the row's order -/
def looseL (ps : List (Str × Str)) (row : List Str) : List Str := (row.zipIdx.filter fun p => looseB ps row p.2 p.1).map (·.1)
def looseTo (ps : List (Str × Str)) (row : List Str) (n : Nat) : List Str := ((row.zipIdx.take n).filter fun p => looseB ps row p.2 p.1).map (·.1)
theorem looseTo_step {ps : List (Str × Str)} {row : List Str} {i : Nat} {x : Str} (h : row[i]? = some x) : looseTo ps row (i + 1) = looseTo ps row i ++ if looseB ps row i x = true then [x] else [] := by
  have e : row.zipIdx[i]? = some (x, i) := by
    rw [List.getElem?_zipIdx, h]
    simp
  unfold looseTo
  rw [List.take_add_one, e, List.filter_append, List.map_append]
  show _ ++ List.map (·.1) (List.filter _ [(x, i)]) = _
  rw [List.filter_cons, List.filter_nil]
  show _ ++ List.map (·.1) (if looseB ps row i x = true then [(x, i)] else []) = _
  by_cases c : looseB ps row i x = true
  · rw [if_pos c, if_pos c]
    rfl
  · rw [if_neg c, if_neg c]
    rfl
theorem looseTo_all (ps : List (Str × Str)) (row : List Str) : looseTo ps row row.length = looseL ps row := by
  unfold looseTo looseL
  rw [List.take_of_length_le (by rw [List.length_zipIdx]; exact Nat.le_refl _)]
theorem looseTo_len (ps : List (Str × Str)) (row : List Str) (n : Nat) : (looseTo ps row n).length ≤ row.length := by
  unfold looseTo
  rw [List.length_map]
  refine Nat.le_trans (List.length_filter_le _ _) ?_
  rw [List.length_take, List.length_zipIdx]
  omega
theorem looseL_mem {ps : List (Str × Str)} {row : List Str} {i : Nat} {x : Str} (hd : row.Nodup) (h : row[i]? = some x) : decide (x ∈ looseL ps row) = looseB ps row i x := by
  unfold looseL
  have e : (x ∈ (row.zipIdx.filter fun p => looseB ps row p.2 p.1).map (·.1)) ↔ looseB ps row i x = true := by
    constructor
    · intro m
      obtain ⟨⟨y, j⟩, hp, rfl⟩ := List.mem_map.mp m
      obtain ⟨h1, h2⟩ := List.mem_filter.mp hp
      have h3 : row[j]? = some y := by
        have q := List.mem_zipIdx_iff_getElem?.mp h1
        exact q
      have ej := nd_ix hd h3 h
      rw [← ej]
      exact h2
    · intro c
      refine List.mem_map.mpr ⟨(x, i), List.mem_filter.mpr ⟨?_, c⟩, rfl⟩
      exact List.mem_zipIdx_iff_getElem?.mpr h
  cases c : looseB ps row i x with
  | true => exact decide_eq_true (e.mpr c)
  | false => exact decide_eq_false (fun z => by rw [e.mp z] at c; cases c)

/-! ### promises -/
def spLooseAt : Sp := fun vs H Q _ => ∃ (d r : Addr) (ps : List (Str × Str)) (row : List Str) (x : Str) (i : Nat), vs = [.ref d, .ref r, .int i] ∧ KnAt H d ps ∧ RowAt H r row ∧ row.length ≤ 100 ∧ row[i]? = some x ∧
  ∀ H', Same H H' → Q (.bl (looseB ps row i x)) H'
def spLooseIn : Sp := fun vs H Q _ => ∃ (a r : Addr) (ps : List (Str × Str)) (row : List Str), vs = [.ref a, .ref r] ∧ FrAt H a ps ∧ ps.length ≤ 1000 ∧ RowAt H r row ∧ row.length ≤ 100 ∧
  ∀ p H', Same H H' → H p = none → H' p = some (.lst ((looseL ps row).map V.str)) → Q (.ref p) H'
end Lk
set_option maxRecDepth 100000
set_option maxHeartbeats 4000000
namespace Lk
open PySem PySem.Spec PyProof.Rows L2

/-! ### whichever go, the same are left -/
def LooseP (ps : List (Str × Str)) (a b : List Str) (x : Str) : Prop :=
  (∀ y ∈ b, frd ps x y = false) ∧ ((∃ a' f, a = a' ++ [f] ∧ frd ps x f = true) ∨ ((∀ y ∈ a, frd ps x y = false) ∧ b = []))
theorem lastP_no {α : Type} {p : α → Bool} {l : List α} : lastP p l = none ↔ ∀ y ∈ l, p y = false := by
  rw [lastP_nil]
  constructor
  · intro h y hy
    cases c : p y with
    | false => rfl
    | true =>
      have m : y ∈ l.filter p := List.mem_filter.mpr ⟨hy, c⟩
      rw [h] at m
      cases m
  · intro h
    refine List.filter_eq_nil_iff.mpr fun y hy => ?_
    rw [h y hy]
    exact Bool.false_ne_true
theorem lastP_end {α : Type} {p : α → Bool} {l : List α} {k : Nat} (h : lastP p l = some k) (e : k + 1 = l.length) : ∃ l' f, l = l' ++ [f] ∧ p f = true := by
  obtain ⟨f, h1, h2, _⟩ := lastP_some h
  refine ⟨l.take k, f, ?_, h2⟩
  have q := split_at h1
  rw [List.drop_eq_nil_of_le (by omega)] at q
  exact q
theorem looseB_iff {ps : List (Str × Str)} {row a b : List Str} {x : Str} (h : row = a ++ x :: b) (irr : frd ps x x = false) : looseB ps row a.length x = true ↔ LooseP ps a b x := by
  have e1 : lastP (frd ps x) (x :: b) = (lastP (frd ps x) b).map (· + 1) := by
    show (match lastP (frd ps x) b with | some k => some (k + 1) | none => if frd ps x x then some 0 else none) = _
    rw [irr]
    cases lastP (frd ps x) b <;> rfl
  have e2 : lastP (frd ps x) row = match lastP (frd ps x) (x :: b) with | some k => some (a.length + k) | none => lastP (frd ps x) a := by
    rw [h]
    exact lastP_append (frd ps x) (x :: b) a
  rw [e1] at e2
  have lr : row.length = a.length + b.length + 1 := by
    rw [h, List.length_append, List.length_cons]
    omega
  unfold looseB LooseP
  rw [e2]
  cases eb : lastP (frd ps x) b with
  | some k =>
    obtain ⟨f, h1, h2, _⟩ := lastP_some eb
    show decide (a.length + (k + 1) + 1 = a.length) = true ↔ _
    rw [decide_eq_true_eq]
    constructor
    · intro z
      omega
    · rintro ⟨z, _⟩
      rw [z f (List.mem_of_getElem? h1)] at h2
      cases h2
  | none =>
    have nb := lastP_no.mp eb
    cases ea : lastP (frd ps x) a with
    | some k =>
      show decide (k + 1 = a.length) = true ↔ _
      rw [decide_eq_true_eq]
      obtain ⟨f, h1, h2, h3⟩ := lastP_some ea
      constructor
      · intro z
        exact ⟨nb, .inl (lastP_end ea z)⟩
      · rintro ⟨_, ⟨a', f', rfl, z⟩ | ⟨z, _⟩⟩
        · rw [List.length_append]
          show k + 1 = a'.length + 1
          have hk := (List.getElem?_eq_some_iff.mp h1).1
          rw [List.length_append] at hk
          have hk' : k < a'.length + 1 := hk
          by_cases c : k < a'.length
          · have q := h3 a'.length f' c (by simp)
            rw [q] at z
            cases z
          · omega
        · rw [z f (List.mem_of_getElem? h1)] at h2
          cases h2
    | none =>
      have na := lastP_no.mp ea
      show decide (a.length + 1 = row.length) = true ↔ _
      rw [decide_eq_true_eq]
      constructor
      · intro z
        exact ⟨nb, .inr ⟨na, List.length_eq_zero_iff.mp (by omega)⟩⟩
      · rintro ⟨_, ⟨a', f', rfl, z⟩ | ⟨_, z⟩⟩
        · rw [na f' (by simp)] at z
          cases z
        · rw [z] at lr
          simpa using lr.symm
def LooseIn (ps : List (Str × Str)) (row : List Str) (x : Str) : Prop := ∃ a b, row = a ++ x :: b ∧ LooseP ps a b x
def Irr (ps : List (Str × Str)) : Prop := ∀ x, frd ps x x = false
def rem (row : List Str) (x : Str) : List Str := row.filter fun y => !decide (y = x)
theorem rem_split {a b : List Str} {x : Str} (hd : (a ++ x :: b).Nodup) : rem (a ++ x :: b) x = a ++ b := by
  have q : (x :: (a ++ b)).Nodup := (List.perm_middle.nodup_iff).mp hd
  have nx := (List.nodup_cons.mp q).1
  unfold rem
  rw [List.filter_append, List.filter_cons]
  have e1 : a.filter (fun y => !decide (y = x)) = a := List.filter_eq_self.mpr fun y hy => by
    have : ¬ y = x := fun z => nx (List.mem_append_left b (z ▸ hy))
    simp [this]
  have e2 : b.filter (fun y => !decide (y = x)) = b := List.filter_eq_self.mpr fun y hy => by
    have : ¬ y = x := fun z => nx (List.mem_append_right a (z ▸ hy))
    simp [this]
  rw [e1, e2]
  simp
theorem rem_nodup {row : List Str} {x : Str} (hd : row.Nodup) : (rem row x).Nodup := hd.filter _
theorem rem_comm (row : List Str) (x y : Str) : rem (rem row x) y = rem (rem row y) x := by
  unfold rem
  rw [List.filter_filter, List.filter_filter]
  refine List.filter_congr fun z _ => ?_
  exact Bool.and_comm _ _
theorem rem_len {row : List Str} {x : Str} (hd : row.Nodup) (hx : x ∈ row) : (rem row x).length + 1 = row.length := by
  obtain ⟨a, b, rfl⟩ := List.append_of_mem hx
  rw [rem_split hd, List.length_append, List.length_append, List.length_cons]
  omega
theorem LooseIn.mem {ps : List (Str × Str)} {row : List Str} {x : Str} (h : LooseIn ps row x) : x ∈ row := by
  obtain ⟨a, b, rfl, _⟩ := h
  simp
theorem split_uniq {row a b c d : List Str} {x : Str} (hd : row.Nodup) (h1 : row = a ++ x :: b) (h2 : row = c ++ x :: d) : a = c ∧ b = d := by
  have e1 : row[a.length]? = some x := by rw [h1]; simp
  have e2 : row[c.length]? = some x := by rw [h2]; simp
  have l := nd_ix hd e1 e2
  have e := h1.symm.trans h2
  have q := List.append_inj e l
  exact ⟨q.1, (List.cons.inj q.2).2⟩
theorem looseL_iff {ps : List (Str × Str)} {row : List Str} {x : Str} (irr : Irr ps) (hd : row.Nodup) : x ∈ looseL ps row ↔ LooseIn ps row x := by
  constructor
  · intro h
    have hx : x ∈ row := by
      unfold looseL at h
      obtain ⟨⟨y, j⟩, hp, rfl⟩ := List.mem_map.mp h
      exact List.mem_of_getElem? (List.mem_zipIdx_iff_getElem?.mp (List.mem_filter.mp hp).1)
    obtain ⟨a, b, e⟩ := List.append_of_mem hx
    have ei : row[a.length]? = some x := by rw [e]; simp
    have q := looseL_mem (ps := ps) hd ei
    rw [decide_eq_true h] at q
    exact ⟨a, b, e, (looseB_iff e (irr x)).mp q.symm⟩
  · rintro ⟨a, b, e, h⟩
    have ei : row[a.length]? = some x := by rw [e]; simp
    have q := looseL_mem (ps := ps) hd ei
    rw [(looseB_iff e (irr x)).mpr h] at q
    exact of_decide_eq_true q
/-- the lemma: of two that are loose each is so without the other -/
theorem diamond {ps : List (Str × Str)} {row : List Str} {x y : Str} (hd : row.Nodup) (hx : LooseIn ps row x) (hy : LooseIn ps row y) (ne : x ≠ y) : LooseIn ps (rem row y) x := by
  obtain ⟨a, b, e, h1, h2⟩ := hx
  have my : y ∈ row := hy.mem
  obtain ⟨c, d, e', g1, g2⟩ := hy
  have my' : y ∈ a ∨ y ∈ b := by
    rw [e] at my
    rcases List.mem_append.mp my with z | z
    · exact .inl z
    · rcases List.mem_cons.mp z with z | z
      · exact absurd z.symm ne
      · exact .inr z
  rcases my' with m | m
  · obtain ⟨a1, a2, rfl⟩ := List.append_of_mem m
    have e2 : row = a1 ++ y :: (a2 ++ x :: b) := by rw [e]; simp
    have er : rem row y = (a1 ++ a2) ++ x :: b := by
      rw [e2, rem_split (by rw [← e2]; exact hd)]
      simp
    refine ⟨a1 ++ a2, b, er, h1, ?_⟩
    obtain ⟨_, u2⟩ := split_uniq hd e2 e'
    rcases h2 with ⟨a', f, ea, hf⟩ | ⟨na, nb⟩
    · rcases List.eq_nil_or_concat a2 with z | ⟨l, g, z⟩
      · subst z
        have q := List.append_inj' ea (by rfl)
        have ey : y = f := (List.cons.inj q.2).1
        have bad := g1 x (by rw [← u2]; simp)
        rw [frd_comm, ey, hf] at bad
        cases bad
      · rw [List.concat_eq_append] at z
        subst z
        have ea' : (a1 ++ y :: l) ++ [g] = a' ++ [f] := by rw [← ea]; simp
        have q := List.append_inj' ea' rfl
        have eg : g = f := (List.cons.inj q.2).1
        exact .inl ⟨a1 ++ l, g, by simp, by rw [eg]; exact hf⟩
    · exact .inr ⟨fun z hz => na z (by
        rcases List.mem_append.mp hz with w | w
        · exact List.mem_append_left _ w
        · exact List.mem_append_right _ (List.mem_cons_of_mem _ w)), nb⟩
  · obtain ⟨b1, b2, rfl⟩ := List.append_of_mem m
    have e2 : row = (a ++ x :: b1) ++ y :: b2 := by rw [e]; simp
    have er : rem row y = a ++ x :: (b1 ++ b2) := by
      rw [e2, rem_split (by rw [← e2]; exact hd)]
      simp
    refine ⟨a, b1 ++ b2, er, fun z hz => h1 z (by
        rcases List.mem_append.mp hz with w | w
        · exact List.mem_append_left _ w
        · exact List.mem_append_right _ (List.mem_cons_of_mem _ w)), ?_⟩
    rcases h2 with h | ⟨_, z⟩
    · exact .inl h
    · exact absurd z (by simp)
/-- one behind the other, loose ones that needn't stay go -/
inductive Red (ps : List (Str × Str)) (stay : List Str) : List Str → List Str → Prop where
  | done (row : List Str) : Red ps stay row row
  | go {row n : List Str} (x : Str) (h : LooseIn ps row x) (hs : x ∉ stay) (t : Red ps stay (rem row x) n) : Red ps stay row n
def Nf (ps : List (Str × Str)) (stay row : List Str) : Prop := ∀ x, LooseIn ps row x → x ∈ stay
theorem Red.swap {ps : List (Str × Str)} {stay row n : List Str} (h : Red ps stay row n) : row.Nodup → Nf ps stay n → ∀ x, LooseIn ps row x → x ∉ stay → Red ps stay (rem row x) n := by
  induction h with
  | done row => intro _ hn x hx hs; exact absurd (hn x hx) hs
  | @go row n y hy ys t ih =>
    intro hd hn x hx hs
    by_cases e : x = y
    · subst e
      exact t
    · have h1 := diamond hd hx hy e
      have h2 := diamond hd hy hx (fun z => e z.symm)
      have q := ih (rem_nodup hd) hn x h1 hs
      rw [rem_comm] at q
      exact .go y h2 ys q
theorem Red.trans {ps : List (Str × Str)} {stay row n m : List Str} (h : Red ps stay row n) : Red ps stay n m → Red ps stay row m := by
  induction h with
  | done row => exact fun q => q
  | go x hx hs _ ih => exact fun q => .go x hx hs (ih q)
/-- who comes is loose -/
theorem come_loose (ps : List (Str × Str)) (stand : List Str) (x : Str) : LooseIn ps (comeTo ps stand x) x := by
  refine ⟨stand.take (spotOf ps stand x), stand.drop (spotOf ps stand x), by unfold comeTo; simp, ?_, ?_⟩
  · intro y hy
    unfold spotOf at hy
    cases e : lastP (frd ps x) stand with
    | none =>
      rw [e] at hy
      exact lastP_no.mp e y (List.mem_of_mem_drop hy)
    | some k =>
      rw [e] at hy
      obtain ⟨f, h1, h2, h3⟩ := lastP_some e
      obtain ⟨j, hj⟩ := List.mem_iff_getElem?.mp hy
      rw [List.getElem?_drop] at hj
      exact h3 _ y (by show k < k + 1 + j; omega) hj
  · unfold spotOf
    cases e : lastP (frd ps x) stand with
    | none =>
      refine .inr ⟨fun y hy => lastP_no.mp e y (List.mem_of_mem_take hy), ?_⟩
      show stand.drop stand.length = []
      exact List.drop_length
    | some k =>
      obtain ⟨f, h1, h2, h3⟩ := lastP_some e
      refine .inl ⟨stand.take k, f, ?_, h2⟩
      show stand.take (k + 1) = _
      rw [List.take_add_one, h1]
      rfl
theorem come_rem {ps : List (Str × Str)} {stand : List Str} {x : Str} (hd : (x :: stand).Nodup) : rem (comeTo ps stand x) x = stand := by
  have e : comeTo ps stand x = stand.take (spotOf ps stand x) ++ x :: stand.drop (spotOf ps stand x) := by
    unfold comeTo
    simp
  have hn : (comeTo ps stand x).Nodup := (come_perm ps stand x).nodup_iff.mpr hd
  rw [e] at hn ⊢
  rw [rem_split hn, List.take_append_drop]
/-- who is loose, taken out, comes in there again -/
theorem loose_come {ps : List (Str × Str)} {row : List Str} {x : Str} (irr : Irr ps) (hd : row.Nodup) (h : LooseIn ps row x) : comeTo ps (rem row x) x = row := by
  obtain ⟨a, b, e, hp⟩ := h
  have ei : row[a.length]? = some x := by rw [e]; simp
  have q := loose_iff (ps := ps) hd ei (irr x)
  rw [(looseB_iff e (irr x)).mpr hp] at q
  have z := of_decide_eq_true q
  have er : rem row x = row.take a.length ++ row.drop (a.length + 1) := by
    rw [e, rem_split (by rw [← e]; exact hd)]
    simp
  rw [er]
  exact z
/-! ### two more comparisons -/
section
variable {X : Cx}
end
theorem Goods.rem {xs : List Str} {x : Str} (h : Goods xs) : Goods (Lk.rem xs x) := h.filter
theorem looseL_sub {ps : List (Str × Str)} {row : List Str} {x : Str} (h : x ∈ looseL ps row) : x ∈ row := by
  unfold looseL at h
  obtain ⟨⟨y, j⟩, hp, rfl⟩ := List.mem_map.mp h
  exact List.mem_of_getElem? (List.mem_zipIdx_iff_getElem?.mp (List.mem_filter.mp hp).1)
/-! ### promises -/
def spHostP : Sp := fun vs H Q _ => ∃ (d r : Addr) (ps : List (Str × Str)) (row : List Str) (who : Str), vs = [.ref d, .ref r, .str who] ∧ KnAt H d ps ∧ RowAt H r row ∧ row.length ≤ 100 ∧ who ∉ row ∧
  ∀ H', Same H H' → Q (lfpV (lastP (frd ps who) row)) H'
def spStood : Sp := fun vs H Q _ => ∃ (d r : Addr) (ps : List (Str × Str)) (row : List Str) (who : Str), vs = [.ref d, .ref r, .str who] ∧ KnAt H d ps ∧ RowAt H r row ∧ row.length ≤ 100 ∧ who ∉ row ∧
  ∀ t H', Same H H' → TupAt H' t ((comeTo ps row who).map V.str) → Q (.ref t) H'
def spLetIn : Sp := fun vs H Q _ => ∃ (a r : Addr) (ps : List (Str × Str)) (row : List Str) (who : Str), vs = [.ref a, .ref r, .str who] ∧ FrAt H a ps ∧ ps.length ≤ 1000 ∧ RowAt H r row ∧ row.length ≤ 100 ∧ who ∉ row ∧
  ∀ t H', Same H H' → TupAt H' t ((comeTo ps row who).map V.str) → Q (.ref t) H'
end Lk
set_option maxRecDepth 100000
set_option maxHeartbeats 4000000
namespace Lk
open PySem PySem.Spec PyProof.Rows L2

/-! ### how many that came later stand ahead -/
abbrev B3N := Addr × Str × Nat
def refsN (qs : List B3N) : List V := qs.map fun q => V.ref q.1
def PairsN (H : Hp) (qs : List B3N) : Prop := ∀ q ∈ qs, H q.1 = some (.tup [.str q.2.1, .int q.2.2])
theorem PairsN.same {H H' : Hp} {qs : List B3N} (s : Same H H') (h : PairsN H qs) : PairsN H' qs := fun b hb => s _ _ (h b hb)
theorem PairsN.oth {H H' : Hp} {b : Addr} {qs : List B3N} (s : Oth b H H') (hb : IsBox H b) (h : PairsN H qs) : PairsN H' qs := fun c hc => s _ _ (hb.ne_tup (h c hc)) (h c hc)
theorem PairsN.upd_ {H : Hp} {l : Addr} {ys : List V} {o' : HO} {qs : List B3N} (hl : H l = some (.lst ys)) (h : PairsN H qs) : PairsN (upd H l o') qs := fun c hc => (upd_ne (ne_of (h c hc) hl (fun z => nomatch z))).trans (h c hc)
theorem alk_pairsN {H : Hp} {n : Nat} {a b : Addr} {qs rs : List B3N} (h1 : H a = some (.lst (refsN qs))) (h2 : H b = some (.lst (refsN rs))) (p1 : PairsN H qs) (p2 : PairsN H rs) (e : qs.map (·.2) = rs.map (·.2)) (hz : qs.length ≤ 1000) : Alk H (n + 3) (.ref a) (.ref b) := by
  have el : qs.length = rs.length := by
    have := congrArg List.length e
    rw [List.length_map, List.length_map] at this
    exact this
  refine .inr (.inl ⟨a, b, _, _, rfl, rfl, h1, h2, by show (qs.map _).length = (rs.map _).length; rw [List.length_map, List.length_map]; exact el, by show (qs.map _).length ≤ 1000; rw [List.length_map]; exact hz, fun i u v hu hv => ?_⟩)
  obtain ⟨q, hq, rfl⟩ := at_map hu
  obtain ⟨r, hr, rfl⟩ := at_map hv
  have e1 : (qs.map (·.2))[i]? = some q.2 := by rw [List.getElem?_map, hq]; rfl
  have e2 : (rs.map (·.2))[i]? = some r.2 := by rw [List.getElem?_map, hr]; rfl
  rw [e, e2] at e1
  have e3 : r.2 = q.2 := Option.some.inj e1
  have k1 := p1 q (List.mem_of_getElem? hq)
  have k2 := p2 r (List.mem_of_getElem? hr)
  rw [e3] at k2
  refine .inr (.inr ⟨q.1, r.1, _, _, rfl, rfl, .inl k1, .inl k2, rfl, by show 2 ≤ 1000; decide, fun j u v hu hv => ?_⟩)
  match j, hu, hv with
  | 0, hu, hv => cases hu; cases hv; exact alk_str _
  | 1, hu, hv => cases hu; cases hv; exact alk_int _
def laterB (order : List Str) (x y : Str) : Bool := decide (order.idxOf x < order.idxOf y)
def backTo_ (order row : List Str) (n : Nat) : List (Str × Nat) := (row.zipIdx.take n).map fun p => (p.1, ((row.take p.2).filter (laterB order p.1)).length)
theorem backTo_step {order row : List Str} {i : Nat} {x : Str} (h : row[i]? = some x) : backTo_ order row (i + 1) = backTo_ order row i ++ [(x, ((row.take i).filter (laterB order x)).length)] := by
  have e : row.zipIdx[i]? = some (x, i) := by
    rw [List.getElem?_zipIdx, h]
    simp
  unfold backTo_
  rw [List.take_add_one, e, List.map_append]
  rfl
theorem idx_at {order : List Str} {i : Nat} {x : Str} (hd : order.Nodup) (h : order[i]? = some x) : order.idxOf x = i := by
  have hx : x ∈ order := List.mem_of_getElem? h
  have hl : order.idxOf x < order.length := List.idxOf_lt_length_iff.mpr hx
  have e : order[order.idxOf x]? = some x := by
    rw [List.getElem?_eq_getElem hl, List.getElem_idxOf]
  exact nd_ix hd e h
/-! ### a walk's dict comprehension -/
theorem dc_it {J : It} {n : Nat} {G : Hp → Prop} {Y : Nat → Hp → V → Hp → Prop} (w : Walk J n G Y) {g : TG} {tt : TT} {tk tv : TE} {vs : List Nat} {σ : L2.St} {H1 : Hp} {D : Addr} {Qd : Hp → Prop} (Pv : Nat → Hp → Prop) (h0 : Pv 0 (upd H1 D (.dK []))) (hG : ∀ i H, i ≤ n → Pv i H → G H)
    (hs : ∀ i x H H', i < n → Pv i H → Y i H x H' → g x (wipe σ vs) H' fun σ2 H2 => wipe σ2 vs = wipe σ vs ∧ tt σ2 H2 fun b H3 =>
      if b = true then tk σ2 H3 fun y H4 => tv σ2 H4 fun z H5 => ∃ kvs k, y = kV k ∧ H5 D = some (.dK kvs) ∧ kvs.length < sizeLine ∧ Pv (i + 1) (upd H5 D (.dK (putK kvs k z))) else Pv (i + 1) H3) (hd : ∀ H, Pv n H → Qd H) :
    ∃ W : Nat → Nat → Hp → Prop, (∃ m, W 0 m (upd H1 D (.dK []))) ∧ ∀ i m H, W i m H →
      (J.stop i H ∧ Qd H) ∨ (J.go i H ∧ ∃ Nx : Hp → Prop, (∀ H', Nx H' → ∃ m', m' < m ∧ W (i + 1) m' H') ∧ ∀ x H', J.yld i H x H' → g x (wipe σ vs) H' fun σ2 H2 => wipe σ2 vs = wipe σ vs ∧ tt σ2 H2 fun b H3 =>
        if b = true then tk σ2 H3 fun y H4 => tv σ2 H4 fun z H5 => ∃ kvs k, y = kV k ∧ H5 D = some (.dK kvs) ∧ kvs.length < sizeLine ∧ Nx (upd H5 D (.dK (putK kvs k z))) else Nx H3) := by
  refine ⟨fun i m H => m = n - i ∧ i ≤ n ∧ Pv i H, ⟨n, by simp, Nat.zero_le _, h0⟩, fun i m H hW => ?_⟩
  obtain ⟨rfl, hi, p⟩ := hW
  have q := hG i H hi p
  by_cases hlt : i < n
  · exact .inr ⟨w.goes i H hlt q, Pv (i + 1), fun H' p' => ⟨n - (i + 1), by omega, rfl, hlt, p'⟩, fun x H' y => hs i x H H' hlt p (w.yields i H x H' hlt q y)⟩
  · have e : i = n := by omega
    subst e
    exact .inl ⟨w.stops H q, hd H p⟩
theorem putK_lenK {kvs : List (Key × V)} {k : Key} {v : V} : (putK kvs k v).length ≤ kvs.length + 1 := by
  unfold putK
  split
  · rw [List.length_map]
    omega
  · rw [List.length_append]
    exact Nat.le_refl _
def CameTo (order : List Str) (i : Nat) (kvs : List (Key × V)) : Prop := kvs.length ≤ i ∧ ∀ x ∈ order.take i, valV kvs (.inr x) = some (.int (order.idxOf x : Nat))
theorem came_step {order : List Str} {i : Nat} {o : Str} {kvs : List (Key × V)} (hd : order.Nodup) (ho : order[i]? = some o) (h : CameTo order i kvs) : CameTo order (i + 1) (putK kvs (.inr o) (.int (i : Nat))) := by
  obtain ⟨h1, h2⟩ := h
  have pl := putK_lenK (kvs := kvs) (k := .inr o) (v := V.int (i : Nat))
  refine ⟨by omega, fun x hx => ?_⟩
  rw [valV_put]
  by_cases c : x = o
  · subst c
    rw [if_pos rfl, idx_at hd ho]
  · rw [if_neg (fun z => c (Sum.inr.inj z))]
    refine h2 x ?_
    rw [List.take_add_one, ho] at hx
    rcases List.mem_append.mp hx with z | z
    · exact z
    · exact absurd (List.mem_singleton.mp z) c

/-! ### promises -/
def spRowOf : Sp := fun vs H Q _ => ∃ (a o : Addr) (ps : List (Str × Str)) (order : List Str), vs = [.ref a, .ref o] ∧ FrAt H a ps ∧ ps.length ≤ 1000 ∧ RowAt H o order ∧ order.Nodup ∧ order.length ≤ 100 ∧
  ∀ t H', Same H H' → TupAt H' t ((standOf ps order).map V.str) → Q (.ref t) H'
def spPutBack : Sp := fun vs H Q _ => ∃ (a o : Addr) (ps : List (Str × Str)) (order : List Str), vs = [.ref a, .ref o] ∧ FrAt H a ps ∧ ps.length ≤ 1000 ∧ RowAt H o order ∧ order.Nodup ∧ order.length ≤ 100 ∧
  ∀ p (qs : List B3N) H', Same H H' → H p = none → H' p = some (.lst (refsN qs)) → PairsN H' qs → qs.map (·.2) = backTo_ order (standOf ps order) order.length → Q (.ref p) H'
end Lk
set_option maxRecDepth 100000
set_option maxHeartbeats 4000000
namespace Lk
open PySem PySem.Spec PyProof.Rows L2

/-! ### who goes, one after another: the hindmost one first -/
def someTo (ps : List (Str × Str)) (stay row : List Str) (n : Nat) : List Str := (looseTo ps row n).filter fun x => !decide (x ∈ stay)
def someL (ps : List (Str × Str)) (stay row : List Str) : List Str := (looseL ps row).filter fun x => !decide (x ∈ stay)
theorem someTo_all (ps : List (Str × Str)) (stay row : List Str) : someTo ps stay row row.length = someL ps stay row := by
  unfold someTo someL
  rw [looseTo_all]
theorem someTo_step {ps : List (Str × Str)} {stay row : List Str} {i : Nat} {x : Str} (h : row[i]? = some x) : someTo ps stay row (i + 1) = someTo ps stay row i ++ if (!decide (x ∈ stay) && looseB ps row i x) = true then [x] else [] := by
  unfold someTo
  rw [looseTo_step h, List.filter_append]
  congr 1
  by_cases c : looseB ps row i x = true
  · rw [if_pos c, c, Bool.and_true, List.filter_cons, List.filter_nil]
  · rw [if_neg c]
    simp [c]
theorem someL_sub {ps : List (Str × Str)} {stay row : List Str} {x : Str} (h : x ∈ someL ps stay row) : x ∈ looseL ps row ∧ x ∉ stay := by
  obtain ⟨h1, h2⟩ := List.mem_filter.mp h
  refine ⟨h1, ?_⟩
  simpa using h2
theorem someL_in {ps : List (Str × Str)} {stay row : List Str} {x : Str} (h : x ∈ looseL ps row) (hs : x ∉ stay) : x ∈ someL ps stay row :=
  List.mem_filter.mpr ⟨h, by simpa using hs⟩
def goneN (ps : List (Str × Str)) (stay : List Str) : Nat → List Str → List Str × List Str
  | 0, row => ([], row)
  | n + 1, row => match (someL ps stay row).getLast? with
    | none => ([], row)
    | some x => (x :: (goneN ps stay n (rem row x)).1, (goneN ps stay n (rem row x)).2)
def goneO (ps : List (Str × Str)) (stay row : List Str) : List Str := (goneN ps stay row.length row).1
def goneR (ps : List (Str × Str)) (stay row : List Str) : List Str := (goneN ps stay row.length row).2
theorem gone_none {ps : List (Str × Str)} {stay row : List Str} (h : someL ps stay row = []) : goneO ps stay row = [] ∧ goneR ps stay row = row := by
  unfold goneO goneR
  cases row.length with
  | zero => exact ⟨rfl, rfl⟩
  | succ n =>
    unfold goneN
    rw [h]
    exact ⟨rfl, rfl⟩
theorem last_mem {α : Type} {l : List α} {x : α} (h : l.getLast? = some x) : x ∈ l := by
  obtain ⟨ys, e⟩ := List.getLast?_eq_some_iff.mp h
  rw [e]
  simp
theorem gone_some {ps : List (Str × Str)} {stay row : List Str} {x : Str} (hd : row.Nodup) (h : (someL ps stay row).getLast? = some x) : goneO ps stay row = x :: goneO ps stay (rem row x) ∧ goneR ps stay row = goneR ps stay (rem row x) := by
  have hx := looseL_sub (someL_sub (last_mem h)).1
  have rl := rem_len hd hx
  unfold goneO goneR
  rw [← rl]
  show (goneN ps stay ((rem row x).length + 1) row).1 = _ ∧ _
  unfold goneN
  rw [h]
  cases (rem row x).length <;> exact ⟨rfl, rfl⟩
theorem gone_red {ps : List (Str × Str)} {stay : List Str} (irr : Irr ps) : ∀ (n : Nat) (row : List Str), row.length = n → row.Nodup → Red ps stay row (goneR ps stay row) ∧ Nf ps stay (goneR ps stay row) ∧ (goneO ps stay row).length ≤ n
  | n, row, hn, hd => by
    cases e : (someL ps stay row).getLast? with
    | none =>
      have e' := List.getLast?_eq_none_iff.mp e
      obtain ⟨g1, g2⟩ := gone_none e'
      rw [g1, g2]
      refine ⟨.done row, fun x hx => ?_, Nat.zero_le _⟩
      refine Classical.byContradiction fun c => ?_
      have := someL_in ((looseL_iff irr hd).mpr hx) c
      rw [e'] at this
      cases this
    | some x =>
      obtain ⟨g1, g2⟩ := gone_some hd e
      obtain ⟨m1, m2⟩ := someL_sub (last_mem e)
      have lx := (looseL_iff irr hd).mp m1
      have rl := rem_len hd lx.mem
      match n, hn with
      | 0, hn => omega
      | n + 1, hn =>
        obtain ⟨i1, i2, i3⟩ := gone_red irr n (rem row x) (by omega) (rem_nodup hd)
        rw [g1, g2]
        refine ⟨.go x lx m2 i1, i2, ?_⟩
        rw [List.length_cons]
        omega
theorem Red.nodup {ps : List (Str × Str)} {stay row n : List Str} (h : Red ps stay row n) : row.Nodup → n.Nodup := by
  induction h with
  | done row => exact id
  | go x h hs t ih => exact fun hd => ih (rem_nodup hd)
theorem Red.len {ps : List (Str × Str)} {stay row n : List Str} (h : Red ps stay row n) : n.length ≤ row.length := by
  induction h with
  | done row => exact Nat.le_refl _
  | go x h hs t ih => exact Nat.le_trans ih (List.length_filter_le _ _)
theorem Red.sub {ps : List (Str × Str)} {stay row n : List Str} (h : Red ps stay row n) : ∀ y ∈ n, y ∈ row := by
  induction h with
  | done row => exact fun _ h => h
  | go x h hs t ih => exact fun y hy => (List.mem_filter.mp (ih y hy)).1
theorem erase_rem {row : List Str} {i : Nat} {x : Str} (hd : row.Nodup) (h : row[i]? = some x) : row.eraseIdx i = rem row x := by
  have e := split_at h
  have hi : i < row.length := (List.getElem?_eq_some_iff.mp h).1
  have e2 : rem row x = row.take i ++ row.drop (i + 1) := by
    rw [show rem row x = rem (row.take i ++ x :: row.drop (i + 1)) x by rw [← e]]
    exact rem_split (by rw [← e]; exact hd)
  rw [e2, List.eraseIdx_eq_take_drop_succ]
theorem erase_map {α : Type} (f : α → V) (xs : List α) (i : Nat) : (xs.map f).eraseIdx i = (xs.eraseIdx i).map f := by
  rw [List.eraseIdx_eq_take_drop_succ, List.eraseIdx_eq_take_drop_succ, List.map_append, List.map_take, List.map_drop]

/-! ### promises -/
def ButAt (K : PySem.W.Frag) (H : Hp) (p : Addr) (stay : List Str) : Prop := SqL K H p (stay.map V.str) ∨ SqT K H p (stay.map V.str)
def hindV (row : List Str) (out : Option Str) (v : V) : Prop := match out with
  | none => v = .non
  | some x => ∃ i : Nat, v = .int i ∧ row[i]? = some x
/-- the but list does not change -/
def ButKeeps (K : PySem.W.Frag) (H : Hp) (p : Addr) (stay : List Str) : Prop := ∀ H', Same H H' → ButAt K H' p stay
def spHind (K : PySem.W.Frag) : Sp := fun vs H Q _ => ∃ (d r p : Addr) (ps : List (Str × Str)) (row stay : List Str), vs = [.ref d, .ref r, .ref p] ∧ KnAt H d ps ∧ H r = some (.lst (row.map V.str)) ∧ row.length ≤ 100 ∧ (∀ H', Same H H' → ButAt K H' p stay) ∧
  ∀ v H', Same H H' → hindV row (someL ps stay row).getLast? v → Q v H'
def spStayed (K : PySem.W.Frag) : Sp := fun vs H Q _ => ∃ (d r p : Addr) (ps : List (Str × Str)) (row stay : List Str), vs = [.ref d, .ref r, .ref p] ∧ KnAt H d ps ∧ RowAt H r row ∧ row.Nodup ∧ row.length ≤ 100 ∧ (∀ H', Same H H' → ButAt K H' p stay) ∧
  ∀ T g t H', Same H H' → H g = none → H' T = some (.tup [.ref g, .ref t]) → H' g = some (.lst ((goneO ps stay row).map V.str)) → TupAt H' t ((goneR ps stay row).map V.str) → Q (.ref T) H'
def spGone (K : PySem.W.Frag) : Sp := fun vs H Q _ => ∃ (a r p : Addr) (ps : List (Str × Str)) (row stay : List Str), vs = [.ref a, .ref r, .ref p] ∧ FrAt H a ps ∧ ps.length ≤ 1000 ∧ RowAt H r row ∧ row.Nodup ∧ row.length ≤ 100 ∧ (∀ H', Same H H' → ButAt K H' p stay) ∧
  ∀ T g t H', Same H H' → H g = none → H' T = some (.tup [.ref g, .ref t]) → H' g = some (.lst ((goneO ps stay row).map V.str)) → TupAt H' t ((goneR ps stay row).map V.str) → Q (.ref T) H'
def spLeft (K : PySem.W.Frag) : Sp := fun vs H Q _ => ∃ (a r p : Addr) (ps : List (Str × Str)) (row stay : List Str), vs = [.ref a, .ref r, .ref p] ∧ FrAt H a ps ∧ ps.length ≤ 1000 ∧ RowAt H r row ∧ row.Nodup ∧ row.length ≤ 100 ∧ (∀ H', Same H H' → ButAt K H' p stay) ∧
  ∀ t H', Same H H' → TupAt H' t ((goneR ps stay row).map V.str) → Q (.ref t) H'
end Lk
set_option maxRecDepth 100000
set_option maxHeartbeats 4000000
namespace Lk
open PySem PySem.Spec PyProof.Rows L2
section
variable {X : Cx}
end
theorem PalsAt.upd_ {H : Hp} {l a : Addr} {ys : List V} {o' : HO} {ps : List (Str × Str)} (h : PalsAt H a ps) (hl : H l = some (.lst ys)) : PalsAt (upd H l o') a ps := by
  obtain ⟨bs, h1, h2, h3⟩ := h
  exact ⟨bs, (upd_ne (ne_of h1 hl (fun z => nomatch z))).trans h1, fun c hc => (upd_ne (ne_of (h2 c hc) hl (fun z => nomatch z))).trans (h2 c hc), h3⟩
/-! ### the law's own going -/
/-! ### a def with one keyword-only parameter that has a default -/
structure Cal3 (P : Program) (w : World) (K : PySem.W.Frag) (mg : Str → Option Value) (base : Heap) (k : Nat) (x : Str) (sp : Sp) (E : Addr) : Prop where
  ex : ∃ f fd, FnOk P w K mg base CX0 k f fd ["friends", "row", "but"] sp ∧ mg x = some (.ref f) ∧ PySem.W.keepIn K (.ref f) = true ∧ KBn K fd ["friends", "row", "but"] 2 ["but"] (fun us ws => us ++ ws) (fun vs zs => vs ++ zs) ∧ KBinds K fd ["friends", "row", "but"] ["but", "row", "friends"] gRev gRev ∧ (∃ ds, Vals [V.ref E] ds ∧ Binds K fd ["friends", "row", "but"] ds) ∧
    (∃ mv : List Value, KBn K fd ["friends", "row", "but"] 0 ["row", "friends"] (fun us ws => ws.reverse ++ mv) (fun vs zs => zs.reverse ++ [V.ref E]))
  emp : ∃ (o : Obj) (n : Nat), K.lookup E = some o ∧ o.cls = .type "tuple" ∧ o.data = .seq #[] n
theorem Cal3.but {P : Program} {w : World} {K : PySem.W.Frag} {mg : Str → Option Value} {base : Heap} {k : Nat} {x : Str} {sp : Sp} {E : Addr} (C : Cal3 P w K mg base k x sp E) (H : Hp) : ButAt K H E [] := by
  obtain ⟨o, n, h1, h2, h3⟩ := C.emp
  exact .inr (.inr ⟨o, #[], n, h1, h2, h3, Nat.zero_le _, .nil⟩)
section
variable {X : Cx} {k : Nat} {x : Str} {sp : Sp} {D : Addr} {p pos : Pos} {e : Expr} {es : List Expr} {t tk : TA} {kws : List Keyword}
/-- f(a, b) -/
theorem pe_cal3 (C : Cal3 X.prog X.w X.K X.mg X.base k x sp D) (hr : Room k X.A) (ha : PA X (e :: es) t) (hg : Gl X x := by rfl) (hdb : (x == ("__debug__" : Str)) = false := by decide)
    (he : starEach (e :: es) X.env = (false, eval e X.env) :: starEach es X.env := by rfl) (hpl : (backTo pos (starEach es X.env)).any (·.1) = false := by rfl) :
    PE X (.Call (.Name x p) (e :: es) [] pos) (tCall sp [V.ref D] E0 t) := by
  obtain ⟨f, fd, F, hm, hk, _, _, ⟨ds, hd, b3⟩, _⟩ := C.ex
  exact pe_call F hr hg hm hk b3 hd pass0 ha (hdb := hdb) (he := he) (hpl := hpl)
end
abbrev p3 : List Str := ["friends", "row", "but"]
theorem cal3_mk {P : Program} {w : World} {K : PySem.W.Frag} {mg : Str → Option Value} {base : Heap} {k : Nat} {x : Str} {st : Stmt} {sp : Sp} {f D E : Addr} {oc : Value} {od an ed : Option Addr} {osl es : Array (Option Value)} {doc pm cdv ct : Value} {en : Nat}
    (l : K.lookup f = some ⟨oc, od, .func (PySem.W.fnOf x x (defArgs st) (defBody st) (defScope st) .none (.ref D) doc pm an cdv ct), osl⟩) (c : PySem.W.codeIn K cdv x = true) (kp : PySem.W.keepIn K (.ref f) = true) (n : PySem.W.nsIn K D "but" = some (some (.ref E)))
    (e : K.lookup E = some ⟨.type "tuple", ed, .seq #[] en, es⟩) (hm : mg x = some (.ref f)) (ok : FnOk P w K mg base CX0 k f (PySem.W.fnOf x x (defArgs st) (defBody st) (defScope st) .none (.ref D) doc pm an cdv ct) p3 sp)
    (hb1 : ∀ (kV doc pm : Value) (an : Option Addr) (cdv ct : Value) (us ws : List Value), us.length = 2 → ws.length = 1 → bindArgs (PySem.W.fnOf x x (defArgs st) (defBody st) (defScope st) .none kV doc pm an cdv ct) ⟨us, (["but"] : List Str).zip ws⟩ = pure (p3.zip (us ++ ws)))
    (hb2 : ∀ (kV doc pm : Value) (an : Option Addr) (cdv ct : Value) (ws : List Value), ws.length = 3 → bindArgs (PySem.W.fnOf x x (defArgs st) (defBody st) (defScope st) .none kV doc pm an cdv ct) ⟨[], (["but", "row", "friends"] : List Str).zip ws⟩ = pure (p3.zip ws.reverse))
    (hb3 : ∀ (D : Addr) (doc pm : Value) (an : Option Addr) (cdv ct : Value) (us ks : List Value), us.length = 2 → ks.length = 1 → KwChain D ((["but"] : List Str).zip ks) (bindArgs (PySem.W.fnOf x x (defArgs st) (defBody st) (defScope st) .none (.ref D) doc pm an cdv ct) ⟨us, []⟩) (p3.zip (us ++ ks)))
    (hb4 : ∀ (D : Addr) (doc pm : Value) (an : Option Addr) (cdv ct : Value) (mv ws : List Value), mv.length = 1 → ws.length = 2 → KwChain D ((["but"] : List Str).zip mv) (bindArgs (PySem.W.fnOf x x (defArgs st) (defBody st) (defScope st) .none (.ref D) doc pm an cdv ct) ⟨[], (["row", "friends"] : List Str).zip ws⟩) (p3.zip (ws.reverse ++ mv))) :
    Cal3 P w K mg base k x sp E := by
  have FD : FunD K x x (defArgs st) (defBody st) (defScope st) [] [("but", V.ref E)] f (PySem.W.fnOf x x (defArgs st) (defBody st) (defScope st) .none (.ref D) doc pm an cdv ct) :=
    ⟨⟨oc, od, .none, .ref D, doc, pm, an, cdv, ct, osl, rfl, l, c, .inl ⟨rfl, rfl⟩, .inr ⟨D, rfl, fun q hq => by rw [List.mem_singleton.mp hq]; exact ⟨_, n, rfl⟩⟩⟩, kp⟩
  have F : Fun K x x st f (PySem.W.fnOf x x (defArgs st) (defBody st) (defScope st) .none (.ref D) doc pm an cdv ct) := fun_mk l c kp
  refine ⟨⟨f, _, ok, hm, kp, ⟨fun s us ws _ h1 h2 => .of_eq (hb1 _ _ _ _ _ _ us ws h1 h2), fun r1 r2 => r1.append r2⟩, ?_, ?_, ?_⟩, ⟨_, en, e, rfl, rfl⟩⟩
  · exact kbinds_rev F (fun z => nomatch z) fun kV doc pm an cdv ct ws h => hb2 kV doc pm an cdv ct ws h
  · exact FD.binds0 (ps := p3) 2 (fun z => nomatch z) rfl fun D doc pm an cdv ct us ks h1 h2 => hb3 D doc pm an cdv ct us ks h1 h2
  · obtain ⟨mv, b⟩ := FD.kbinds0 (ps := p3) 0 ["row", "friends"] [("but", V.ref E)] (fun us mv ws => ws.reverse ++ mv) (fun z => nomatch z) (fun q hq => hq) (fun r1 r2 r3 => (vals_rev r3).append r2) (fun D doc pm an cdv ct us mv ws h1 h2 h3 => by
      cases us with
      | nil => exact hb4 D doc pm an cdv ct mv ws h2 h3
      | cons _ _ => cases h1)
    exact ⟨mv, b⟩
end Lk
set_option maxRecDepth 100000
set_option maxHeartbeats 4000000
namespace Lk
open PySem PySem.Spec PyProof.Rows L2

/-! ### of those who are left each bars one of them -/
def Ahead (row : List Str) (h x : Str) : Prop := ∃ a b, row = a ++ x :: b ∧ h ∈ a
theorem frd_sym (ps : List (Str × Str)) (a b : Str) : frd ps a b = frd ps b a := by
  exact frd_comm ps a b
theorem Ahead.mem {row : List Str} {h x : Str} (k : Ahead row h x) : h ∈ row ∧ x ∈ row := by
  obtain ⟨a, b, rfl, m⟩ := k
  exact ⟨List.mem_append_left _ m, by simp⟩
theorem Ahead.lt {row : List Str} {h x : Str} {i j : Nat} (hd : row.Nodup) (k : Ahead row h x) (hi : row[i]? = some h) (hj : row[j]? = some x) : i < j := by
  obtain ⟨a, b, rfl, m⟩ := k
  have e1 : (a ++ x :: b)[a.length]? = some x := by simp
  have e2 := nd_ix hd hj e1
  obtain ⟨n, hn⟩ := List.mem_iff_getElem?.mp m
  have ln : n < a.length := (List.getElem?_eq_some_iff.mp hn).1
  have e3 : (a ++ x :: b)[n]? = some h := by
    rw [List.getElem?_append_left ln]
    exact hn
  have e4 := nd_ix hd hi e3
  omega
theorem rem_app (a b : List Str) {x y : Str} (ne : x ≠ y) : rem (a ++ x :: b) y = rem a y ++ x :: rem b y := by
  unfold rem
  rw [List.filter_append, List.filter_cons]
  simp [ne]
theorem mem_rem {row : List Str} {x y : Str} : x ∈ rem row y ↔ x ∈ row ∧ x ≠ y := by
  unfold rem
  rw [List.mem_filter]
  simp
theorem Ahead.rem {row : List Str} {h x y : Str} (k : Ahead row h x) (n1 : h ≠ y) (n2 : x ≠ y) : Ahead (Lk.rem row y) h x := by
  obtain ⟨a, b, rfl, m⟩ := k
  exact ⟨Lk.rem a y, Lk.rem b y, rem_app a b n2, mem_rem.mpr ⟨m, n1⟩⟩
theorem Ahead.of_rem {row : List Str} {h x y : Str} (hd : row.Nodup) (k : Ahead (Lk.rem row y) h x) : Ahead row h x := by
  have hx := mem_rem.mp k.mem.2
  obtain ⟨a', b', e', m⟩ := k
  obtain ⟨a, b, e⟩ := List.append_of_mem hx.1
  have e2 : Lk.rem row y = Lk.rem a y ++ x :: Lk.rem b y := by rw [e]; exact rem_app a b hx.2
  have u := split_uniq (rem_nodup hd) e' e2
  rw [u.1] at m
  exact ⟨a, b, e, (mem_rem.mp m).1⟩
theorem Red.ahead {ps : List (Str × Str)} {stay row n : List Str} (r : Red ps stay row n) : row.Nodup → ∀ {h x : Str}, Ahead n h x → Ahead row h x := by
  induction r with
  | done row => exact fun _ {h x} k => k
  | go y hy hs t ih => exact fun hd {h x} k => (ih (rem_nodup hd) k).of_rem hd
theorem Red.keeps {ps : List (Str × Str)} {stay row n : List Str} (r : Red ps stay row n) : row.Nodup → ∀ {h x : Str}, x ∈ n → Ahead row h x → frd ps x h = true → Ahead n h x := by
  induction r with
  | done row => exact fun _ {h x} _ k _ => k
  | @go row n y hy hs t ih =>
    intro hd h x hx k hf
    have nx : x ≠ y := (mem_rem.mp (t.sub x hx)).2
    have nh : h ≠ y := fun z => by
      subst z
      obtain ⟨a, b, e, q1, _⟩ := hy
      obtain ⟨a', b', e', m⟩ := k
      have hxb : x ∈ b := by
        have hx' : x ∈ a ++ h :: b := by rw [← e, e']; simp
        rcases List.mem_append.mp hx' with z | z
        · exfalso
          obtain ⟨i, hi⟩ := List.mem_iff_getElem?.mp z
          have li : i < a.length := (List.getElem?_eq_some_iff.mp hi).1
          have r1 : row[i]? = some x := by rw [e, List.getElem?_append_left li]; exact hi
          have r2 : row[a.length]? = some h := by rw [e]; simp
          have := Ahead.lt hd ⟨a', b', e', m⟩ r2 r1
          omega
        · rcases List.mem_cons.mp z with z | z
          · exact absurd z nx
          · exact z
      have := q1 x hxb
      rw [frd_sym] at this
      rw [this] at hf
      cases hf
    exact ih (rem_nodup hd) hx (k.rem nh nx) hf
theorem optW_mem (w : Str) : w ∈ optW true w := by
  unfold optW
  simp
theorem words_friend {ps : List (Str × Str)} {row : List Str} {one other : Str} {i j : Nat} (h : i < j) (f : frd ps one other = true) : wordsOf ps row one other i j ≠ [] := fun z => by
  have m : ("friend" : Str) ∈ wordsOf ps row one other i j := by
    unfold wordsOf
    refine List.mem_append_right _ ?_
    rw [decide_eq_true h, f]
    exact optW_mem _
  rw [z] at m
  cases m
theorem words_behind {ps : List (Str × Str)} {row : List Str} {one other : Str} {i j : Nat} (h : i < j) (f : lastP (frd ps one) (row.take i) = none) : wordsOf ps row one other i j ≠ [] := fun z => by
  have m : ("behind" : Str) ∈ wordsOf ps row one other i j := by
    unfold wordsOf
    refine List.mem_append_left _ (List.mem_append_left _ ?_)
    rw [decide_eq_true h, decide_eq_true f]
    exact optW_mem _
  rw [z] at m
  cases m
theorem words_between {ps : List (Str × Str)} {row : List Str} {one other : Str} {i j k : Nat} (f : lastP (frd ps one) (row.take i) = some k) (h1 : k < j) (h2 : j < i) : wordsOf ps row one other i j ≠ [] := fun z => by
  have m : ("between" : Str) ∈ wordsOf ps row one other i j := by
    unfold wordsOf
    refine List.mem_append_left _ (List.mem_append_right _ ?_)
    rw [f]
    show _ ∈ optW (decide (k < j) && decide (j < i)) "between"
    rw [decide_eq_true h1, decide_eq_true h2]
    exact optW_mem _
  rw [z] at m
  cases m
theorem words_self {ps : List (Str × Str)} {row : List Str} {x : Str} {i : Nat} (hl : i ≤ row.length) : wordsOf ps row x x i i = [] := by
  unfold wordsOf
  rw [decide_eq_false (Nat.lt_irrefl i), Bool.and_false, Bool.false_and]
  have : btw i i (lastP (frd ps x) (row.take i)) = false := by
    unfold btw
    split
    · rfl
    · rw [decide_eq_false (Nat.lt_irrefl i), Bool.and_false]
  rw [this]
  rfl
theorem bars_left {ps : List (Str × Str)} {row left : List Str} {x : Str} {i : Nat} (hd : row.Nodup) (r : Red ps [] row left) (nf : Nf ps [] left) (hx : x ∈ left) (hi : row[i]? = some x) : ∃ z j, z ∈ left ∧ row[j]? = some z ∧ wordsOf ps row x z i j ≠ [] := by
  have ndl := r.nodup hd
  obtain ⟨a, b, e⟩ := List.append_of_mem hx
  have nl : ¬ LooseP ps a b x := fun z => by
    have := nf x ⟨a, b, e, z⟩
    cases this
  have place : ∀ z ∈ left, ∃ j, row[j]? = some z := fun z hz => List.mem_iff_getElem?.mp (r.sub z hz)
  have behind : ∀ z ∈ b, Ahead left x z := fun z hz => by
    obtain ⟨b1, b2, eb⟩ := List.append_of_mem hz
    exact ⟨a ++ x :: b1, b2, by rw [e, eb]; simp, by simp⟩
  by_cases c : ∃ y ∈ b, frd ps x y = true
  · obtain ⟨y, hy, f⟩ := c
    have my : y ∈ left := by rw [e]; simp [hy]
    obtain ⟨j, hj⟩ := place y my
    exact ⟨y, j, my, hj, words_friend ((r.ahead hd (behind y hy)).lt hd hi hj) f⟩
  · have nb : ∀ y ∈ b, frd ps x y = false := fun y hy => by
      cases f : frd ps x y with
      | false => rfl
      | true => exact absurd ⟨y, hy, f⟩ c
    have ahd : ∀ y ∈ a, Ahead left y x := fun y hy => ⟨a, b, e, hy⟩
    cases hk : lastP (frd ps x) (row.take i) with
    | none =>
      have na := lastP_no.mp hk
      have nfa : ∀ y ∈ a, frd ps x y = false := fun y hy => by
        obtain ⟨j, hj⟩ := place y (ahd y hy).mem.1
        have lt := (r.ahead hd (ahd y hy)).lt hd hj hi
        refine na y (List.mem_iff_getElem?.mpr ⟨j, ?_⟩)
        rw [List.getElem?_take, if_pos lt]
        exact hj
      cases b with
      | nil => exact absurd ⟨nb, .inr ⟨nfa, rfl⟩⟩ nl
      | cons z b' =>
        have mz : z ∈ left := by rw [e]; simp
        obtain ⟨j, hj⟩ := place z mz
        exact ⟨z, j, mz, hj, words_behind ((r.ahead hd (behind z (List.mem_cons_self ..))).lt hd hi hj) hk⟩
    | some k =>
      obtain ⟨h, h1, h2, h3⟩ := lastP_some hk
      have hki : k < i := by
        have := lastP_lt hk
        rw [List.length_take] at this
        omega
      rw [List.getElem?_take, if_pos hki] at h1
      have ahr : Ahead row h x := by
        have sp := split_at hi
        refine ⟨row.take i, row.drop (i + 1), sp, List.mem_iff_getElem?.mpr ⟨k, ?_⟩⟩
        rw [List.getElem?_take, if_pos hki]
        exact h1
      obtain ⟨a', b', e', m⟩ := r.keeps hd hx ahr h2
      have u := split_uniq ndl e' e
      rw [u.1] at m
      obtain ⟨a1, a2, ea⟩ := List.append_of_mem m
      cases a2 with
      | nil => exact absurd ⟨nb, .inl ⟨a1, h, ea, h2⟩⟩ nl
      | cons z a3 =>
        have mz : z ∈ left := by rw [e, ea]; simp
        obtain ⟨j, hj⟩ := place z mz
        have k1 : Ahead left h z := ⟨a1 ++ [h], a3 ++ x :: b, by rw [e, ea]; simp, by simp⟩
        have k2 : Ahead left z x := ahd z (by rw [ea]; simp)
        exact ⟨z, j, mz, hj, words_between hk ((r.ahead hd k1).lt hd h1 hj) ((r.ahead hd k2).lt hd hj hi)⟩
theorem nd_len : ∀ (l m : List Str), l.Nodup → (∀ x ∈ l, x ∈ m) → l.length ≤ m.length
  | [], _, _, _ => Nat.zero_le _
  | x :: l, m, h, s => by
    obtain ⟨n1, n2⟩ := List.nodup_cons.mp h
    obtain ⟨a, b, e⟩ := List.append_of_mem (s x (List.mem_cons_self ..))
    have ih := nd_len l (a ++ b) n2 fun y hy => by
      have ne : y ≠ x := fun z => n1 (z ▸ hy)
      have := s y (List.mem_cons_of_mem _ hy)
      rw [e] at this
      rcases List.mem_append.mp this with z | z
      · exact List.mem_append_left _ z
      · rcases List.mem_cons.mp z with z | z
        · exact absurd z ne
        · exact List.mem_append_right _ z
    rw [List.length_append] at ih
    rw [e, List.length_append, List.length_cons, List.length_cons]
    omega
/-! ### rings -/
def wordsAt (ps : List (Str × Str)) (row : List Str) (a b : Str) : List Str := wordsOf ps row a b (row.idxOf a) (row.idxOf b)
def barredL (ps : List (Str × Str)) (row left : List Str) (who : Str) : List (Str × Str) := left.flatMap fun o => (wordsAt ps row who o).map fun w => (o, w)
def nextB (ps : List (Str × Str)) (row left : List Str) (who : Str) : Str × Str := (barredL ps row left who).headD (who, "")
def ringN (ps : List (Str × Str)) (row left : List Str) : Nat → List (Str × Str) → Str → List (Str × Str)
  | 0, path, _ => path
  | n + 1, path, who => if who ∈ path.map (·.1) then path.drop ((path.map (·.1)).idxOf who) else ringN ps row left n (path ++ [(who, (nextB ps row left who).2)]) (nextB ps row left who).1
def ringOf (ps : List (Str × Str)) (row left : List Str) : List (Str × Str) := ringN ps row left (left.length + 1) [] (left.headD "")
theorem barred_mem {ps : List (Str × Str)} {row left : List Str} {who : Str} {q : Str × Str} : q ∈ barredL ps row left who ↔ q.1 ∈ left ∧ q.2 ∈ wordsAt ps row who q.1 := by
  unfold barredL
  rw [List.mem_flatMap]
  constructor
  · rintro ⟨o, ho, m⟩
    obtain ⟨w, hw, rfl⟩ := List.mem_map.mp m
    exact ⟨ho, hw⟩
  · rintro ⟨h1, h2⟩
    exact ⟨q.1, h1, List.mem_map.mpr ⟨q.2, h2, rfl⟩⟩
theorem barred_ne {ps : List (Str × Str)} {row left : List Str} {x : Str} (hd : row.Nodup) (r : Red ps [] row left) (nf : Nf ps [] left) (hx : x ∈ left) : barredL ps row left x ≠ [] := fun e => by
  obtain ⟨i, hi⟩ := List.mem_iff_getElem?.mp (r.sub x hx)
  obtain ⟨z, j, mz, hj, hw⟩ := bars_left hd r nf hx hi
  obtain ⟨w, hw⟩ := List.exists_mem_of_ne_nil _ hw
  have m : (z, w) ∈ barredL ps row left x := barred_mem.mpr ⟨mz, by
    show w ∈ wordsOf ps row x z (row.idxOf x) (row.idxOf z)
    rw [idx_at hd hi, idx_at hd hj]
    exact hw⟩
  rw [e] at m
  cases m
theorem next_mem {ps : List (Str × Str)} {row left : List Str} {x : Str} (h : barredL ps row left x ≠ []) : nextB ps row left x ∈ barredL ps row left x := by
  unfold nextB
  cases e : barredL ps row left x with
  | nil => exact absurd e h
  | cons q l => exact List.mem_cons_self ..
structure RingOk (ps : List (Str × Str)) (row left : List Str) (ring : List (Str × Str)) : Prop where
  two : 2 ≤ ring.length
  nd : (ring.map (·.1)).Nodup
  sub : ∀ x ∈ ring.map (·.1), x ∈ left
  bar : ∀ (i : Nat) (x w y : Str), ring[i]? = some (x, w) → ((ring.map (·.1)).drop 1 ++ (ring.map (·.1)).take 1)[i]? = some y → w ∈ wordsAt ps row x y
theorem ring_ok {ps : List (Str × Str)} {row left : List Str} (hd : row.Nodup) (r : Red ps [] row left) (nf : Nf ps [] left) : ∀ (m : Nat) (path : List (Str × Str)) (who : Str), m + path.length = left.length + 1 → (path.map (·.1)).Nodup → (∀ x ∈ path.map (·.1), x ∈ left) → who ∈ left →
    (∀ (i : Nat) (x w : Str), path[i]? = some (x, w) → ∃ y, (path.map (·.1) ++ [who])[i + 1]? = some y ∧ w ∈ wordsAt ps row x y) → RingOk ps row left (ringN ps row left m path who)
  | 0, path, who, hm, hn, hs, hw, hc => by
    have := nd_len _ _ hn hs
    rw [List.length_map] at this
    omega
  | m + 1, path, who, hm, hn, hs, hw, hc => by
    unfold ringN
    by_cases c : who ∈ path.map (·.1)
    · rw [if_pos c]
      have hk : (path.map (·.1)).idxOf who < (path.map (·.1)).length := List.idxOf_lt_length_iff.mpr c
      have ek : (path.map (·.1))[(path.map (·.1)).idxOf who]? = some who := by rw [List.getElem?_eq_getElem hk, List.getElem_idxOf]
      generalize (path.map (·.1)).idxOf who = k at hk ek
      rw [List.length_map] at hk
      have bar : ∀ (i : Nat) (x w y : Str), (path.drop k)[i]? = some (x, w) → (((path.drop k).map (·.1)).drop 1 ++ ((path.drop k).map (·.1)).take 1)[i]? = some y → w ∈ wordsAt ps row x y := by
        intro i x w y h1 h2
        rw [List.getElem?_drop] at h1
        obtain ⟨y', h3, h4⟩ := hc _ x w h1
        have et : ((path.drop k).map (·.1)).take 1 = [who] := by
          rw [List.map_drop]
          have hne : (path.map (·.1)).drop k = who :: (path.map (·.1)).drop (k + 1) := by
            rw [List.getElem?_eq_some_iff] at ek
            obtain ⟨q1, q2⟩ := ek
            rw [List.drop_eq_getElem_cons q1, q2]
          rw [hne]
          rfl
        have ed : (path.map (·.1) ++ [who])[k + i + 1]? = (((path.drop k).map (·.1)).drop 1 ++ ((path.drop k).map (·.1)).take 1)[i]? := by
          rw [et, List.map_drop, List.drop_drop, ← List.drop_append_of_le_length (l₂ := [who]) (by rw [List.length_map]; omega), List.getElem?_drop]
          congr 1
          omega
        rw [ed, h2] at h3
        cases h3
        exact h4
      have nd' : ((path.drop k).map (·.1)).Nodup := by
        rw [List.map_drop]
        exact hn.sublist (List.drop_sublist _ _)
      refine ⟨?_, nd', fun x hx => hs x ?_, bar⟩
      · rw [List.length_drop]
        refine Classical.byContradiction fun z => ?_
        have e1 : k + 1 = path.length := by omega
        obtain ⟨⟨x, w⟩, hx⟩ : ∃ q, path[k]? = some q := ⟨path[k]'hk, List.getElem?_eq_getElem hk⟩
        have ex : x = who := by
          rw [List.getElem?_map, hx] at ek
          exact Option.some.inj ek
        have ed : (path.drop k) = [(x, w)] := by
          have q := (List.getElem?_eq_some_iff.mp hx)
          rw [List.drop_eq_getElem_cons hk, q.2, List.drop_eq_nil_of_le (by omega)]
        have := bar 0 x w x (by rw [ed]; rfl) (by rw [ed]; rfl)
        have hxr : row.idxOf x ≤ row.length := List.idxOf_le_length
        unfold wordsAt at this
        rw [words_self hxr] at this
        cases this
      · rw [List.map_drop] at hx
        exact List.mem_of_mem_drop hx
    · rw [if_neg c]
      have nx := barred_mem.mp (next_mem (barred_ne hd r nf hw))
      refine ring_ok hd r nf m _ _ ?_ ?_ ?_ nx.1 ?_
      · rw [List.length_append]
        show m + (path.length + 1) = _
        omega
      · rw [List.map_append]
        refine List.nodup_append.mpr ⟨hn, by simp, ?_⟩
        intro x hx y hy
        have ey : y = who := by simpa using hy
        rw [ey]
        exact fun z => c (z ▸ hx)
      · intro x hx
        rw [List.map_append] at hx
        rcases List.mem_append.mp hx with z | z
        · exact hs x z
        · have : x = who := by simpa using z
          rw [this]
          exact hw
      · intro i x w h
        rw [List.map_append]
        show ∃ y, (path.map (·.1) ++ [who] ++ [(nextB ps row left who).1])[i + 1]? = some y ∧ _
        by_cases hi : i < path.length
        · rw [List.getElem?_append_left hi] at h
          obtain ⟨y, h1, h2⟩ := hc i x w h
          refine ⟨y, ?_, h2⟩
          rw [List.getElem?_append_left (by rw [List.length_append, List.length_map]; show i + 1 < path.length + 1; omega)]
          exact h1
        · have li : i < (path ++ [(who, (nextB ps row left who).2)]).length := (List.getElem?_eq_some_iff.mp h).1
          rw [List.length_append] at li
          have ei : i = path.length := by
            have : i < path.length + 1 := li
            omega
          subst ei
          have : (path ++ [(who, (nextB ps row left who).2)])[path.length]? = some (who, (nextB ps row left who).2) := by simp
          rw [this] at h
          cases h
          refine ⟨(nextB ps row left who).1, ?_, nx.2⟩
          have le : (path.map (·.1) ++ [who]).length = path.length + 1 := by rw [List.length_append, List.length_map]; rfl
          rw [← le]
          simp
theorem ringOf_ok {ps : List (Str × Str)} {row left : List Str} (hd : row.Nodup) (r : Red ps [] row left) (nf : Nf ps [] left) (ne : left ≠ []) : RingOk ps row left (ringOf ps row left) := by
  refine ring_ok hd r nf _ [] _ rfl List.nodup_nil (fun _ h => nomatch h) ?_ (fun i x w h => by simp at h)
  cases left with
  | nil => exact absurd rfl ne
  | cons a l => exact List.mem_cons_self ..
theorem ring_len {ps : List (Str × Str)} {row left : List Str} (h : RingOk ps row left ring) : ring.length ≤ left.length := by
  have := nd_len _ _ h.nd h.sub
  rw [List.length_map] at this
  exact this
/-! ### walks within walks -/
theorem lc1_it {J : It} {n : Nat} {G : Hp → Prop} {Y : Nat → Hp → V → Hp → Prop} (w : Walk J n G Y) {g : TG} {tt : TT} {te : TE} {vs : List Nat} {σ : L2.St} {H1 : Hp} {D : Addr} {Qd : Hp → Prop} (Pv : Nat → Hp → Prop) (h0 : Pv 0 H1) (hG : ∀ i H, i ≤ n → Pv i H → G H)
    (hs : ∀ i x H H', i < n → Pv i H → Y i H x H' → g x (wipe σ vs) H' fun σ2 H2 => wipe σ2 vs = wipe σ vs ∧ tt σ2 H2 fun b H3 =>
      if b = true then te σ2 H3 fun y H4 => ∃ acc, H4 D = some (.lst acc) ∧ acc.length < sizeLine ∧ Pv (i + 1) (upd H4 D (.lst (acc ++ [y]))) else Pv (i + 1) H3) (hd : ∀ H, Pv n H → Qd H) :
    ∃ W : Nat → Nat → Hp → Prop, (∃ m, W 0 m H1) ∧ ∀ i m H, W i m H →
      (J.stop i H ∧ Qd H) ∨ (J.go i H ∧ ∃ Nx : Hp → Prop, (∀ H', Nx H' → ∃ m', m' < m ∧ W (i + 1) m' H') ∧ ∀ x H', J.yld i H x H' → g x (wipe σ vs) H' fun σ2 H2 => wipe σ2 vs = wipe σ vs ∧ tt σ2 H2 fun b H3 =>
        if b = true then te σ2 H3 fun y H4 => ∃ acc, H4 D = some (.lst acc) ∧ acc.length < sizeLine ∧ Nx (upd H4 D (.lst (acc ++ [y]))) else Nx H3) := by
  refine ⟨fun i m H => m = n - i ∧ i ≤ n ∧ Pv i H, ⟨n, by simp, Nat.zero_le _, h0⟩, fun i m H hW => ?_⟩
  obtain ⟨rfl, hi, p⟩ := hW
  have q := hG i H hi p
  by_cases hlt : i < n
  · exact .inr ⟨w.goes i H hlt q, Pv (i + 1), fun H' p' => ⟨n - (i + 1), by omega, rfl, hlt, p'⟩, fun x H' y => hs i x H H' hlt p (w.yields i H x H' hlt q y)⟩
  · have e : i = n := by omega
    subst e
    exact .inl ⟨w.stops H q, hd H p⟩
theorem lc2_it {J : It} {n : Nat} {G : Hp → Prop} {Y : Nat → Hp → V → Hp → Prop} (w : Walk J n G Y) {g : TG} {tt : TT} {wi1 : TI} {g1 : TG} {tt1 : TT} {te : TE} {vs vs1 : List Nat} {σ : L2.St} {H1 : Hp} {D : Addr} {Qd : Hp → Prop} (Pv : Nat → Hp → Prop) (h0 : Pv 0 (upd H1 D (.lst []))) (hG : ∀ i H, i ≤ n → Pv i H → G H)
    (hs : ∀ i x H H', i < n → Pv i H → Y i H x H' → g x (wipe σ vs) H' fun σ2 H2 => wipe σ2 vs = wipe σ vs ∧ tt σ2 H2 fun b H3 =>
      if b = true then wi1 σ2 H3 fun J1 H4 => ∃ W1 : Nat → Nat → Hp → Prop, (∃ m, W1 0 m H4) ∧ ∀ j k H, W1 j k H →
        (J1.stop j H ∧ Pv (i + 1) H) ∨ (J1.go j H ∧ ∃ Nx1 : Hp → Prop, (∀ H', Nx1 H' → ∃ k', k' < k ∧ W1 (j + 1) k' H') ∧ ∀ x H', J1.yld j H x H' → g1 x (wipe σ2 vs1) H' fun σ3 H5 => wipe σ3 vs1 = wipe σ2 vs1 ∧ tt1 σ3 H5 fun b H6 =>
          if b = true then te σ3 H6 fun y H7 => ∃ acc, H7 D = some (.lst acc) ∧ acc.length < sizeLine ∧ Nx1 (upd H7 D (.lst (acc ++ [y]))) else Nx1 H6)
      else Pv (i + 1) H3) (hd : ∀ H, Pv n H → Qd H) :
    ∃ W : Nat → Nat → Hp → Prop, (∃ m, W 0 m (upd H1 D (.lst []))) ∧ ∀ i m H, W i m H →
      (J.stop i H ∧ Qd H) ∨ (J.go i H ∧ ∃ Nx : Hp → Prop, (∀ H', Nx H' → ∃ m', m' < m ∧ W (i + 1) m' H') ∧ ∀ x H', J.yld i H x H' → g x (wipe σ vs) H' fun σ2 H2 => wipe σ2 vs = wipe σ vs ∧ tt σ2 H2 fun b H3 =>
        if b = true then wi1 σ2 H3 fun J1 H4 => ∃ W1 : Nat → Nat → Hp → Prop, (∃ m, W1 0 m H4) ∧ ∀ j k H, W1 j k H →
          (J1.stop j H ∧ Nx H) ∨ (J1.go j H ∧ ∃ Nx1 : Hp → Prop, (∀ H', Nx1 H' → ∃ k', k' < k ∧ W1 (j + 1) k' H') ∧ ∀ x H', J1.yld j H x H' → g1 x (wipe σ2 vs1) H' fun σ3 H5 => wipe σ3 vs1 = wipe σ2 vs1 ∧ tt1 σ3 H5 fun b H6 =>
            if b = true then te σ3 H6 fun y H7 => ∃ acc, H7 D = some (.lst acc) ∧ acc.length < sizeLine ∧ Nx1 (upd H7 D (.lst (acc ++ [y]))) else Nx1 H6)
        else Nx H3) := by
  refine ⟨fun i m H => m = n - i ∧ i ≤ n ∧ Pv i H, ⟨n, by simp, Nat.zero_le _, h0⟩, fun i m H hW => ?_⟩
  obtain ⟨rfl, hi, p⟩ := hW
  have q := hG i H hi p
  by_cases hlt : i < n
  · exact .inr ⟨w.goes i H hlt q, Pv (i + 1), fun H' p' => ⟨n - (i + 1), by omega, rfl, hlt, p'⟩, fun x H' y => hs i x H H' hlt p (w.yields i H x H' hlt q y)⟩
  · have e : i = n := by omega
    subst e
    exact .inl ⟨w.stops H q, hd H p⟩
/-! ### promises -/
def barredTo (ps : List (Str × Str)) (row left : List Str) (who : Str) (n : Nat) : List (Str × Str) := (left.take n).flatMap fun o => (wordsAt ps row who o).map fun w => (o, w)
theorem barredTo_step {ps : List (Str × Str)} {row left : List Str} {who : Str} {i : Nat} {o : Str} (h : left[i]? = some o) : barredTo ps row left who (i + 1) = barredTo ps row left who i ++ (wordsAt ps row who o).map fun w => (o, w) := by
  unfold barredTo
  rw [List.take_add_one, h, List.flatMap_append]
  congr 1
  simp
theorem barredTo_all (ps : List (Str × Str)) (row left : List Str) (who : Str) : barredTo ps row left who left.length = barredL ps row left who := by
  unfold barredTo barredL
  rw [List.take_of_length_le (Nat.le_refl _)]
def spNextB : Sp := fun vs H Q _ => ∃ (d r lf : Addr) (ps : List (Str × Str)) (row left : List Str) (who : Str), vs = [.ref d, .ref r, .str who, .ref lf] ∧ KnAt H d ps ∧ RowAt H r row ∧ row.length ≤ 100 ∧ row.Nodup ∧ TupAt H lf (left.map V.str) ∧ left.length ≤ 100 ∧ (∀ x ∈ left, x ∈ row) ∧ who ∈ row ∧ barredL ps row left who ≠ [] ∧
  ∀ t H', Same H H' → H' t = some (.tup [.str (nextB ps row left who).1, .str (nextB ps row left who).2]) → Q (.ref t) H'
def spRingA : Sp := fun vs H Q _ => ∃ (a r lf : Addr) (ps : List (Str × Str)) (row left : List Str), vs = [.ref a, .ref r, .ref lf] ∧ FrAt H a ps ∧ ps.length ≤ 1000 ∧ RowAt H r row ∧ row.length ≤ 100 ∧ row.Nodup ∧ TupAt H lf (left.map V.str) ∧ left.Nodup ∧ left ≠ [] ∧ (∀ x ∈ left, x ∈ row) ∧ (∀ x ∈ left, barredL ps row left x ≠ []) ∧
  ∀ (p : Addr) (bs : List B3) (H' : Hp), Same H H' → H p = none → H' p = some (.lst (refs bs)) → PairsAt H' bs → bs.map (·.2) = ringOf ps row left → Q (.ref p) H'
/-- what order_of tells: p the list in it -/
def OrdAt (H : Hp) (p : Addr) (word : Str) (ps : List (Str × Str)) (row : List Str) : Prop :=
  (goneR ps [] row = [] ∧ word = "order" ∧ H p = some (.lst ((goneO ps [] row).reverse.map V.str))) ∨ (goneR ps [] row ≠ [] ∧ word = "ring" ∧ ∃ bs : List B3, H p = some (.lst (refs bs)) ∧ PairsAt H bs ∧ bs.map (·.2) = ringOf ps row (goneR ps [] row))
theorem OrdAt.same {H H' : Hp} {p : Addr} {word : Str} {ps : List (Str × Str)} {row : List Str} (s : Same H H') (h : OrdAt H p word ps row) : OrdAt H' p word ps row :=
  h.elim (fun ⟨h1, h2, h3⟩ => .inl ⟨h1, h2, s _ _ h3⟩) (fun ⟨h1, h2, bs, h3, h4, h5⟩ => .inr ⟨h1, h2, bs, s _ _ h3, h4.same s, h5⟩)
def spOrderOf : Sp := fun vs H Q _ => ∃ (a r : Addr) (ps : List (Str × Str)) (row : List Str), vs = [.ref a, .ref r] ∧ FrAt H a ps ∧ ps.length ≤ 1000 ∧ Irr ps ∧ RowAt H r row ∧ row.Nodup ∧ row.length ≤ 100 ∧
  ∀ (T p : Addr) (word : Str) (H' : Hp), Same H H' → H p = none → H' T = some (.tup [.str word, .ref p]) → OrdAt H' p word ps row → Q (.ref T) H'
theorem someL_nil (ps : List (Str × Str)) (row : List Str) : someL ps [] row = looseL ps row := by
  unfold someL
  refine List.filter_eq_self.mpr fun x _ => ?_
  rw [decide_eq_false (fun h => nomatch h)]
  rfl
end Lk
set_option maxRecDepth 100000
set_option maxHeartbeats 4000000
namespace Lk
open PySem PySem.Spec PyProof.Rows L2
/-! ### len(set(xs)), xs a list of texts, none of them twice -/
section
variable {P : Program} {w : World} {A : Around} {E : Value → Shared → Prop} {s : Shared}
theorem strs_loop {R : Result → Shared → Prop} {I S : Addr} {fp wr : List Addr} {G : Array GenState → Array GenState → Prop} {n : Nat} {Pv : Nat → Value → Prop} {St : Nat → Shared → Prop}
    (W : WalksS P w A.in1 I fp wr G n Pv St) (nf : S ∉ fp) {xs : List Str} (en : xs.length = n) (nd : xs.Nodup) (few : n + 1 < scanBound) (hv : ∀ i v, Pv i v → ∃ x t, xs[i]? = some x ∧ v = .str x t) :
    ∀ (m i : Nat) (s : Shared), i + m = n → St i s → s.heap.SetOf (PySem.strKind P w) S (fun y => decide (y ∈ xs.take i)) i →
      (∀ s', Moved (S :: wr) G s s' → s'.heap.SetOf (PySem.strKind P w) S (fun y => decide (y ∈ xs)) n → R (.ok (.ret .none)) s') →
      codeAny (model P w) A (.builtin "set.update.loop" ⟨[.ref S, .ref I], []⟩) R s := by
  have nw : S ∉ wr := fun h => nf (W.sub _ h)
  have more : ∀ b ∈ wr, b ∈ S :: wr := fun b => List.mem_cons_of_mem _
  have stays : ∀ {s s' : Shared} {T : Str → Bool} {c : Nat}, Moved wr G s s' → s.heap.SetOf (PySem.strKind P w) S T c → s'.heap.SetOf (PySem.strKind P w) S T c := fun hm ⟨o, es, ep, t, ho, rest⟩ => ⟨o, es, ep, t, hm.heap S _ nw ho, rest⟩
  intro m
  induction m with
  | zero =>
    intro i s e st so fin
    have ei : i = n := by omega
    subst ei
    refine codeAny_builtin PyProof.Rows.F.entry_set_update_loop ?_
    rw [Around.under_plainId PyProof.Rows.F.plain_set_update_loop _]
    show wpAny _ A.in1 (pyNext (.ref I) >>= _) _ _ s
    refine wpAny_bind (W.done s _ _ st fun s' hm => ?_)
    refine wpAny_pure (fin s' (hm.mono more) ?_)
    have so' := stays hm so
    rw [← en, List.take_length] at so'
    rw [← en]
    exact so'
  | succ m ih =>
    intro i s e st so fin
    refine codeAny_builtin PyProof.Rows.F.entry_set_update_loop ?_
    rw [Around.under_plainId PyProof.Rows.F.plain_set_update_loop _]
    show wpAny _ A.in1 (pyNext (.ref I) >>= _) _ _ s
    refine wpAny_bind (W.item i s _ _ (by omega) st fun v s' hP st' hm => ?_)
    obtain ⟨x, t, hx, rfl⟩ := hv i v hP
    have so' := stays hm so
    have out : x ∉ xs.take i := fun z => by
      obtain ⟨j, hj⟩ := List.mem_iff_getElem?.mp z
      rw [List.getElem?_take] at hj
      split at hj
      · have := nd_ix nd hj hx
        omega
      · cases hj
    show wpAny _ A.in1 (holding [Value.str x t] (setAdd S (.str x t)) >>= _) _ _ s'
    refine wpAny_bind (wpAny_holding ?_)
    unfold setAdd
    refine wpAny_holding (wpAny_bind ((PySem.strKind P w).pyHash (k := x) (strKind_is _ _ _ _) ?_))
    refine wpAny_setAddHashed_of (knd := PySem.strKind P w) (s := { s' with toks := s'.toks + 1 }) (strKind_is _ _ _ _) rfl so' (by omega) fun h' sb so2 => ?_
    have so3 : h'.SetOf (PySem.strKind P w) S (fun y => decide (y ∈ xs.take (i + 1))) (i + 1) := by
      refine SetOf_congr so2 (fun y => ?_) (by rw [decide_eq_false out]; rfl)
      rw [List.take_add_one, hx]
      by_cases c1 : y ∈ xs.take i <;> by_cases c2 : y = x <;> simp [c1, c2]
    refine wpAny_pure ⟨plainId_quiet PyProof.Rows.F.plain_set_update_loop _, ih (i + 1) _ (by omega) (W.frame _ s' _ _ st' (Nat.le_succ _) fun b hb o z => ?_) so3 fun s2 hm2 so4 => ?_⟩
    · have nb : b ≠ S := fun q => nf (q ▸ hb)
      exact (sb.2 b nb).trans z
    · refine fin s2 (Moved.trans W.gtrans ((hm.mono more).then_heap (Nat.le_succ _) fun b o hb z => ?_) hm2) so4
      have nb : b ≠ S := fun q => hb (q ▸ List.mem_cons_self)
      exact (sb.2 b nb).trans z
abbrev setOb (led : Bool) : Obj := { cls := .type "set", dict := none, data := .set #[] 0 (.fresh 0 0 led) }
theorem set_strs {l : Addr} {its : List Value} {xs : List Str} {Q : Value → Shared → Prop} (hh : A.handled = none) (hl : s.heap.IsList l its.toArray) (hi : PyProof.Rows.StrsAre its xs) (nd : xs.Nodup) (few : xs.length + 1 < scanBound)
    (h : ∀ (h' : Heap) (tk : Nat), h'.SetOf (PySem.strKind P w) s.heap.objs.size (fun y => decide (y ∈ xs)) xs.length → (∀ b o, s.heap.get? b = some o → h'.get? b = some o) → Q (.ref s.heap.objs.size) { s with heap := h', toks := tk }) :
    wpAny (model P w) A (call (.type "set") [.ref l]) Q E s := by
  obtain ⟨c, tl, hmro⟩ := PySem.F.called_set.mro
  have k1 := PySem.F.called_set.made
  have k2 := PySem.F.called_set.sub
  refine wpAny_call (codeAny_of_tree (show wpAny _ _ (callAny (.type "set") _) _ _ _ from wpAny_pure ⟨Code.quiet_builtin _ (by decide +kernel), codeAny_builtin PySem.F.entry_type_call ?_⟩))
  rw [Around.under_plain (weight_type_call_type "set" [.ref l] []) rfl]
  have k3 := PySem.F.called_set.notType
  have k4 := PySem.F.called_set.canCreate
  have k5 := PySem.F.typeCall_set_1 (.ref l)
  repeat (any_goals (first | assumption | wp_step))
  refine codeAny_mono (code_set_new_1 (.ref l) (E := E) (Q₁ := fun obj s1 => ∃ led : Bool, obj = .ref s.heap.objs.size ∧ s1 = { s with heap := s.heap.push (setOb led) }) fun led => ⟨led, rfl, rfl⟩) fun r s1 hr => ?_
  match r, hr with
  | .error e, hr => exact hr
  | .ok .next, hr => exact hr.elim
  | .ok .brk, hr => exact hr.elim
  | .ok .cont, hr => exact hr.elim
  | .ok (.ret obj), hr =>
    obtain ⟨led, rfl, rfl⟩ := hr
    have gS : (s.heap.push (setOb led)).get? s.heap.objs.size = some (setOb led) := Heap.get?_push_size _ rfl
    have tS : Shared.TypeIs { s with heap := s.heap.push (setOb led) } (.ref s.heap.objs.size) "set" := ⟨_, gS, rfl⟩
    have k6 := PySem.F.called_set.init.lookup
    have k7 := PySem.F.called_set.init.bind (.ref s.heap.objs.size)
    repeat (any_goals (first | assumption | wp_step))
    refine codeAny_mono (codeAny_call_builtin (R := wants (fun r s2 => r = .none ∧ ∃ h' tk, s2 = { s with heap := h', toks := tk } ∧ h'.SetOf (PySem.strKind P w) s.heap.objs.size (fun y => decide (y ∈ xs)) xs.length ∧ (∀ b o, s.heap.get? b = some o → h'.get? b = some o)) E)
      PySem.F.called_set.init.plain PySem.F.entry_set_init (check_set_init_1 tS ?_)) fun r2 s2 hr2 => ?_
    · obtain ⟨⟨oc, od, oa, os⟩, lo, lc, nl, ld⟩ := hl
      simp only at lc ld
      subst lc ld
      have lt : l < s.heap.objs.size := Heap.lt_size lo
      have lo1 : (s.heap.push (setOb led)).get? l = some { cls := .type "list", dict := od, data := .seq its.toArray nl, slots := os } := Heap.get?_push_of_some _ lo
      have k8 := PySem.F.sub_list_set
      have k9 := PySem.F.sub_list_frozenset
      have k10 : (Value.type "list" == Value.type "dict") = false := by decide
      have l1 : (s.heap.push (setOb led)).IsList l its.toArray := ⟨_, lo1, rfl, nl, rfl⟩
      unfold Builtin.«set.__init__» noKeywords Builtin.Frozenset.updateFrom
      generalize hP : pyIter = Pi
      wp_walk
      subst hP
      refine wpAny_pyIter_list l1 (wpAny_bind (wpAny_runValue ?_))
      have sz : (s.heap.push (setOb led)).objs.size = s.heap.objs.size + 1 := Heap.size_push ..
      have ni : l ≠ (s.heap.push (setOb led)).objs.size := by rw [sz]; exact Nat.ne_of_lt (Nat.lt_succ_of_lt lt)
      have h3 : A.in1.in1.in1.handled = none := by simp [hh]
      have nf : s.heap.objs.size ∉ [(s.heap.push (setOb led)).objs.size, l] := fun z => by
        rcases List.mem_cons.mp z with z | z
        · rw [sz] at z
          exact Nat.ne_of_lt (Nat.lt_succ_self _) z
        · exact Nat.ne_of_gt lt (List.mem_singleton.mp z)
      have el : xs.length = its.toArray.size := by rw [← StrsAre.len_eq hi, List.size_toArray]
      refine strs_loop ((Walks.list h3 _ l ni its.toArray).toS) nf el nd (by rw [← el]; exact few) (fun i v hv => ?_) its.toArray.size 0 _ (Nat.zero_add _) ⟨⟨_, Heap.get?_push_size _ rfl, rfl, rfl⟩, l1.push _⟩ ?_ fun s' hm so => ?_
      · obtain ⟨t, e⟩ := SS.strs_at hi i v (by rw [← Array.getElem?_toList] at hv; simpa using hv)
        have li : i < xs.length := by
          have := (Array.getElem?_eq_some_iff.mp hv).1
          omega
        exact ⟨xs.getD i Str.empty, t, by rw [List.getD_eq_getElem?_getD, List.getElem?_eq_getElem li]; rfl, e⟩
      · have g2 := Heap.get?_push_of_some { cls := .type "list_iterator", data := .fields #[.ref l, .int 0 0] } gS
        exact SetOf_congr ((setObjOf_fresh (knd := PySem.strKind P w) led).setOf g2 (by unfold scanBound; omega)) (fun _ => rfl) rfl
      · obtain ⟨h', g', d', tk', os'⟩ := s'
        obtain rfl : g' = s.gens := hm.gens
        obtain rfl : d' = s.drawn := hm.drawn
        obtain rfl : os' = s.os := hm.os
        refine wpAny_pure (show wpAny _ _ (ret Value.none) _ _ _ from wpAny_pure ⟨rfl, h', tk', rfl, by rw [el]; exact so, fun b o z => ?_⟩)
        have bl := Heap.lt_size z
        refine hm.heap b o (fun q => ?_) (Heap.get?_push_of_some _ (Heap.get?_push_of_some _ z))
        rcases List.mem_cons.mp q with q | q
        · exact Nat.ne_of_lt bl q
        · have := List.mem_singleton.mp q
          rw [sz] at this
          exact Nat.ne_of_lt (Nat.lt_succ_of_lt bl) this
    · match r2, hr2 with
      | .error e, hr2 => exact hr2
      | .ok .next, hr2 => exact hr2.elim
      | .ok .brk, hr2 => exact hr2.elim
      | .ok .cont, hr2 => exact hr2.elim
      | .ok (.ret r), hr2 =>
        obtain ⟨rfl, h', tk, rfl, so, kp⟩ := hr2
        repeat (any_goals (first | assumption | wp_step))
        exact h _ _ so kp
end
section
variable {X : Cx}
def tLenStrs (K : PySem.W.Frag) (ta : TE) : TE := fun σ H Q => ta σ H fun x H1 => ∃ (l : Addr) (xs : List Str), x = .ref l ∧ H1 l = some (.lst (xs.map V.str)) ∧ xs.Nodup ∧ xs.length ≤ 100 ∧ Q (.int xs.length) H1
theorem pe_lenStrs {a : Expr} {ta : TE} {p p2 q pos : Pos} (hc : X.calm = true) (hg : Gl X "len") (hm : X.mg "len" = none) (hg2 : Gl X "set") (hm2 : X.mg "set" = none) (ha : PE X a ta)
    (na : starEach [a] X.env = (false, eval a X.env) :: starEach [] X.env := by rfl) : PE X (.Call (.Name "len" p) [.Call (.Name "set" p2) [a] [] q] [] pos) (tLenStrs X.K ta) := by
  refine ⟨fun pins s σ H Q I h => Call_ (ld_blt I hg hm PySem.boot_len (PyProof.Rows.callWith_builtin1 (PyProof.Rows.args_cons (Call_ (ld_blt I hg2 hm2 PyProof.Rows.boot_set ?_)) rfl) rfl rfl))⟩
  refine PyProof.Rows.callWith_type1 (PyProof.Rows.args_cons (thn (ha.run pins s σ H _ I h) fun v s1 ⟨x, H1, I1, r1, q1⟩ => PyProof.Rows.args_nil ?_) na) na rfl
  obtain ⟨l, xs, rfl, e, nd, few, q1⟩ := q1
  cases r1
  obtain ⟨its, r, pl, _⟩ := I1.list (.inl (.inl e))
  refine set_strs (I1.ok.hd hc) pl.isList (by simpa using strsAre_of r) nd (by unfold scanBound; omega) fun h' tk so kp => PyProof.Rows.args_nil ?_
  obtain ⟨o, es, ep, t, ho, ex, hd, _, _, _, hf, hn⟩ := so
  exact call_len_set ho ex hd hf (by rw [hn] <;> omega) ⟨.int xs.length, H1, (I1.kept fun b o z => kp b o z).tok _, ⟨_, by rw [hn]⟩, q1⟩
end
end Lk
set_option maxRecDepth 100000
set_option maxHeartbeats 4000000
namespace Lk
open PySem PySem.Spec PyProof.Rows L2

/-! ### who stands ahead of whom, by places -/
theorem ix_at {row : List Str} {x : Str} (hx : x ∈ row) : row[row.idxOf x]? = some x := by
  have hl : row.idxOf x < row.length := List.idxOf_lt_length_iff.mpr hx
  rw [List.getElem?_eq_getElem hl, List.getElem_idxOf]
theorem ahead_ix {row : List Str} {x y : Str} (hd : row.Nodup) : Ahead row x y ↔ x ∈ row ∧ y ∈ row ∧ row.idxOf x < row.idxOf y := by
  constructor
  · intro k
    exact ⟨k.mem.1, k.mem.2, k.lt hd (ix_at k.mem.1) (ix_at k.mem.2)⟩
  · rintro ⟨hx, hy, h⟩
    refine ⟨row.take (row.idxOf y), row.drop (row.idxOf y + 1), split_at (ix_at hy), ?_⟩
    exact List.mem_iff_getElem?.mpr ⟨row.idxOf x, by rw [List.getElem?_take, if_pos h]; exact ix_at hx⟩
theorem mem_take_ix {row : List Str} {x : Str} {i : Nat} (hd : row.Nodup) : x ∈ row.take i ↔ x ∈ row ∧ row.idxOf x < i := by
  constructor
  · intro h
    obtain ⟨j, hj⟩ := List.mem_iff_getElem?.mp h
    rw [List.getElem?_take] at hj
    split at hj
    · rename_i c
      rw [idx_at hd hj]
      exact ⟨List.mem_of_getElem? hj, c⟩
    · cases hj
  · rintro ⟨h1, h2⟩
    exact List.mem_iff_getElem?.mpr ⟨row.idxOf x, by rw [List.getElem?_take, if_pos h2]; exact ix_at h1⟩
theorem rem_ix {row : List Str} {x u v : Str} (hd : row.Nodup) (hu : u ∈ row) (hv : v ∈ row) (nu : u ≠ x) (nv : v ≠ x) : (rem row x).idxOf u < (rem row x).idxOf v ↔ row.idxOf u < row.idxOf v := by
  have mu := mem_rem.mpr ⟨hu, nu⟩
  have mv := mem_rem.mpr ⟨hv, nv⟩
  constructor
  · intro h
    exact ((ahead_ix hd).mp (((ahead_ix (rem_nodup hd)).mpr ⟨mu, mv, h⟩).of_rem hd)).2.2
  · intro h
    exact ((ahead_ix (rem_nodup hd)).mp (((ahead_ix hd).mpr ⟨hu, hv, h⟩).rem nu nv)).2.2

/-! ### by which word one bars another -/
def BarsBy (ps : List (Str × Str)) (row : List Str) (a b w : Str) : Prop :=
  (w = "behind" ∧ (∀ h ∈ row, row.idxOf h < row.idxOf a → frd ps a h = false) ∧ row.idxOf a < row.idxOf b) ∨
  (w = "between" ∧ (∃ h ∈ row, frd ps a h = true ∧ row.idxOf h < row.idxOf a ∧ (∀ g ∈ row, row.idxOf g < row.idxOf a → frd ps a g = true → row.idxOf g ≤ row.idxOf h) ∧ row.idxOf h < row.idxOf b) ∧ row.idxOf b < row.idxOf a) ∨
  (w = "friend" ∧ row.idxOf a < row.idxOf b ∧ frd ps a b = true)
def Bars (ps : List (Str × Str)) (row : List Str) (a b : Str) : Prop := ∃ w, BarsBy ps row a b w
/-- who can have come last, by places -/
theorem loose_ix {ps : List (Str × Str)} {row : List Str} {x : Str} (hd : row.Nodup) : LooseIn ps row x ↔ x ∈ row ∧ (∀ y ∈ row, row.idxOf x < row.idxOf y → frd ps x y = false) ∧ ((∃ f ∈ row, row.idxOf f + 1 = row.idxOf x ∧ frd ps x f = true) ∨ ((∀ y ∈ row, row.idxOf y < row.idxOf x → frd ps x y = false) ∧ ∀ y ∈ row, ¬ row.idxOf x < row.idxOf y)) := by
  have parts : ∀ {a b : List Str}, row = a ++ x :: b → row.idxOf x = a.length ∧ (∀ y, y ∈ a ↔ y ∈ row ∧ row.idxOf y < row.idxOf x) ∧ (∀ y, y ∈ b ↔ y ∈ row ∧ row.idxOf x < row.idxOf y) := by
    intro a b e
    have ex : row.idxOf x = a.length := idx_at hd (by rw [e]; simp)
    have ta : row.take (row.idxOf x) = a := by rw [ex, e]; simp
    refine ⟨ex, fun y => ?_, fun y => ?_⟩
    · rw [← ta, mem_take_ix hd]
    · constructor
      · intro hy
        obtain ⟨j, hj⟩ := List.mem_iff_getElem?.mp hy
        have g : row[a.length + 1 + j]? = some y := by
          rw [e, List.getElem?_append_right (by omega), show a.length + 1 + j - a.length = j + 1 by omega, List.getElem?_cons_succ]
          exact hj
        refine ⟨List.mem_of_getElem? g, ?_⟩
        rw [idx_at hd g]
        omega
      · rintro ⟨hy, h⟩
        have hm : y ∈ a ++ x :: b := e ▸ hy
        rcases List.mem_append.mp hm with m | m
        · have := ((mem_take_ix hd).mp (ta.symm ▸ m : y ∈ row.take (row.idxOf x))).2
          omega
        · rcases List.mem_cons.mp m with z | z
          · subst z
            omega
          · exact z
  constructor
  · rintro ⟨a, b, e, q1, q2⟩
    obtain ⟨ex, ha, hb⟩ := parts e
    refine ⟨by rw [e]; simp, fun y hy h => q1 y ((hb y).mpr ⟨hy, h⟩), ?_⟩
    rcases q2 with ⟨a', f, ea, hf⟩ | ⟨h1, h2⟩
    · refine .inl ⟨f, ((ha f).mp (by rw [ea]; simp)).1, ?_, hf⟩
      have : row.idxOf f = a'.length := idx_at hd (by rw [e, ea]; simp)
      rw [this, ex, ea]
      simp
    · refine .inr ⟨fun y hy h => h1 y ((ha y).mpr ⟨hy, h⟩), fun y hy h => ?_⟩
      have := (hb y).mpr ⟨hy, h⟩
      rw [h2] at this
      cases this
  · rintro ⟨hx, q1, q2⟩
    obtain ⟨a, b, e⟩ := List.append_of_mem hx
    obtain ⟨ex, ha, hb⟩ := parts e
    refine ⟨a, b, e, fun y hy => q1 y ((hb y).mp hy).1 ((hb y).mp hy).2, ?_⟩
    rcases q2 with ⟨f, hf, h1, h2⟩ | ⟨h1, h2⟩
    · refine .inl ?_
      have hfa : f ∈ a := (ha f).mpr ⟨hf, by omega⟩
      have hne : a ≠ [] := fun z => by rw [z] at hfa; cases hfa
      refine ⟨a.dropLast, a.getLast hne, (List.dropLast_concat_getLast hne).symm, ?_⟩
      have ge : row[a.length - 1]? = some (a.getLast hne) := by
        have lp : 0 < a.length := List.length_pos_iff.mpr hne
        rw [e, List.getElem?_append_left (by omega), ← List.getLast?_eq_getElem?, List.getLast?_eq_some_getLast hne]
      have gf := ix_at hf
      rw [show row.idxOf f = a.length - 1 by omega, ge] at gf
      rw [Option.some.inj gf]
      exact h2
    · refine .inr ⟨fun y hy => h1 y ((ha y).mp hy).1 ((ha y).mp hy).2, ?_⟩
      cases b with
      | nil => rfl
      | cons y b => exact absurd ((hb y).mp List.mem_cons_self).2 (h2 y ((hb y).mp List.mem_cons_self).1)
theorem loose_bars {ps : List (Str × Str)} {row : List Str} {x : Str} (hd : row.Nodup) (hx : x ∈ row) : LooseIn ps row x ↔ ∀ b ∈ row, ¬ Bars ps row x b := by
  rw [loose_ix hd]
  constructor
  · rintro ⟨_, q1, q2⟩ b hb ⟨w, h⟩
    rcases h with ⟨_, h1, h2⟩ | ⟨_, ⟨h, h1, h2, h3, h4, h5⟩, h6⟩ | ⟨_, h1, h2⟩
    · rcases q2 with ⟨f, hf, e, hf2⟩ | ⟨_, h3⟩
      · rw [h1 f hf (by omega)] at hf2
        cases hf2
      · exact h3 b hb h2
    · rcases q2 with ⟨f, hf, e, hf2⟩ | ⟨h7, _⟩
      · have := h4 f hf (by omega) hf2
        omega
      · rw [h7 h h1 h3] at h2
        cases h2
    · rw [q1 b hb h1] at h2
      cases h2
  · intro q
    have fr : ∀ y ∈ row, row.idxOf x < row.idxOf y → frd ps x y = false := fun y hy h => by
      refine Bool.eq_false_iff.mpr fun c => ?_
      exact q y hy ⟨"friend", .inr (.inr ⟨rfl, h, c⟩)⟩
    refine ⟨hx, fr, ?_⟩
    by_cases c : ∃ h ∈ row, frd ps x h = true ∧ row.idxOf h < row.idxOf x
    · refine .inl ?_
      -- the last one of these
      have : ∀ n, ∀ h ∈ row, frd ps x h = true → row.idxOf h < row.idxOf x → row.idxOf x - row.idxOf h ≤ n → ∃ f ∈ row, row.idxOf f + 1 = row.idxOf x ∧ frd ps x f = true := by
        intro n
        induction n with
        | zero => intro h _ _ h3 h4; omega
        | succ n ih =>
          intro h h1 h2 h3 h4
          by_cases c2 : ∃ g ∈ row, row.idxOf g < row.idxOf x ∧ frd ps x g = true ∧ row.idxOf h < row.idxOf g
          · obtain ⟨g, g1, g2, g3, g4⟩ := c2
            exact ih g g1 g3 g2 (by omega)
          · refine ⟨h, h1, ?_, h2⟩
            refine Classical.byContradiction fun c3 => ?_
            have hl : row.idxOf h + 1 < row.length := Nat.lt_trans (by omega : row.idxOf h + 1 < row.idxOf x) (List.idxOf_lt_length_iff.mpr hx)
            have gz := List.getElem?_eq_getElem hl
            have iz := idx_at hd gz
            refine q _ (List.mem_of_getElem? gz) ⟨"between", .inr (.inl ⟨rfl, ⟨h, h1, h2, h3, fun g g1 g2 g3 => ?_, by omega⟩, by omega⟩)⟩
            exact Nat.not_lt.mp fun g4 => c2 ⟨g, g1, g2, g3, g4⟩
      obtain ⟨h, h1, h2, h3⟩ := c
      exact this _ h h1 h2 h3 (Nat.le_refl _)
    · have no : ∀ y ∈ row, row.idxOf y < row.idxOf x → frd ps x y = false := fun y hy h => Bool.eq_false_iff.mpr fun z => c ⟨y, hy, z, h⟩
      exact .inr ⟨no, fun y hy h => q y hy ⟨"behind", .inl ⟨rfl, no, h⟩⟩⟩
/-- of the others it changes nothing whether one who can have come last is there -/
theorem barsby_rem {ps : List (Str × Str)} {row : List Str} {x u v w : Str} (hd : row.Nodup) (lx : LooseIn ps row x) (hu : u ∈ row) (hv : v ∈ row) (nu : u ≠ x) (nv : v ≠ x) : BarsBy ps (rem row x) u v w ↔ BarsBy ps row u v w := by
  obtain ⟨hx, q1, _⟩ := (loose_ix hd).mp lx
  have nf : row.idxOf x < row.idxOf u → frd ps u x = false := fun h => by rw [frd_comm]; exact q1 u hu h
  have ii : ∀ {y z : Str}, y ∈ row → z ∈ row → y ≠ x → z ≠ x → ((rem row x).idxOf y < (rem row x).idxOf z ↔ row.idxOf y < row.idxOf z) := fun h1 h2 h3 h4 => rem_ix hd h1 h2 h3 h4
  unfold BarsBy
  refine or_congr (and_congr Iff.rfl (and_congr ?_ (ii hu hv nu nv))) (or_congr (and_congr Iff.rfl (and_congr ?_ (ii hv hu nv nu))) (and_congr Iff.rfl (and_congr (ii hu hv nu nv) Iff.rfl)))
  · constructor
    · intro h y hy hl
      by_cases c : y = x
      · rw [c] at hl ⊢
        exact nf hl
      · exact h y (mem_rem.mpr ⟨hy, c⟩) ((ii hy hu c nu).mpr hl)
    · intro h y hy hl
      have m := mem_rem.mp hy
      exact h y m.1 ((ii m.1 hu m.2 nu).mp hl)
  · constructor
    · rintro ⟨h, h1, h2, h3, h4, h5⟩
      have m := mem_rem.mp h1
      refine ⟨h, m.1, h2, (ii m.1 hu m.2 nu).mp h3, fun g g1 g2 g3 => ?_, (ii m.1 hv m.2 nv).mp h5⟩
      by_cases c : g = x
      · rw [c] at g2 g3
        rw [nf g2] at g3
        cases g3
      · have := h4 g (mem_rem.mpr ⟨g1, c⟩) ((ii g1 hu c nu).mpr g2) g3
        exact Nat.not_lt.mp fun z => absurd ((ii m.1 g1 m.2 c).mpr z) (by omega)
    · rintro ⟨h, h1, h2, h3, h4, h5⟩
      have nh : h ≠ x := fun z => by
        rw [z] at h2 h3
        rw [nf h3] at h2
        cases h2
      refine ⟨h, mem_rem.mpr ⟨h1, nh⟩, h2, (ii h1 hu nh nu).mpr h3, fun g g1 g2 g3 => ?_, (ii h1 hv nh nv).mpr h5⟩
      have m := mem_rem.mp g1
      have := h4 g m.1 ((ii m.1 hu m.2 nu).mp g2) g3
      exact Nat.not_lt.mp fun z => absurd ((ii h1 m.1 nh m.2).mp z) (by omega)
theorem idx_snoc {o : List Str} {x u : Str} (hu : u ∈ o) : (o ++ [x]).idxOf u = o.idxOf u := by
  rw [List.idxOf_append, if_pos hu]
theorem idx_snoc_last {o : List Str} {x : Str} (hx : x ∉ o) : (o ++ [x]).idxOf x = o.length := by
  rw [List.idxOf_append, if_neg hx]
  simp
/-- the orders are just the lists in which each stands ahead of all that it bars -/
theorem lin_iff {ps : List (Str × Str)} (irr : Irr ps) : ∀ (n : Nat) (order row : List Str), order.length = n → order.Nodup → order.Perm row → (standOf ps order = row ↔ ∀ u ∈ row, ∀ v ∈ row, Bars ps row u v → order.idxOf u < order.idxOf v)
  | 0, order, row, hn, hd, pm => by
    have e : order = [] := List.length_eq_zero_iff.mp hn
    subst e
    have e2 : row = [] := List.nil_perm.mp pm
    subst e2
    exact ⟨(fun _ u hu => nomatch hu), fun _ => rfl⟩
  | n + 1, order, row, hn, hd, pm => by
    rcases List.eq_nil_or_concat order with z | ⟨o, x, z⟩
    · rw [z] at hn
      cases hn
    rw [List.concat_eq_append] at z
    subst z
    have hdr : row.Nodup := pm.nodup_iff.mp hd
    have hd' : (x :: o).Nodup := ((List.perm_append_singleton x o).nodup_iff).mp hd
    obtain ⟨nx, hdo⟩ := List.nodup_cons.mp hd'
    have hx : x ∈ row := pm.mem_iff.mp (by simp)
    have on : o.length = n := by
      rw [List.length_append] at hn
      have : o.length + 1 = n + 1 := hn
      omega
    have pr : o.Perm (rem row x) := by
      have p1 : (x :: o).Perm row := (List.perm_append_singleton x o).symm.trans pm
      have p2 : (rem (x :: o) x).Perm (rem row x) := p1.filter _
      have e1 : rem (x :: o) x = o := rem_split (a := []) hd'
      rw [e1] at p2
      exact p2
    have mo : ∀ u ∈ row, u ≠ x → u ∈ o := fun u hu ne => pr.mem_iff.mpr (mem_rem.mpr ⟨hu, ne⟩)
    have ih := lin_iff irr n o (rem row x) on hdo pr
    rw [standOf_app]
    constructor
    · intro e u hu v hv bv
      have hs : (x :: standOf ps o).Nodup := ((stand_perm ps o).cons x).nodup_iff.mpr hd'
      have er := come_rem (ps := ps) hs
      have lx := come_loose ps (standOf ps o) x
      rw [e] at er lx
      have nu : u ≠ x := fun z => by
        subst z
        exact (loose_bars hdr hx).mp lx v hv bv
      have uo := mo u hu nu
      rw [idx_snoc uo]
      by_cases cv : v = x
      · subst cv
        rw [idx_snoc_last nx]
        exact List.idxOf_lt_length_iff.mpr uo
      · rw [idx_snoc (mo v hv cv)]
        obtain ⟨w, bw⟩ := bv
        exact ih.mp er.symm u (mem_rem.mpr ⟨hu, nu⟩) v (mem_rem.mpr ⟨hv, cv⟩) ⟨w, (barsby_rem hdr lx hu hv nu cv).mpr bw⟩
    · intro q
      have lx : LooseIn ps row x := (loose_bars hdr hx).mpr fun b hb bb => by
        have h := q x hx b hb bb
        rw [idx_snoc_last nx] at h
        have : (o ++ [x]).idxOf b < (o ++ [x]).length := List.idxOf_lt_length_iff.mpr (pm.mem_iff.mpr hb)
        rw [List.length_append] at this
        have : (o ++ [x]).idxOf b < o.length + 1 := this
        omega
      have es : standOf ps o = rem row x := ih.mpr fun u hu v hv ⟨w, bw⟩ => by
        have mu := mem_rem.mp hu
        have mv := mem_rem.mp hv
        have h := q u mu.1 v mv.1 ⟨w, (barsby_rem hdr lx mu.1 mv.1 mu.2 mv.2).mp bw⟩
        rw [idx_snoc (mo u mu.1 mu.2), idx_snoc (mo v mv.1 mv.2)] at h
        exact h
      rw [es]
      exact loose_come irr hdr lx
end Lk
set_option maxRecDepth 100000
set_option maxHeartbeats 4000000
namespace Lk
open PySem PySem.Spec PyProof.Rows L2

/-! ### rows, be they lists or tuples -/
theorem RowAt.sq {K : PySem.W.Frag} {H : Hp} {a : Addr} {row : List Str} (h : RowAt H a row) : SqL K H a (row.map V.str) ∨ SqT K H a (row.map V.str) := h.elim (fun e => .inr e.sq) (fun e => .inl (.inl (.inl e)))
theorem RowAt.at_ {H H' : Hp} {a : Addr} {row : List Str} (h : RowAt H a row) (e : H' a = H a) : RowAt H' a row := by
  rcases h with ⟨o, h1, h2⟩ | h
  · exact .inl ⟨o, h1, e.trans h2⟩
  · exact .inr (e.trans h)
theorem RowAt.some_ {H : Hp} {a : Addr} {row : List Str} (h : RowAt H a row) : ∃ o, H a = some o := h.elim (fun ⟨_, _, e⟩ => ⟨_, e⟩) (fun e => ⟨_, e⟩)
theorem same_eq {H H' : Hp} {a : Addr} {o : HO} (s : Same H H') (h : H a = some o) : H' a = H a := (s _ _ h).trans h.symm
theorem RowAt.kept {H H' : Hp} {a : Addr} {row : List Str} (h : RowAt H a row) (s : Same H H') : H' a = H a := by
  obtain ⟨o, e⟩ := h.some_
  exact same_eq s e
theorem RowAt.oth {H H' : Hp} {a b : Addr} {row : List Str} (h : RowAt H a row) (s : Oth b H H') (hb : IsBox H b) : RowAt H' a row := h.elim (fun e => .inl (e.oth s hb)) (fun e => .inr (s _ _ (hb.ne_strs e) e))
section
variable {X : Cx}
end

/-! ### list comprehensions that leave some out -/
end Lk
set_option maxRecDepth 100000
set_option maxHeartbeats 4000000
namespace Lk
open PySem PySem.Spec PyProof.Rows L2

/-! ### list comprehensions, by what comes of each one -/
section
variable {J : It} {n : Nat} {G : Hp → Prop} {Y : Nat → Hp → V → Hp → Prop} {g : TG} {tt : TT} {te : TE} {vs : List Nat} {σ : L2.St} {H1 : Hp} {D : Addr} {Qd : Hp → Prop}
/-- each one's value is f of its place -/
theorem lc_vals (w : Walk J n G Y) (f : Nat → V) (hn : n ≤ 1000) (hD : H1 D = none) (hG : ∀ H', Same H1 H' → G H')
    (hs : ∀ (i : Nat) (x : V) (H H' : Hp) (k : V → Hp → Prop), i < n → Same H1 H → Y i H x H' → (∀ H4, Same H H4 → k (f i) H4) → g x (wipe σ vs) H' fun σ2 H2 => wipe σ2 vs = wipe σ vs ∧ te σ2 H2 k)
    (hd : ∀ H, Same H1 H → H D = some (.lst ((List.range n).map f)) → Qd H) :
    ∃ W : Nat → Nat → Hp → Prop, (∃ m, W 0 m (upd H1 D (.lst []))) ∧ ∀ i m H, W i m H →
      (J.stop i H ∧ Qd H) ∨ (J.go i H ∧ ∃ Nx : Hp → Prop, (∀ H', Nx H' → ∃ m', m' < m ∧ W (i + 1) m' H') ∧ ∀ x H', J.yld i H x H' → g x (wipe σ vs) H' fun σ2 H2 => wipe σ2 vs = wipe σ vs ∧ tYes σ2 H2 fun b H3 =>
        if b = true then te σ2 H3 fun y H4 => ∃ acc, H4 D = some (.lst acc) ∧ acc.length < sizeLine ∧ Nx (upd H4 D (.lst (acc ++ [y]))) else Nx H3) := by
  refine lc_it w (fun i H' => Same H1 H' ∧ H' D = some (.lst ((List.range i).map f))) ⟨same_upd hD, upd_same⟩ (fun i H' _ h => hG H' h.1) ?_ (fun H h => hd H h.1 h.2)
  rintro i v H H' hi ⟨s1, d1⟩ y
  refine hs i v H H' _ hi s1 y fun H4 s4 => ?_
  refine ⟨_, s4 _ _ d1, ?_, fun b o e => ?_, ?_⟩
  · rw [List.length_map, List.length_range]
    exact small1000 (by omega)
  · rw [upd_ne (ne_of_none e hD)]
    exact s4 _ _ (s1 _ _ e)
  · rw [upd_same, List.range_succ, List.map_append]
    rfl
/-- texts -/
theorem lc_strs (w : Walk J n G Y) (xs : List Str) (hl : xs.length = n) (hn : n ≤ 1000) (hD : H1 D = none) (hG : ∀ H', Same H1 H' → G H')
    (hs : ∀ (i : Nat) (x : Str) (v : V) (H H' : Hp) (k : V → Hp → Prop), xs[i]? = some x → Same H1 H → Y i H v H' → (∀ H4, Same H H4 → k (.str x) H4) → g v (wipe σ vs) H' fun σ2 H2 => wipe σ2 vs = wipe σ vs ∧ te σ2 H2 k)
    (hd : ∀ H, Same H1 H → H D = some (.lst (xs.map V.str)) → Qd H) :
    ∃ W : Nat → Nat → Hp → Prop, (∃ m, W 0 m (upd H1 D (.lst []))) ∧ ∀ i m H, W i m H →
      (J.stop i H ∧ Qd H) ∨ (J.go i H ∧ ∃ Nx : Hp → Prop, (∀ H', Nx H' → ∃ m', m' < m ∧ W (i + 1) m' H') ∧ ∀ x H', J.yld i H x H' → g x (wipe σ vs) H' fun σ2 H2 => wipe σ2 vs = wipe σ vs ∧ tYes σ2 H2 fun b H3 =>
        if b = true then te σ2 H3 fun y H4 => ∃ acc, H4 D = some (.lst acc) ∧ acc.length < sizeLine ∧ Nx (upd H4 D (.lst (acc ++ [y]))) else Nx H3) := by
  refine lc_it w (fun i H' => Same H1 H' ∧ H' D = some (.lst ((xs.take i).map V.str))) ⟨same_upd hD, upd_same⟩ (fun i H' _ h => hG H' h.1) ?_ (fun H h => hd H h.1 ?_)
  · rintro i v H H' hi ⟨s1, d1⟩ y
    obtain ⟨x, hx⟩ : ∃ x, xs[i]? = some x := ⟨xs[i]'(by omega), List.getElem?_eq_getElem (by omega)⟩
    refine hs i x v H H' _ hx s1 y fun H4 s4 => ?_
    refine ⟨_, s4 _ _ d1, ?_, fun b o e => ?_, ?_⟩
    · rw [List.length_map, List.length_take]
      exact small1000 (by omega)
    · rw [upd_ne (ne_of_none e hD)]
      exact s4 _ _ (s1 _ _ e)
    · rw [upd_same, List.take_add_one, hx, List.map_append]
      rfl
  · have d1 := h.2
    rw [List.take_of_length_le (by omega)] at d1
    exact d1
end
theorem trues_all (n : Nat) : ((List.range n).map fun _ => V.bl true) = (List.replicate n true).map V.bl := by
  rw [List.map_const', List.length_range, List.map_replicate]
end Lk
set_option maxRecDepth 100000
set_option maxHeartbeats 4000000
namespace Lk
open PySem PySem.Spec PyProof.Rows L2
/-! ### the set of a tuple of texts -/
section
variable {P : Program} {w : World} {A : Around} {E : Value → Shared → Prop} {s : Shared}
end
section
variable {X : Cx}
end
end Lk
set_option maxRecDepth 100000
set_option maxHeartbeats 4000000
namespace Lk
open PySem PySem.Spec PyProof.Rows L2
theorem ord_ring {ps : List (Str × Str)} {row : List Str} (irr : Irr ps) (hd : row.Nodup) (ne : goneR ps [] row ≠ []) : RingOk ps row (goneR ps [] row) (ringOf ps row (goneR ps [] row)) := by
  obtain ⟨r1, r2, _⟩ := gone_red (stay := []) irr row.length row rfl hd
  exact ringOf_ok hd r1 r2 ne
theorem ord_len {ps : List (Str × Str)} {row : List Str} {bs : List B3} (irr : Irr ps) (hd : row.Nodup) (ne : goneR ps [] row ≠ []) (e : bs.map (·.2) = ringOf ps row (goneR ps [] row)) : bs.length ≤ row.length := by
  obtain ⟨r1, _, _⟩ := gone_red (stay := []) irr row.length row rfl hd
  have h := ring_len (ord_ring irr hd ne)
  rw [← e, List.length_map] at h
  exact Nat.le_trans h r1.len
theorem OrdAt.lst {H : Hp} {p : Addr} {w : Str} {ps : List (Str × Str)} {row : List Str} (irr : Irr ps) (hd : row.Nodup) (hn : row.length ≤ 100) (h : OrdAt H p w ps row) : ∃ xs, H p = some (.lst xs) ∧ xs.length ≤ 100 ∧
    (∀ ke H', Same H H' → H' ke = some (.lst xs) → OrdAt H' ke w ps row) ∧ (∀ ke o', ke ≠ p → H ke = some (.lst xs) → OrdAt (upd H p o') ke w ps row) := by
  obtain ⟨_, _, gl⟩ := gone_red (stay := []) irr row.length row rfl hd
  rcases h with ⟨a1, a2, a3⟩ | ⟨a1, a2, bs, a3, a4, a5⟩
  · exact ⟨_, a3, by rw [List.length_map, List.length_reverse]; omega, fun ke H' s e => .inl ⟨a1, a2, e⟩, fun ke o' ne e => .inl ⟨a1, a2, (upd_ne ne).trans e⟩⟩
  · have bl := ord_len irr hd a1 a5
    refine ⟨_, a3, by show (bs.map _).length ≤ 100; rw [List.length_map]; omega, fun ke H' s e => .inr ⟨a1, a2, bs, e, a4.same s, a5⟩, fun ke o' ne e => .inr ⟨a1, a2, bs, (upd_ne ne).trans e, fun c hc => ?_, a5⟩⟩
    exact (upd_ne (ne_of (a4 c hc) a3 (fun z => nomatch z))).trans (a4 c hc)
end Lk
set_option maxRecDepth 100000
set_option maxHeartbeats 4000000
namespace Lk
open PySem PySem.Spec PyProof.Rows L2

/-! ### letters -/
theorem letter_ge {c : Nat} (h : 97 ≤ c) : (!decide (([c] : List Nat) < (("a" : Str)).cps.toList)) = true := by
  have e : (("a" : Str)).cps.toList = [97] := by decide +kernel
  rw [e]
  have : ¬ ([c] : List Nat) < [97] := fun z => by
    rcases List.cons_lt_cons_iff.mp z with z | ⟨_, z⟩
    · omega
    · exact absurd z (List.not_lt_nil _)
  rw [decide_eq_false this]
  rfl
theorem letter_le {c : Nat} (h : c ≤ 122) : (!decide ((("z" : Str)).cps.toList < ([c] : List Nat))) = true := by
  have e : (("z" : Str)).cps.toList = [122] := by decide +kernel
  rw [e]
  have : ¬ ([122] : List Nat) < [c] := fun z => by
    rcases List.cons_lt_cons_iff.mp z with z | ⟨_, z⟩
    · omega
    · exact absurd z (List.not_lt_nil _)
  rw [decide_eq_false this]
  rfl

def rLeS : R2 := fun x y H Q => ∃ i j, x = .str i ∧ y = .str j ∧ Q (.bl (!decide (j.cps.toList < i.cps.toList))) H
theorem op_leS {X : Cx} : OpR X (compareOp .LtE) rLeS := op_le_str
/-! ### promises of the small judges -/
def spIsName : Sp := fun vs H Q _ => ∃ x : Str, vs = [.str x] ∧ NameOk x ∧ ∀ H', Same H H' → Q (.bl true) H'
def spIsLink : Sp := fun vs H Q _ => ∃ (t : Addr) (x w : Str), vs = [.ref t] ∧ H t = some (.tup [.str x, .str w]) ∧ NameOk x ∧ ∀ H', Same H H' → Q (.bl true) H'
def LinksOk (H : Hp) (p : Addr) (bs : List B3) : Prop := H p = some (.lst (refs bs)) ∧ PairsAt H bs ∧ (∀ b ∈ bs, NameOk b.2.1) ∧ (bs.map (·.2.1)).Nodup ∧ bs ≠ [] ∧ bs.length ≤ 100
theorem LinksOk.same {H H' : Hp} {p : Addr} {bs : List B3} (s : Same H H') (h : LinksOk H p bs) : LinksOk H' p bs := ⟨s _ _ h.1, h.2.1.same s, h.2.2⟩
def spAreLinks : Sp := fun vs H Q _ => ∃ (p : Addr) (bs : List B3), vs = [.ref p] ∧ LinksOk H p bs ∧ ∀ H', Same H H' → Q (.bl true) H'
def nextsL (bs : List B3) (last : Str) : List Str := (bs.drop 1).map (·.2.1) ++ [last]
end Lk
set_option maxRecDepth 100000
set_option maxHeartbeats 4000000
namespace Lk
open PySem PySem.Spec PyProof.Rows L2

/-! ### whoever comes, the same are left -/
/-- what order_of told, and who came since -/
def MatAt (H : Hp) (p : Addr) (word : Str) (ps : List (Str × Str)) (row more : List Str) : Prop :=
  (word = "ring" ∧ goneR ps [] row ≠ [] ∧ ∃ bs : List B3, H p = some (.lst (refs bs)) ∧ PairsAt H bs ∧ bs.map (·.2) = ringOf ps row (goneR ps [] row)) ∨ (word = "order" ∧ goneR ps [] row = [] ∧ H p = some (.lst (((goneO ps [] row).reverse ++ more).map V.str)))
theorem MatAt.same {H H' : Hp} {p : Addr} {word : Str} {ps : List (Str × Str)} {row more : List Str} (s : Same H H') (h : MatAt H p word ps row more) : MatAt H' p word ps row more :=
  h.elim (fun ⟨h1, h2, bs, h3, h4, h5⟩ => .inl ⟨h1, h2, bs, s _ _ h3, h4.same s, h5⟩) (fun ⟨h1, h2, h3⟩ => .inr ⟨h1, h2, s _ _ h3⟩)
theorem OrdAt.word {H : Hp} {p : Addr} {w : Str} {ps : List (Str × Str)} {row : List Str} (h : OrdAt H p w ps row) : (w = "ring" ∧ goneR ps [] row ≠ []) ∨ (w = "order" ∧ goneR ps [] row = []) := h.elim (fun h => .inr ⟨h.2.1, h.1⟩) (fun h => .inl ⟨h.2.1, h.1⟩)
end Lk
set_option maxRecDepth 100000
set_option maxHeartbeats 4000000
namespace Lk
open PySem PySem.Spec PyProof.Rows L2

/-! ### behind whom one came -/
end Lk
set_option maxRecDepth 100000
set_option maxHeartbeats 4000000
namespace Lk
open PySem PySem.Spec PyProof.Rows L2

/-! ### deeds: nobody: a serving; somebody: its coming -/
abbrev Deed := Option Str
def deedL : Deed → List Str
  | none => ["serve"]
  | some x => ["come", x]
abbrev LD := Addr × Deed
def refsD (ds : List LD) : List V := ds.map fun q => V.ref q.1
def DeedsAt (H : Hp) (ds : List LD) : Prop := ∀ q ∈ ds, TupAt H q.1 ((deedL q.2).map V.str)
theorem DeedsAt.same {H H' : Hp} {ds : List LD} (s : Same H H') (h : DeedsAt H ds) : DeedsAt H' ds := fun q hq => (h q hq).same s
/-- the row and those who were served, behind one deed -/
def stepD (ps : List (Str × Str)) (st : List Str × List Str) (met : List Str) : Deed → Option (List Str × List Str)
  | none => if st.1 = [] then none else some (st.1.drop 1, st.2 ++ st.1.take 1)
  | some x => if x ∈ met then none else some (comeTo ps st.1 x, st.2)
def comers (ds : List Deed) : List Str := ds.filterMap id
def goD (ps : List (Str × Str)) : List Deed → List Str × List Str → List Str → Option (List Str × List Str)
  | [], st, _ => some st
  | d :: ds, st, met => match stepD ps st met d with
    | none => none
    | some st' => goD ps ds st' (met ++ d.toList)
theorem goD_snoc (ps : List (Str × Str)) (d : Deed) : ∀ (ds : List Deed) (st : List Str × List Str) (met : List Str), goD ps (ds ++ [d]) st met = match goD ps ds st met with | none => none | some st' => stepD ps st' (met ++ comers ds) d
  | [], st, met => by
    show (match stepD ps st met d with | none => none | some st' => some st') = stepD ps st (met ++ comers []) d
    rw [show met ++ comers [] = met from List.append_nil met]
    cases stepD ps st met d <;> rfl
  | e :: ds, st, met => by
    show (match stepD ps st met e with | none => none | some st' => goD ps (ds ++ [d]) st' (met ++ e.toList)) = match (match stepD ps st met e with | none => none | some st' => goD ps ds st' (met ++ e.toList)) with | none => none | some st' => stepD ps st' (met ++ comers (e :: ds)) d
    cases h : stepD ps st met e with
    | none => rfl
    | some st' =>
      show goD ps (ds ++ [d]) st' (met ++ e.toList) = match goD ps ds st' (met ++ e.toList) with | none => none | some st'' => stepD ps st'' (met ++ comers (e :: ds)) d
      rw [goD_snoc ps d ds st' (met ++ e.toList)]
      have ec : met ++ e.toList ++ comers ds = met ++ comers (e :: ds) := by
        rw [List.append_assoc]
        cases e with
        | none => rfl
        | some x => rfl
      rw [ec]
/-- nobody is in it twice, and none but those who came or were there -/
theorem go_perm {ps : List (Str × Str)} : ∀ (ds : List Deed) (st : List Str × List Str) (met : List Str) (st' : List Str × List Str), goD ps ds st met = some st' → (st'.2 ++ st'.1).Perm (comers ds ++ (st.2 ++ st.1))
  | [], st, met, st', h => by
    have e : st = st' := Option.some.inj h
    subst e
    exact List.Perm.refl _
  | d :: ds, st, met, st', h => by
    have h' : (match stepD ps st met d with | none => none | some s2 => goD ps ds s2 (met ++ d.toList)) = some st' := h
    cases e : stepD ps st met d with
    | none => rw [e] at h'; cases h'
    | some s2 =>
      rw [e] at h'
      have ih := go_perm ds s2 (met ++ d.toList) st' h'
      refine ih.trans ?_
      cases d with
      | none =>
        have e2 : (if st.1 = [] then none else some (st.1.drop 1, st.2 ++ st.1.take 1)) = some s2 := e
        by_cases c : st.1 = []
        · rw [if_pos c] at e2
          cases e2
        · rw [if_neg c] at e2
          have e3 := Option.some.inj e2
          subst e3
          show (comers ds ++ ((st.2 ++ st.1.take 1) ++ st.1.drop 1)).Perm (comers ds ++ (st.2 ++ st.1))
          rw [List.append_assoc, List.take_append_drop]
      | some x =>
        have e2 : (if x ∈ met then none else some (comeTo ps st.1 x, st.2)) = some s2 := e
        by_cases c : x ∈ met
        · rw [if_pos c] at e2
          cases e2
        · rw [if_neg c] at e2
          have e3 := Option.some.inj e2
          subst e3
          show (comers ds ++ (st.2 ++ comeTo ps st.1 x)).Perm (x :: comers ds ++ (st.2 ++ st.1))
          have p1 : (st.2 ++ comeTo ps st.1 x).Perm (x :: (st.2 ++ st.1)) := (List.Perm.append_left _ (come_perm ps st.1 x)).trans List.perm_middle
          exact (List.Perm.append_left _ p1).trans List.perm_middle
/-! ### promises -/
end Lk
set_option maxRecDepth 100000
set_option maxHeartbeats 4000000
namespace Lk
open PySem PySem.Spec PyProof.Rows L2

/-! ### back through servings -/
/-- no friend of it stands behind it -/
def NoBeh (ps : List (Str × Str)) (row : List Str) (x : Str) : Prop := ∃ c d, row = c ++ x :: d ∧ ∀ y ∈ d, frd ps x y = false
theorem LooseIn.nb {ps : List (Str × Str)} {row : List Str} {x : Str} (h : LooseIn ps row x) : NoBeh ps row x := by
  obtain ⟨a, b, e, h1, _⟩ := h
  exact ⟨a, b, e, h1⟩
theorem NoBeh.mem {ps : List (Str × Str)} {row : List Str} {x : Str} (h : NoBeh ps row x) : x ∈ row := by
  obtain ⟨a, b, rfl, _⟩ := h
  simp
theorem NoBeh.cons {ps : List (Str × Str)} {row : List Str} {x : Str} (y : Str) (h : NoBeh ps row x) : NoBeh ps (y :: row) x := by
  obtain ⟨a, b, rfl, h1⟩ := h
  exact ⟨y :: a, b, rfl, h1⟩
theorem NoBeh.rem_ {ps : List (Str × Str)} {row : List Str} {x y : Str} (h : NoBeh ps row x) (ne : x ≠ y) : NoBeh ps (rem row y) x := by
  obtain ⟨a, b, rfl, h1⟩ := h
  refine ⟨rem a y, rem b y, ?_, fun z hz => h1 z (List.mem_filter.mp hz).1⟩
  unfold rem
  rw [List.filter_append, List.filter_cons]
  simp [ne]
theorem diamondN {ps : List (Str × Str)} {row : List Str} {x y : Str} (hd : row.Nodup) (hx : LooseIn ps row x) (hy : NoBeh ps row y) (ne : x ≠ y) : LooseIn ps (rem row y) x := by
  obtain ⟨a, b, e, h1, h2⟩ := hx
  have my : y ∈ row := hy.mem
  obtain ⟨c, d, e', g1⟩ := hy
  have my' : y ∈ a ∨ y ∈ b := by
    rw [e] at my
    rcases List.mem_append.mp my with z | z
    · exact .inl z
    · rcases List.mem_cons.mp z with z | z
      · exact absurd z.symm ne
      · exact .inr z
  rcases my' with m | m
  · obtain ⟨a1, a2, rfl⟩ := List.append_of_mem m
    have e2 : row = a1 ++ y :: (a2 ++ x :: b) := by rw [e]; simp
    have er : rem row y = (a1 ++ a2) ++ x :: b := by
      rw [e2, rem_split (by rw [← e2]; exact hd)]
      simp
    refine ⟨a1 ++ a2, b, er, h1, ?_⟩
    obtain ⟨_, u2⟩ := split_uniq hd e2 e'
    rcases h2 with ⟨a', f, ea, hf⟩ | ⟨na, nb⟩
    · rcases List.eq_nil_or_concat a2 with z | ⟨l, g, z⟩
      · subst z
        have q := List.append_inj' ea (by rfl)
        have ey : y = f := (List.cons.inj q.2).1
        have bad := g1 x (by rw [← u2]; simp)
        rw [frd_comm, ey, hf] at bad
        cases bad
      · rw [List.concat_eq_append] at z
        subst z
        have ea' : (a1 ++ y :: l) ++ [g] = a' ++ [f] := by rw [← ea]; simp
        have q := List.append_inj' ea' rfl
        have eg : g = f := (List.cons.inj q.2).1
        exact .inl ⟨a1 ++ l, g, by simp, by rw [eg]; exact hf⟩
    · exact .inr ⟨fun z hz => na z (by
        rcases List.mem_append.mp hz with w | w
        · exact List.mem_append_left _ w
        · exact List.mem_append_right _ (List.mem_cons_of_mem _ w)), nb⟩
  · obtain ⟨b1, b2, rfl⟩ := List.append_of_mem m
    have e2 : row = (a ++ x :: b1) ++ y :: b2 := by rw [e]; simp
    have er : rem row y = a ++ x :: (b1 ++ b2) := by
      rw [e2, rem_split (by rw [← e2]; exact hd)]
      simp
    refine ⟨a, b1 ++ b2, er, fun z hz => h1 z (by
        rcases List.mem_append.mp hz with w | w
        · exact List.mem_append_left _ w
        · exact List.mem_append_right _ (List.mem_cons_of_mem _ w)), ?_⟩
    rcases h2 with h | ⟨_, z⟩
    · exact .inl h
    · exact absurd z (by simp)
/-- back from a row, `m` served, to one with `m0` served: the last deed first; whoever has to stay at that moment stays -/
inductive Way (ps : List (Str × Str)) (stay : Nat → List Str) (sv : List Str) (m0 : Nat) : Nat → List Str → List Deed → List Str → Prop where
  | done (row : List Str) : Way ps stay sv m0 m0 row [] row
  | go {m : Nat} {row : List Str} {ds : List Deed} {fin : List Str} (x : Str) (h : LooseIn ps row x) (hs : x ∉ stay m) (t : Way ps stay sv m0 m (rem row x) ds fin) : Way ps stay sv m0 m row (some x :: ds) fin
  | back {m : Nat} {row : List Str} {ds : List Deed} {fin : List Str} (y : Str) (h : sv[m]? = some y) (t : Way ps stay sv m0 m (y :: row) ds fin) : Way ps stay sv m0 (m + 1) row (none :: ds) fin
section
variable {ps : List (Str × Str)} {stay stay' : Nat → List Str} {sv : List Str} {m0 m1 m : Nat} {row mid fin : List Str} {ds ds' : List Deed}
theorem Way.le (h : Way ps stay sv m0 m row ds fin) : m0 ≤ m := by
  induction h with
  | done _ => exact Nat.le_refl _
  | go x h hs t ih => exact ih
  | back y h t ih => omega
theorem Way.trans (h : Way ps stay sv m1 m row ds mid) : Way ps stay sv m0 m1 mid ds' fin → Way ps stay sv m0 m row (ds ++ ds') fin := by
  induction h with
  | done _ => exact id
  | go x h hs t ih => exact fun k => .go x h hs (ih k)
  | back y h t ih => exact fun k => .back y h (ih k)
theorem line_back {y : Str} (h : sv[m]? = some y) : sv.take (m + 1) ++ row = sv.take m ++ y :: row := by
  rw [List.take_add_one, h]
  simp
theorem nd_right {a b : List Str} (h : (a ++ b).Nodup) : b.Nodup := (List.nodup_append.mp h).2.1
theorem nd_rem {a b : List Str} {x : Str} (h : (a ++ b).Nodup) : (a ++ rem b x).Nodup := h.sublist (List.Sublist.append_left List.filter_sublist _)
theorem Way.sub (h : Way ps stay sv m0 m row ds fin) : ∀ x ∈ fin, x ∈ sv.take m ++ row := by
  induction h with
  | done _ => exact fun x hx => List.mem_append_right _ hx
  | go y h hs t ih =>
    intro x hx
    rcases List.mem_append.mp (ih x hx) with z | z
    · exact List.mem_append_left _ z
    · exact List.mem_append_right _ (List.mem_filter.mp z).1
  | back y h t ih =>
    intro x hx
    rw [line_back h]
    exact ih x hx
theorem rem_no {row : List Str} {x : Str} (h : x ∉ row) : rem row x = row := List.filter_eq_self.mpr fun y hy => by
  have : ¬ y = x := fun z => h (z ▸ hy)
  simp [this]
/-- who could go once may be gone at once -/
theorem Way.swap (h : Way ps stay sv m0 m row ds fin) : (sv.take m ++ row).Nodup → ∀ x, NoBeh ps row x → ∃ ds', Way ps stay sv m0 m (rem row x) ds' (rem fin x) := by
  induction h with
  | done row => exact fun _ x _ => ⟨[], .done _⟩
  | @go m row ds fin y hy hs t ih =>
    intro hd x hx
    by_cases e : y = x
    · subst e
      have ny : y ∉ fin := fun z => by
        have q := t.sub y z
        have dj := (List.nodup_append.mp hd).2.2
        rcases List.mem_append.mp q with u | u
        · exact dj y u y hx.mem rfl
        · have := (List.mem_filter.mp u).2
          simp at this
      rw [rem_no ny]
      exact ⟨ds, t⟩
    · obtain ⟨ds', w⟩ := ih (nd_rem hd) x (hx.rem_ (fun z => e z.symm))
      rw [rem_comm] at w
      exact ⟨some y :: ds', .go y (diamondN (nd_right hd) hy hx e) hs w⟩
  | @back m row ds fin y hy t ih =>
    intro hd x hx
    rw [line_back hy] at hd
    have ne : y ≠ x := fun z => by
      have := (List.nodup_cons.mp (nd_right hd)).1
      exact this (z ▸ hx.mem)
    obtain ⟨ds', w⟩ := ih hd x (hx.cons y)
    have e : rem (y :: row) x = y :: rem row x := by
      unfold rem
      rw [List.filter_cons]
      simp [ne]
    rw [e] at w
    exact ⟨none :: ds', .back y hy w⟩
/-- whoever can go goes, at every moment -/
def trace (ps : List (Str × Str)) (stay : Nat → List Str) (sv : List Str) : Nat → List Str → List Deed × List Str
  | 0, row => ((goneO ps (stay 0) row).map some, goneR ps (stay 0) row)
  | m + 1, row => ((goneO ps (stay (m + 1)) row).map some ++ none :: (trace ps stay sv m (sv.getD m "" :: goneR ps (stay (m + 1)) row)).1, (trace ps stay sv m (sv.getD m "" :: goneR ps (stay (m + 1)) row)).2)
theorem Red.nd2 {s : List Str} {a row n : List Str} (r : Red ps s row n) : (a ++ row).Nodup → (a ++ n).Nodup := by
  induction r with
  | done _ => exact id
  | go x _ _ t ih => exact fun h => ih (nd_rem h)
/-! ### histories are such ways -/
def Free (stay : Nat → List Str) : Nat → List Deed → Prop
  | _, [] => True
  | m, none :: ds => Free stay (m + 1) ds
  | m, some x :: ds => x ∉ stay m ∧ Free stay m ds
theorem go_pre : ∀ (ds : List Deed) {st : List Str × List Str} {met : List Str} {st' : List Str × List Str}, goD ps ds st met = some st' → ∃ e, st'.2 = st.2 ++ e
  | [], st, met, st', h => by
    have e : st = st' := Option.some.inj h
    subst e
    exact ⟨[], by simp⟩
  | d :: ds, st, met, st', h => by
    have h' : (match stepD ps st met d with | none => none | some s2 => goD ps ds s2 (met ++ d.toList)) = some st' := h
    cases e : stepD ps st met d with
    | none => rw [e] at h'; cases h'
    | some s2 =>
      rw [e] at h'
      obtain ⟨e3, q⟩ := go_pre ds h'
      cases d with
      | none =>
        have e2 : (if st.1 = [] then none else some (st.1.drop 1, st.2 ++ st.1.take 1)) = some s2 := e
        by_cases c : st.1 = []
        · rw [if_pos c] at e2
          cases e2
        · rw [if_neg c] at e2
          have e5 := Option.some.inj e2
          subst e5
          exact ⟨st.1.take 1 ++ e3, by rw [q, List.append_assoc]⟩
      | some x =>
        have e2 : (if x ∈ met then none else some (comeTo ps st.1 x, st.2)) = some s2 := e
        by_cases c : x ∈ met
        · rw [if_pos c] at e2
          cases e2
        · rw [if_neg c] at e2
          have e5 := Option.some.inj e2
          subst e5
          exact ⟨e3, q⟩
theorem go_way : ∀ (ds : List Deed) {st0 gn0 met st gn : List Str}, goD ps ds (st0, gn0) met = some (st, gn) → (∀ x ∈ gn0 ++ st0, x ∈ met) → (gn0 ++ st0).Nodup → Free stay gn0.length ds → (∃ more, sv = gn ++ more) → Way ps stay sv gn0.length gn.length st ds.reverse st0
  | [], st0, gn0, met, st, gn, h, _, _, _, _ => by
    have e : (st0, gn0) = (st, gn) := Option.some.inj h
    have e1 : st0 = st := congrArg Prod.fst e
    have e2 : gn0 = gn := congrArg Prod.snd e
    subst e1
    subst e2
    exact .done _
  | none :: ds, st0, gn0, met, st, gn, h, hm, hd, hf, hs => by
    have h' : (match (if st0 = [] then none else some (st0.drop 1, gn0 ++ st0.take 1)) with | none => none | some s2 => goD ps ds s2 (met ++ [])) = some (st, gn) := h
    cases st0 with
    | nil =>
      rw [if_pos rfl] at h'
      cases h'
    | cons y st1 =>
      rw [if_neg (by simp), List.append_nil] at h'
      have h2 : goD ps ds (st1, gn0 ++ [y]) met = some (st, gn) := h'
      have hd2 : ((gn0 ++ [y]) ++ st1).Nodup := by
        rw [List.append_assoc]
        exact hd
      have l1 : (gn0 ++ [y]).length = gn0.length + 1 := by simp
      have w := go_way ds h2 (fun x hx => hm x (by simpa using hx)) hd2 (by rw [l1]; exact hf) hs
      rw [l1] at w
      obtain ⟨e, q⟩ := go_pre ds h2
      obtain ⟨more, hmore⟩ := hs
      have at_ : sv[gn0.length]? = some y := by
        rw [hmore, show gn = (gn0 ++ [y]) ++ e from q]
        simp
      rw [List.reverse_cons]
      exact w.trans (.back y at_ (.done _))
  | some x :: ds, st0, gn0, met, st, gn, h, hm, hd, hf, hs => by
    have h' : (match (if x ∈ met then none else some (comeTo ps st0 x, gn0)) with | none => none | some s2 => goD ps ds s2 (met ++ [x])) = some (st, gn) := h
    by_cases c : x ∈ met
    · rw [if_pos c] at h'
      cases h'
    · rw [if_neg c] at h'
      have h2 : goD ps ds (comeTo ps st0 x, gn0) (met ++ [x]) = some (st, gn) := h'
      have nx : x ∉ gn0 ++ st0 := fun z => c (hm x z)
      have pm : (gn0 ++ comeTo ps st0 x).Perm (x :: (gn0 ++ st0)) := (List.Perm.append_left _ (come_perm ps st0 x)).trans List.perm_middle
      have hd2 : (gn0 ++ comeTo ps st0 x).Nodup := pm.nodup_iff.mpr (List.nodup_cons.mpr ⟨nx, hd⟩)
      have w := go_way ds h2 (fun y hy => by
        rcases List.mem_cons.mp (pm.mem_iff.mp hy) with z | z
        · rw [z]
          simp
        · exact List.mem_append_left _ (hm y z)) hd2 hf.2 hs
      rw [List.reverse_cons]
      refine w.trans (.go x (come_loose ps st0 x) hf.1 ?_)
      rw [come_rem (List.nodup_cons.mpr ⟨fun z => nx (List.mem_append_right _ z), nd_right hd⟩)]
      exact .done _
end
/-! ### traced_back -/
def waitN (ws : Option (Str × Nat)) (m : Nat) : List Str := match ws with
  | none => []
  | some (w, n) => if n = m then [] else [w]
def stayF (elders : List Str) (ws : Option (Str × Nat)) (m : Nat) : List Str := elders ++ waitN ws m
/-- they all stand in the line, one behind the other -/
def InLine (line elders : List Str) : Prop := (∀ x ∈ elders, x ∈ line) ∧ elders.Pairwise fun x y => line.idxOf x ≤ line.idxOf y
end Lk
set_option maxRecDepth 100000
set_option maxHeartbeats 4000000
namespace Lk
open PySem PySem.Spec PyProof.Rows L2
end Lk
set_option maxRecDepth 100000
set_option maxHeartbeats 4000000
namespace Lk
open PySem PySem.Spec PyProof.Rows L2
/-! ### deeds that can be done -/
/-! ### ways, one behind the other -/
end Lk
set_option maxRecDepth 100000
set_option maxHeartbeats 4000000
namespace Lk
open PySem PySem.Spec PyProof.Rows L2
/-! ### set(ns), ns a list of ints, none of them twice -/
section
variable {P : Program} {w : World} {A : Around} {E : Value → Shared → Prop} {s : Shared}
end
section
variable {X : Cx}
end
end Lk
set_option maxRecDepth 100000
set_option maxHeartbeats 4000000
namespace Lk
open PySem PySem.Spec PyProof.Rows L2
/-! ### a def whose last parameter, by its name alone, has a default: a bare tuple -/
structure CalK (P : Program) (w : World) (K : PySem.W.Frag) (mg : Str → Option Value) (base : Heap) (k : Nat) (x : Str) (ps : List Str) (n : Nat) (kw : Str) (sp : Sp) (E : Addr) : Prop where
  ex : ∃ f fd, FnOk P w K mg base CX0 k f fd ps sp ∧ mg x = some (.ref f) ∧ PySem.W.keepIn K (.ref f) = true ∧ KBn K fd ps n [kw] (fun us ws => us ++ ws) (fun vs zs => vs ++ zs) ∧ ∃ ds, Vals [V.ref E] ds ∧ Binds K fd ps ds
  emp : ∃ (o : Obj) (n : Nat), K.lookup E = some o ∧ o.cls = .type "tuple" ∧ o.data = .seq #[] n
theorem CalK.but {P : Program} {w : World} {K : PySem.W.Frag} {mg : Str → Option Value} {base : Heap} {k n : Nat} {x kw : Str} {ps : List Str} {sp : Sp} {E : Addr} (C : CalK P w K mg base k x ps n kw sp E) (H : Hp) : ButKeeps K H E [] := by
  obtain ⟨o, n, h1, h2, h3⟩ := C.emp
  exact fun _ _ => .inr (.inr ⟨o, #[], n, h1, h2, h3, Nat.zero_le _, .nil⟩)
section
variable {X : Cx} {k m n : Nat} {x kw : Str} {ps : List Str} {sp : Sp} {D : Addr} {p pos : Pos} {e : Expr} {es : List Expr} {t tk : TA} {kws : List Keyword}
end
end Lk
set_option maxRecDepth 100000
set_option maxHeartbeats 4000000
namespace Lk
open PySem PySem.Spec PyProof.Rows L2
/-! ### a story in two parts -/
section
variable {ps : List (Str × Str)}
theorem stepD_none {st gn met : List Str} {s2 : List Str × List Str} (h : stepD ps (st, gn) met none = some s2) : ∃ y st1, st = y :: st1 ∧ s2 = (st1, gn ++ [y]) := by
  have e2 : (if st = [] then none else some (st.drop 1, gn ++ st.take 1)) = some s2 := h
  cases st with
  | nil => rw [if_pos rfl] at e2; cases e2
  | cons y st1 =>
    rw [if_neg (by simp)] at e2
    exact ⟨y, st1, rfl, (Option.some.inj e2).symm⟩
theorem stepD_some {st gn met : List Str} {x : Str} {s2 : List Str × List Str} (h : stepD ps (st, gn) met (some x) = some s2) : x ∉ met ∧ s2 = (comeTo ps st x, gn) := by
  have e2 : (if x ∈ met then none else some (comeTo ps st x, gn)) = some s2 := h
  by_cases c : x ∈ met
  · rw [if_pos c] at e2
    cases e2
  · rw [if_neg c] at e2
    exact ⟨c, (Option.some.inj e2).symm⟩
theorem goD_cons {d : Deed} {ds : List Deed} {st st' : List Str × List Str} {met : List Str} (h : goD ps (d :: ds) st met = some st') : ∃ s2, stepD ps st met d = some s2 ∧ goD ps ds s2 (met ++ d.toList) = some st' := by
  have h' : (match stepD ps st met d with | none => none | some s2 => goD ps ds s2 (met ++ d.toList)) = some st' := h
  cases e : stepD ps st met d with
  | none => rw [e] at h'; cases h'
  | some s2 =>
    rw [e] at h'
    exact ⟨s2, rfl, h'⟩
theorem come_sub (ps : List (Str × Str)) (st : List Str) (x : Str) : st.Sublist (comeTo ps st x) := by
  unfold comeTo
  rw [List.append_assoc]
  have h : (st.take (spotOf ps st x) ++ st.drop (spotOf ps st x)).Sublist (st.take (spotOf ps st x) ++ ([x] ++ st.drop (spotOf ps st x))) := List.Sublist.append_left (List.sublist_cons_self _ _) _
  rw [List.take_append_drop] at h
  exact h
/-- the line keeps its order -/
theorem go_sub : ∀ (ds : List Deed) {st gn met st' gn' : List Str}, goD ps ds (st, gn) met = some (st', gn') → (gn ++ st).Sublist (gn' ++ st')
  | [], st, gn, met, st', gn', h => by
    have e : (st, gn) = (st', gn') := Option.some.inj h
    cases e
    exact List.Sublist.refl _
  | d :: ds, st, gn, met, st', gn', h => by
    obtain ⟨s2, h1, h2⟩ := goD_cons h
    cases d with
    | none =>
      obtain ⟨y, st1, rfl, rfl⟩ := stepD_none h1
      have := go_sub ds h2
      rw [List.append_assoc] at this
      exact this
    | some x =>
      obtain ⟨nx, rfl⟩ := stepD_some h1
      exact (List.Sublist.append_left (come_sub ps st x) gn).trans (go_sub ds h2)
theorem inLine_self {line : List Str} (nd : line.Nodup) : line.Pairwise fun x y => line.idxOf x ≤ line.idxOf y := by
  rw [List.pairwise_iff_getElem]
  intro i j hi hj hij
  rw [idx_at nd (List.getElem?_eq_getElem hi), idx_at nd (List.getElem?_eq_getElem hj)]
  omega
theorem inLine_sub {line elders : List Str} (nd : line.Nodup) (h : elders.Sublist line) : InLine line elders := ⟨fun _ hx => h.subset hx, (inLine_self nd).sublist h⟩
theorem sub_filter : ∀ {line a : List Str}, a.Sublist line → line.Nodup → a = line.filter fun x => decide (x ∈ a)
  | _, _, .slnil, _ => rfl
  | _, a, .cons (l₂ := l) x h, nd => by
    have nx : x ∉ a := fun z => (List.nodup_cons.mp nd).1 (h.subset z)
    rw [List.filter_cons]
    simp only [nx, decide_false]
    exact sub_filter h (List.nodup_cons.mp nd).2
  | _, _, .cons₂ (l₁ := a) (l₂ := l) x h, nd => by
    rw [List.filter_cons]
    simp only [List.mem_cons, true_or, decide_true, if_true]
    refine congrArg (x :: ·) ?_
    have e := sub_filter h (List.nodup_cons.mp nd).2
    refine e.trans (List.filter_congr fun y hy => ?_)
    have ny : ¬ y = x := fun z => (List.nodup_cons.mp nd).1 (z ▸ hy)
    simp [ny]
theorem Way.keep {stay : Nat → List Str} {sv : List Str} {m : Nat} {row fin : List Str} {ds : List Deed} {x : Str} (h : Way ps stay sv 0 m row ds fin) (hs : ∀ k, x ∈ stay k) : x ∈ sv.take m ++ row → x ∈ fin := by
  induction h with
  | done _ => exact fun z => by simpa using z
  | go y h hy t ih =>
    refine fun z => ih ?_
    rcases List.mem_append.mp z with u | u
    · exact List.mem_append_left _ u
    · refine List.mem_append_right _ (List.mem_filter.mpr ⟨u, ?_⟩)
      have : ¬ x = y := fun e => hy (e ▸ hs _)
      simp [this]
  | back y h t ih =>
    rw [line_back h]
    exact ih
/-! ### when somebody came -/
/-- a story's beginning and the rest of it -/
structure Parts (ps : List (Str × Str)) (ds1 ds2 : List Deed) (here sb st e : List Str) : Prop where
  g1 : goD ps ds1 ([], []) [] = some (here, sb)
  g2 : goD ps ds2 (here, []) (comers ds1) = some (st, e)
  nd : (comers ds1 ++ comers ds2).Nodup
namespace Parts
variable {ds1 ds2 : List Deed} {here sb st e : List Str}
theorem p1 (h : Parts ps ds1 ds2 here sb st e) : (sb ++ here).Perm (comers ds1) := by
  have := go_perm _ _ _ _ h.g1
  simpa using this
theorem p2 (h : Parts ps ds1 ds2 here sb st e) : (e ++ st).Perm (comers ds2 ++ here) := by
  have := go_perm _ _ _ _ h.g2
  simpa using this
theorem n1 (h : Parts ps ds1 ds2 here sb st e) : (sb ++ here).Nodup := h.p1.nodup_iff.mpr (List.nodup_append.mp h.nd).1
theorem dj (h : Parts ps ds1 ds2 here sb st e) : ∀ y ∈ comers ds2, y ∉ sb ++ here := fun y hy z => (List.nodup_append.mp h.nd).2.2 y (h.p1.mem_iff.mp z) y hy rfl
theorem n2 (h : Parts ps ds1 ds2 here sb st e) : (e ++ st).Nodup := h.p2.nodup_iff.mpr (List.nodup_append.mpr ⟨(List.nodup_append.mp h.nd).2.1, (List.nodup_append.mp h.n1).2.1, fun x hx y hy e => h.dj x hx (by rw [e]; exact List.mem_append_right _ hy)⟩)
theorem n3 (h : Parts ps ds1 ds2 here sb st e) : ((sb ++ e) ++ st).Nodup := by
  rw [List.append_assoc]
  refine List.nodup_append.mpr ⟨(List.nodup_append.mp h.n1).1, h.n2, fun x hx y hy q => ?_⟩
  subst q
  rcases List.mem_append.mp (h.p2.mem_iff.mp hy) with z | z
  · exact h.dj x z (List.mem_append_left _ hx)
  · exact (List.nodup_append.mp h.n1).2.2 x hx x z rfl
theorem w1 (h : Parts ps ds1 ds2 here sb st e) {stay : Nat → List Str} (hf : Free stay 0 ds1) : Way ps stay sb 0 sb.length here ds1.reverse [] := go_way ds1 h.g1 (fun _ z => nomatch z) List.nodup_nil hf ⟨[], (List.append_nil _).symm⟩
theorem w2 (h : Parts ps ds1 ds2 here sb st e) {stay : Nat → List Str} (hf : Free stay 0 ds2) : Way ps stay e 0 e.length st ds2.reverse here :=
  go_way ds2 h.g2 (fun x z => h.p1.mem_iff.mp (List.mem_append_right _ (by simpa using z))) (by simpa using (List.nodup_append.mp h.n1).2.1) hf ⟨[], (List.append_nil _).symm⟩
theorem line (h : Parts ps ds1 ds2 here sb st e) : InLine (e ++ st) here := inLine_sub h.n2 (by simpa using go_sub ds2 h.g2)
end Parts
end

/-! ### comprehensions that leave some out -/
section
variable {J : It} {n : Nat} {G : Hp → Prop} {Y : Nat → Hp → V → Hp → Prop} {g : TG} {tt : TT} {te : TE} {vs : List Nat} {σ : L2.St} {H1 : Hp} {D : Addr} {Qd : Hp → Prop}
end
/-! ### deeds as data -/
/-! ### lists of whole numbers -/
section
variable {X : Cx}
end
end Lk
set_option maxRecDepth 100000
set_option maxHeartbeats 4000000
namespace Lk
open PySem PySem.Spec PyProof.Rows L2

/-! ### lists of lists -/
abbrev LA := Addr × List Str
def ListsAt (H : Hp) (ls : List LA) : Prop := ∀ q ∈ ls, H q.1 = some (.lst (q.2.map V.str))
theorem ListsAt.same {H H' : Hp} {ls : List LA} (s : Same H H') (h : ListsAt H ls) : ListsAt H' ls := fun q hq => s _ _ (h q hq)
theorem ListsAt.app {H : Hp} {ls ms : List LA} (h : ListsAt H ls) (h' : ListsAt H ms) : ListsAt H (ls ++ ms) := fun q hq => (List.mem_append.mp hq).elim (h q) (h' q)
end Lk
set_option maxRecDepth 100000
set_option maxHeartbeats 4000000
namespace Lk
open PySem PySem.Spec PyProof.Rows L2

/-! ### small things that can be written -/
structure Fit (n w : Nat) (d : PyData) : Prop where
  sh : d.showable = true
  nd : d.hasDict = false
  dp : d.depth ≤ n
  lv : d.leavesShort 13 = true
  wt : d.weight ≤ w
theorem Fit.mono {n w n' w' : Nat} {d : PyData} (h : Fit n w d) (h1 : n ≤ n') (h2 : w ≤ w') : Fit n' w' d := ⟨h.sh, h.nd, Nat.le_trans h.dp h1, h.lv, Nat.le_trans h.wt h2⟩
section
variable {X : Cx}
end
theorem dpAll_map {α : Type} {K : PySem.W.Frag} {H : Hp} (f : α → V) (g : α → PyData) : ∀ {xs : List α}, (∀ x ∈ xs, Dp K H (f x) (g x)) → DpAll K H (xs.map f) (xs.map g)
  | [], _ => .nil
  | x :: xs, h => .cons (h x List.mem_cons_self) (dpAll_map f g fun y hy => h y (List.mem_cons_of_mem _ hy))
/-- friends, as they are written -/
def palsD (ps : List (Str × Str)) : PyData := .tuple (ps.map fun p => .tuple [.str p.1, .str p.2])
theorem PalsAt.dp {K : PySem.W.Frag} {H : Hp} {a : Addr} {ps : List (Str × Str)} (h : PalsAt H a ps) : Dp K H (.ref a) (palsD ps) := by
  obtain ⟨bs, h1, h2, rfl⟩ := h
  unfold palsD
  rw [List.map_map]
  refine .tup (.inl (.inl h1)) (dpAll_map _ _ fun b hb => ?_)
  exact .tup (.inl (.inl (h2 b hb))) (.cons (.str _) (.cons (.str _) .nil))
end Lk
set_option maxRecDepth 100000
set_option maxHeartbeats 4000000
namespace Lk
open PySem PySem.Spec PyProof.Rows L2

/-! ### neighbours exchanged -/
def swapL (l : List Str) (i : Nat) (x y : Str) : List Str := l.take i ++ [y, x] ++ l.drop (i + 2)
/-! ### how many pairs stand the other way about -/
/-! ### promises -/
end Lk
set_option maxRecDepth 100000
set_option maxHeartbeats 4000000
namespace Lk
open PySem PySem.Spec PyProof.Rows L2

/-! ### hosts, as they are told -/
abbrev B3O := Addr × Str × Option Str
def optV : Option Str → V
  | none => .non
  | some y => .str y
def PairsO (H : Hp) (qs : List B3O) : Prop := ∀ q ∈ qs, H q.1 = some (.tup [.str q.2.1, optV q.2.2])
theorem PairsO.same {H H' : Hp} {qs : List B3O} (s : Same H H') (h : PairsO H qs) : PairsO H' qs := fun b hb => s _ _ (h b hb)
theorem PairsO.upd_ {H : Hp} {l : Addr} {ys : List V} {o' : HO} {qs : List B3O} (hl : H l = some (.lst ys)) (h : PairsO H qs) : PairsO (upd H l o') qs := fun c hc => (upd_ne (ne_of (h c hc) hl (fun z => nomatch z))).trans (h c hc)
/-! ### promises -/
/-- whom each bars, and more -/
def LedTo (H : Hp) (D : Addr) (ps : List (Str × Str)) (stand : List Str) (n : Nat) : Prop := ∃ kvs, H D = some (.dK kvs) ∧ kvs.length ≤ 100 ∧ ∀ x ∈ stand.take n, ∃ (la : Addr) (ys : List Str), valV kvs (.inr x) = some (.ref la) ∧ H la = some (.lst (ys.map V.str)) ∧ ys.Nodup ∧ (∀ y ∈ ys, y ∈ stand) ∧ ∀ y ∈ stand, wordsAt ps stand x y ≠ [] → y ∈ ys
theorem LedTo.same {H H' : Hp} {D : Addr} {ps : List (Str × Str)} {stand : List Str} {n : Nat} (s : Same H H') (h : LedTo H D ps stand n) : LedTo H' D ps stand n := by
  obtain ⟨kvs, h1, hk, h2⟩ := h
  refine ⟨kvs, s _ _ h1, hk, fun x hx => ?_⟩
  obtain ⟨la, ys, q1, q2, q3⟩ := h2 x hx
  exact ⟨la, ys, q1, s _ _ q2, q3⟩
end Lk
set_option maxRecDepth 100000
set_option maxHeartbeats 4000000
namespace Lk
open PySem PySem.Spec PyProof.Rows L2
/-! ### from one to another by what bars -/
inductive Leads (ps : List (Str × Str)) (row : List Str) : Str → Str → Prop where
  | one {u v : Str} (hu : u ∈ row) (hv : v ∈ row) (h : Bars ps row u v) : Leads ps row u v
  | more {u w v : Str} (hu : u ∈ row) (hw : w ∈ row) (h : Bars ps row u w) (t : Leads ps row w v) : Leads ps row u v
section
variable {ps : List (Str × Str)} {row order : List Str}
theorem Leads.left {u v : Str} (h : Leads ps row u v) : u ∈ row := by
  cases h with
  | one hu _ _ => exact hu
  | more hu _ _ _ => exact hu
theorem Leads.right {u v : Str} (h : Leads ps row u v) : v ∈ row := by
  induction h with
  | one _ hv _ => exact hv
  | more _ _ _ _ ih => exact ih
theorem Leads.trans {u w v : Str} (h : Leads ps row u w) : Leads ps row w v → Leads ps row u v := by
  induction h with
  | one hu hv h => exact fun t => .more hu hv h t
  | more hu hw h t ih => exact fun k => .more hu hw h (ih k)
/-- an order of a row -/
structure OrdOf (ps : List (Str × Str)) (row order : List Str) : Prop where
  nd : order.Nodup
  pm : order.Perm row
  st : standOf ps order = row
theorem OrdOf.ndr (h : OrdOf ps row order) : row.Nodup := h.pm.nodup_iff.mp h.nd
theorem OrdOf.len (h : OrdOf ps row order) : order.length = row.length := h.pm.length_eq
theorem OrdOf.bars (h : OrdOf ps row order) (irr : Irr ps) : ∀ u ∈ row, ∀ v ∈ row, Bars ps row u v → order.idxOf u < order.idxOf v := (lin_iff irr _ order row rfl h.nd h.pm).mp h.st
theorem Leads.idx {u v : Str} (irr : Irr ps) (o : OrdOf ps row order) (h : Leads ps row u v) : order.idxOf u < order.idxOf v := by
  induction h with
  | one hu hv h => exact o.bars irr _ hu _ hv h
  | more hu hw h t ih => exact Nat.lt_trans (o.bars irr _ hu _ hw h) ih
theorem Leads.ne {u v : Str} (irr : Irr ps) (o : OrdOf ps row order) (h : Leads ps row u v) : u ≠ v := fun e => by
  have := h.idx irr o
  rw [e] at this
  omega
theorem Leads.no {u v : Str} (irr : Irr ps) (o : OrdOf ps row order) (h : Leads ps row u v) : ¬ Leads ps row v u := fun z => (h.trans z).ne irr o rfl
/-! ### two parts of an order, one behind the other -/
end
end Lk
set_option maxRecDepth 100000
set_option maxHeartbeats 4000000
namespace Lk
open PySem PySem.Spec PyProof.Rows L2
section
variable {X : Cx}
end
/-! ### a dict that is locked for a walk -/
/-! ### dicts whose values are all True -/
def trueK (ys : List Str) : List (Key × V) := ys.map fun y => ((Sum.inr y : Key), V.bl true)
def SetD (H : Hp) (d : Addr) (ys : List Str) : Prop := H d = some (.dK (trueK ys))
/-! ### who came behind whom -/
abbrev B4 := Str × Addr × List Str
def behK (qs : List B4) : List (Key × V) := qs.map fun q => ((Sum.inr q.1 : Key), V.ref q.2.1)
def BehAt (H : Hp) (D : Addr) (ps : List (Str × Str)) (row xs : List Str) : Prop := ∃ qs : List B4, H D = some (.dK (behK qs)) ∧ qs.map (·.1) = xs ∧ ∀ q ∈ qs, SetD H q.2.1 q.2.2 ∧ q.2.2.Nodup ∧ ∀ y, y ∈ q.2.2 ↔ Leads ps row q.1 y
theorem BehAt.same {H H' : Hp} {D : Addr} {ps : List (Str × Str)} {row xs : List Str} (s : Same H H') (h : BehAt H D ps row xs) : BehAt H' D ps row xs := by
  obtain ⟨qs, h1, h2, h3⟩ := h
  exact ⟨qs, s _ _ h1, h2, fun q hq => ⟨s _ _ (h3 q hq).1, (h3 q hq).2⟩⟩
/-- whom each bars -/
def barsL (ps : List (Str × Str)) (row : List Str) (x : Str) : List Str := row.filter fun y => !decide (wordsAt ps row x y = [])
def BarAt (H : Hp) (D : Addr) (ps : List (Str × Str)) (row : List Str) (n : Nat) : Prop := ∃ kvs, H D = some (.dK kvs) ∧ kvs.length ≤ n ∧ ∀ x ∈ row.take n, ∃ la, valV kvs (.inr x) = some (.ref la) ∧ H la = some (.lst ((barsL ps row x).map V.str))
theorem BarAt.same {H H' : Hp} {D : Addr} {ps : List (Str × Str)} {row : List Str} {n : Nat} (s : Same H H') (h : BarAt H D ps row n) : BarAt H' D ps row n := by
  obtain ⟨kvs, h1, h2, h3⟩ := h
  refine ⟨kvs, s _ _ h1, h2, fun x hx => ?_⟩
  obtain ⟨la, e1, e2⟩ := h3 x hx
  exact ⟨la, e1, s _ _ e2⟩
/-! ### put back at least, at most -/
section
variable {ps : List (Str × Str)} {row order : List Str}
end
/-! ### triples of a name and two numbers -/
abbrev B3T := Addr × Str × Nat × Nat
def TripAt (H : Hp) (qs : List B3T) : Prop := ∀ q ∈ qs, H q.1 = some (.tup [.str q.2.1, .int q.2.2.1, .int q.2.2.2])
theorem TripAt.same {H H' : Hp} {qs : List B3T} (s : Same H H') (h : TripAt H qs) : TripAt H' qs := fun b hb => s _ _ (h b hb)
theorem TripAt.upd_ {H : Hp} {l : Addr} {ys : List V} {o' : HO} {qs : List B3T} (hl : H l = some (.lst ys)) (h : TripAt H qs) : TripAt (upd H l o') qs := fun c hc => (upd_ne (ne_of (h c hc) hl (fun z => nomatch z))).trans (h c hc)
/-! ### promises -/
/-- the dict of whom each leads to, by the law -/
def AftAt (H : Hp) (D : Addr) (ps : List (Str × Str)) (row xs : List Str) : Prop := ∃ kvs, H D = some (.dK kvs) ∧ kvs.length ≤ xs.length ∧ ∀ x ∈ xs, ∃ (la : Addr) (ys : List Str), valV kvs (.inr x) = some (.ref la) ∧ H la = some (.lst (ys.map V.str)) ∧ ys.Nodup ∧ ∀ y, y ∈ ys ↔ Leads ps row x y
theorem AftAt.same {H H' : Hp} {D : Addr} {ps : List (Str × Str)} {row xs : List Str} (s : Same H H') (h : AftAt H D ps row xs) : AftAt H' D ps row xs := by
  obtain ⟨kvs, h1, h2, h3⟩ := h
  refine ⟨kvs, s _ _ h1, h2, fun x hx => ?_⟩
  obtain ⟨la, ys, e1, e2, e3⟩ := h3 x hx
  exact ⟨la, ys, e1, s _ _ e2, e3⟩
/-- whom each bars, and more, but none that it does not lead to -/
def LedX (H : Hp) (D : Addr) (ps : List (Str × Str)) (stand : List Str) (n : Nat) : Prop := ∃ kvs, H D = some (.dK kvs) ∧ kvs.length ≤ 100 ∧ ∀ x ∈ stand.take n, ∃ (la : Addr) (ys : List Str), valV kvs (.inr x) = some (.ref la) ∧ H la = some (.lst (ys.map V.str)) ∧ ys.Nodup ∧ (∀ y ∈ ys, Leads ps stand x y) ∧ ∀ y ∈ stand, wordsAt ps stand x y ≠ [] → y ∈ ys
theorem LedX.same {H H' : Hp} {D : Addr} {ps : List (Str × Str)} {stand : List Str} {n : Nat} (s : Same H H') (h : LedX H D ps stand n) : LedX H' D ps stand n := by
  obtain ⟨kvs, h1, hk, h2⟩ := h
  refine ⟨kvs, s _ _ h1, hk, fun x hx => ?_⟩
  obtain ⟨la, ys, q1, q2, q3⟩ := h2 x hx
  exact ⟨la, ys, q1, s _ _ q2, q3⟩
/-- rows of pairs, one of each order -/
abbrev LN := Addr × List B3N
def RowsAt (H : Hp) (rs : List LN) : Prop := ∀ r ∈ rs, H r.1 = some (.lst (refsN r.2)) ∧ PairsN H r.2
theorem RowsAt.same {H H' : Hp} {rs : List LN} (s : Same H H') (h : RowsAt H rs) : RowsAt H' rs := fun r hr => ⟨s _ _ (h r hr).1, (h r hr).2.same s⟩
end Lk
set_option maxRecDepth 100000
set_option maxHeartbeats 4000000
namespace Lk
open PySem PySem.Spec PyProof.Rows L2
/-! ### how many pairs stand otherwise -/
section
variable {ps : List (Str × Str)} {row o o2 : List Str}
/-- places, exchanged at one behind the other, that lead from one order to another one -/
inductive Exs (ps : List (Str × Str)) (row : List Str) : List Str → List Nat → List Str → Prop where
  | nil (o : List Str) : Exs ps row o [] o
  | cons {o o' : List Str} {i : Nat} {ts : List Nat} (x y : Str) (hx : o[i]? = some x) (hy : o[i + 1]? = some y) (h : OrdOf ps row (swapL o i x y)) (t : Exs ps row (swapL o i x y) ts o') : Exs ps row o (i :: ts) o'
theorem Exs.at_ {o o' : List Str} {ts : List Nat} (h : Exs ps row o ts o') : ∀ (k : Nat), k ≤ ts.length → ∃ m, Exs ps row o (ts.take k) m ∧ Exs ps row m (ts.drop k) o' := by
  induction h with
  | nil o => exact fun k _ => ⟨o, by rw [List.take_nil]; exact .nil _, by rw [List.drop_nil]; exact .nil _⟩
  | @cons o o' i ts u v hu hv h t ih =>
    intro k hk
    cases k with
    | zero => exact ⟨_, .nil _, .cons u v hu hv h t⟩
    | succ k =>
      obtain ⟨m, m1, m2⟩ := ih k (by simpa using hk)
      exact ⟨m, .cons u v hu hv h m1, m2⟩
/-! ### what is put back, all together -/
end
/-! ### promises -/
/-! ### a dict made of a list of pairs -/
end Lk
set_option maxRecDepth 100000
set_option maxHeartbeats 4000000
namespace Lk
open PySem PySem.Spec PyProof.Rows L2

/-! ### texts in order -/
/-! ### a dict that is walked where it is made -/
section
variable {X : Cx}
end

/-! ### friends, their pairs tuples or lists -/
def PairX (H : Hp) (bs : List B3) : Prop := (∀ b ∈ bs, H b.1 = some (.tup [.str b.2.1, .str b.2.2])) ∨ ∀ b ∈ bs, H b.1 = some (.lst [.str b.2.1, .str b.2.2])
theorem PairX.same {H H' : Hp} {bs : List B3} (s : Same H H') (h : PairX H bs) : PairX H' bs := h.elim (fun e => .inl fun b hb => s _ _ (e b hb)) (fun e => .inr fun b hb => s _ _ (e b hb))
/-- the dict of friends, either way about: its keys are just these, each once -/
def KnX (H : Hp) (d : Addr) (ps : List (Str × Str)) : Prop := ∃ kvs, H d = some (.dT kvs) ∧ (∀ a b, (valV kvs (k2 a b)).isSome = frd ps a b) ∧ (kvs.map (·.1)).Nodup ∧ (∀ e ∈ kvs, ∃ a b, e.1 = k2 a b) ∧ kvs.length ≤ 2000
theorem KnX.kn {H : Hp} {d : Addr} {ps : List (Str × Str)} (h : KnX H d ps) : KnAt H d ps := by
  obtain ⟨kvs, h1, h2, _⟩ := h
  exact ⟨kvs, h1, h2⟩
/-- those whom a dict has beside one -/
def other1 (who : Str) (k : List Key) : Option Str := match k with
  | [Sum.inr a, Sum.inr b] => if a = who then some b else none
  | _ => none
def others (who : Str) (kvs : List (List Key × V)) : List Str := kvs.filterMap fun e => other1 who e.1
/-! ### promises -/
/-! ### names of one stem -/
end Lk
set_option maxRecDepth 100000
set_option maxHeartbeats 4000000
namespace Lk
open PySem PySem.Spec PyProof.Rows L2
/-! ### dict(l), l a list of pairs whose first ones are tuples -/
section
variable {prog : Program} {w : World} {A : Around} {E : Value → Shared → Prop}
end
section
variable {X : Cx}
end
/-! ### friends as a dict of their pairs -/
def MatesAt (H : Hp) (a : Addr) (ps : List (Str × Str)) : Prop := ∃ kvs, H a = some (.dT kvs) ∧ ∀ x y, (valV kvs (k2 x y)).isSome = decide ((x, y) ∈ ps)
def PalX (H : Hp) (a : Addr) (ps : List (Str × Str)) : Prop := PalsAt H a ps ∨ MatesAt H a ps
theorem PalX.same {H H' : Hp} {a : Addr} {ps : List (Str × Str)} (s : Same H H') (h : PalX H a ps) : PalX H' a ps := h.elim (fun e => .inl (e.same s)) fun ⟨kvs, h1, h2⟩ => .inr ⟨kvs, s _ _ h1, h2⟩
theorem PalX.oth {H H' : Hp} {a b : Addr} {ps : List (Str × Str)} (s : Oth b H H') (hb : IsBox H b) (h : PalX H a ps) : PalX H' a ps := h.elim (fun e => .inl (e.oth s hb)) fun ⟨kvs, h1, h2⟩ => .inr ⟨kvs, s _ _ (hb.ne_dT h1) h1, h2⟩
theorem PalX.upd_ {H : Hp} {l a : Addr} {ys : List V} {o' : HO} {ps : List (Str × Str)} (h : PalX H a ps) (hl : H l = some (.lst ys)) : PalX (upd H l o') a ps := h.elim (fun e => .inl (e.upd_ hl)) fun ⟨kvs, h1, h2⟩ => .inr ⟨kvs, (upd_ne (ne_of h1 hl (fun z => nomatch z))).trans h1, h2⟩
end Lk
set_option maxRecDepth 100000
set_option maxHeartbeats 4000000
namespace Lk
open PySem PySem.Spec PyProof.Rows L2
/-! ### list.remove of a text -/
section
variable {X : Cx}
end
/-! ### `dict([(pair, True) for pair in pals])` -/
/-! ### whoever can go goes first -/
section
variable {ps : List (Str × Str)} {stay : Nat → List Str} {sv : List Str}
/-- from a row, `m` served, to another one: whoever can go goes, in any order; where none can the last one served is put back -/
inductive Gre (ps : List (Str × Str)) (stay : Nat → List Str) (sv : List Str) : Nat → List Str → Nat → List Str → Prop where
  | done (m : Nat) (row : List Str) : Gre ps stay sv m row m row
  | go {m m' : Nat} {row row' : List Str} (x : Str) (h : LooseIn ps row x) (hs : x ∉ stay m) (t : Gre ps stay sv m (rem row x) m' row') : Gre ps stay sv m row m' row'
  | back {m m' : Nat} {row row' : List Str} (y : Str) (h : sv[m]? = some y) (no : ∀ x, LooseIn ps row x → x ∈ stay (m + 1)) (t : Gre ps stay sv m (y :: row) m' row') : Gre ps stay sv (m + 1) row m' row'
theorem Gre.trans {m m1 m2 : Nat} {a b c : List Str} (h : Gre ps stay sv m a m1 b) : Gre ps stay sv m1 b m2 c → Gre ps stay sv m a m2 c := by
  induction h with
  | done _ _ => exact id
  | go x h hs t ih => exact fun k => .go x h hs (ih k)
  | back y h no t ih => exact fun k => .back y h no (ih k)
theorem Gre.le {m m1 : Nat} {a b : List Str} (h : Gre ps stay sv m a m1 b) : m1 ≤ m := by
  induction h with
  | done _ _ => exact Nat.le_refl _
  | go x h hs t ih => exact ih
  | back y h no t ih => omega
theorem Gre.way {m m1 : Nat} {a b : List Str} (h : Gre ps stay sv m a m1 b) : ∃ ds, Way ps stay sv m1 m a ds b := by
  induction h with
  | done _ _ => exact ⟨[], .done _⟩
  | go x h hs t ih =>
    obtain ⟨ds, w⟩ := ih
    exact ⟨_, .go x h hs w⟩
  | back y h no t ih =>
    obtain ⟨ds, w⟩ := ih
    exact ⟨_, .back y h w⟩
/-- a way from the beginning goes on from wherever this leads to, and no more are left -/
theorem Gre.follow {m m1 u : Nat} {a b : List Str} (h : Gre ps stay sv m a m1 b) : (sv.take m ++ a).Nodup → u ≤ m1 → ∀ {ds fin}, Way ps stay sv u m a ds fin → ∃ ds' fin', Way ps stay sv u m1 b ds' fin' ∧ ∀ x ∈ fin', x ∈ fin := by
  induction h with
  | done m row => exact fun _ _ {ds fin} w => ⟨ds, fin, w, fun _ h => h⟩
  | go x h hs t ih =>
    intro nd hu ds fin w
    obtain ⟨ds', w'⟩ := w.swap nd x h.nb
    obtain ⟨d2, f2, w2, s2⟩ := ih (nd_rem nd) hu w'
    exact ⟨d2, f2, w2, fun y hy => (List.mem_filter.mp (s2 y hy)).1⟩
  | @back m m' row row' y hy no t ih =>
    intro nd hu ds fin w
    have tl := t.le
    cases w with
    | done _ => omega
    | go x h hs t' => exact absurd (no x h) hs
    | back y' hy' t' =>
      rw [hy] at hy'
      cases hy'
      rw [line_back hy] at nd
      exact ih nd hu t'
/-- at the beginning, where none can go any more, the fewest are left -/
theorem Gre.least {m u : Nat} {a b : List Str} (h : Gre ps stay sv m a u b) (nd : (sv.take m ++ a).Nodup) (no : ∀ x, LooseIn ps b x → x ∈ stay u) {ds : List Deed} {fin : List Str} (w : Way ps stay sv u m a ds fin) : ∀ x ∈ b, x ∈ fin := by
  obtain ⟨ds', fin', w', s'⟩ := h.follow nd (Nat.le_refl _) w
  intro x hx
  refine s' x ?_
  cases w' with
  | done _ => exact hx
  | go y hy hs t => exact absurd (no y hy) hs
  | back y hy t =>
    have := t.le
    omega
end
/-! ### promises -/
end Lk
set_option maxRecDepth 100000
set_option maxHeartbeats 4000000
namespace Lk
open PySem PySem.Spec PyProof.Rows L2
/-! ### whether one can have come when so many had been served -/
section
variable {ps : List (Str × Str)} {stay stay' : Nat → List Str} {sv : List Str}
theorem Way.keepB {m0 m : Nat} {row fin : List Str} {ds : List Deed} {x : Str} (h : Way ps stay sv m0 m row ds fin) : (∀ k, m0 ≤ k → k ≤ m → x ∈ stay k) → x ∈ sv.take m ++ row → x ∈ sv.take m0 ++ fin := by
  induction h with
  | done _ => exact fun _ h => h
  | @go m row ds fin y h hs t ih =>
    intro hk hx
    refine ih hk ?_
    rcases List.mem_append.mp hx with z | z
    · exact List.mem_append_left _ z
    · refine List.mem_append_right _ (mem_rem.mpr ⟨z, fun e => ?_⟩)
      rw [← e] at hs
      exact hs (hk m t.le (Nat.le_refl _))
  | @back m row ds fin y h t ih =>
    intro hk hx
    rw [line_back h] at hx
    exact ih (fun k h1 h2 => hk k h1 (by omega)) hx
theorem Gre.keep {m m' : Nat} {a b : List Str} {x : Str} (h : Gre ps stay sv m a m' b) (hk : ∀ k, x ∈ stay k) (hx : x ∈ sv.take m ++ a) : x ∈ sv.take m' ++ b := by
  obtain ⟨ds, w⟩ := h.way
  exact w.keepB (fun k _ _ => hk k) hx
theorem Gre.change {m m' : Nat} {a b : List Str} (h : Gre ps stay sv m a m' b) : (∀ k x, m' ≤ k → x ∈ sv.take m ++ a → x ∉ stay k → x ∉ stay' k) → (∀ k x, m' < k → x ∈ stay k → x ∈ stay' k) → Gre ps stay' sv m a m' b := by
  induction h with
  | done _ _ => exact fun _ _ => .done _ _
  | @go m m' row row' y h hs t ih =>
    intro h1 h2
    refine .go y h (h1 m y t.le (List.mem_append_right _ h.mem) hs) (ih (fun k x hk hx => h1 k x hk ?_) h2)
    rcases List.mem_append.mp hx with z | z
    · exact List.mem_append_left _ z
    · exact List.mem_append_right _ (mem_rem.mp z).1
  | @back m m' row row' y h no t ih =>
    intro h1 h2
    have := t.le
    refine .back y h (fun x hx => h2 (m + 1) x (by omega) (no x hx)) (ih (fun k x hk hx => h1 k x hk ?_) h2)
    rw [line_back h]
    exact hx
end
section
variable {ps : List (Str × Str)} {olds gn st ins1 ins2 : List Str} {name : Str} {many : Nat}
end
end Lk
set_option maxRecDepth 100000
set_option maxHeartbeats 4000000
namespace Lk
open PySem PySem.Spec PyProof.Rows L2
/-! ### why one never comes -/
section
variable {ps : List (Str × Str)} {stay : Nat → List Str} {sv : List Str}
end
section
variable {ps : List (Str × Str)} {stay : Nat → List Str} {sv : List Str}
def behindL (line there : List Str) (who : Str) : List Str := (line.drop (line.idxOf who + 1)).filter fun x => decide (x ∈ there)
def betweenL (line there : List Str) (who : Str) (h : Nat) : List Str := ((line.take (line.idxOf who)).drop (h + 1)).filter fun x => decide (x ∈ there)
end
/-! ### promises -/
def reasonOf (ps : List (Str × Str)) (line : List Str) (many : Nat) (there : List Str) (who : Str) : Str × List Str :=
  match (behindL line there who).filter (frd ps who) with
  | f :: _ => ("friend", [f])
  | [] => match lastP (frd ps who) (line.take (line.idxOf who)) with
    | none => ("behind", (behindL line there who).take 1)
    | some h => ("between", (betweenL line there who h).take 1 ++ if h < many then (behindL line there who).take 1 else [])
/-- a reason: where it is, where its names are, who, the word, the names -/
abbrev LR := Addr × Addr × Str × Str × List Str
def ReasonAt (H : Hp) (q : LR) : Prop := TupAt H q.1 [.str q.2.2.1, .str q.2.2.2.1, .ref q.2.1] ∧ TupAt H q.2.1 (q.2.2.2.2.map V.str)
def refsR (rs : List LR) : List V := rs.map fun q => V.ref q.1
def ReasonsAt (H : Hp) (rs : List LR) : Prop := ∀ q ∈ rs, ReasonAt H q
theorem ReasonAt.same {H H' : Hp} {q : LR} (s : Same H H') (h : ReasonAt H q) : ReasonAt H' q := ⟨h.1.same s, h.2.same s⟩
theorem ReasonAt.oth {H H' : Hp} {b : Addr} {q : LR} (s : Oth b H H') (hb : IsBox H b) (h : ReasonAt H q) : ReasonAt H' q := ⟨h.1.oth s hb, h.2.oth s hb⟩
theorem ReasonAt.upd_ {H : Hp} {l : Addr} {ys : List V} {o' : HO} {q : LR} (h : ReasonAt H q) (hl : H l = some (.lst ys)) : ReasonAt (upd H l o') q := ⟨h.1.upd_ hl, h.2.upd_ hl⟩
/-- who is left, in the line's order -/
def leftL (ps : List (Str × Str)) (elders svd row : List Str) : List Str := (trace ps (stayF elders none) svd svd.length row).2.filter fun x => !decide (x ∈ elders)
/-- what is told of a line -/
def ToldAt (H : Hp) (T : Addr) (ps : List (Str × Str)) (elders svd row : List Str) : Prop :=
  (leftL ps elders svd row = [] ∧ ∃ (u : Addr) (ds : List LD), TupAt H T [.str "deeds", .ref u] ∧ H u = some (.lst (refsD ds)) ∧ DeedsAt H ds ∧ ds.map (·.2) = (trace ps (stayF elders none) svd svd.length row).1.reverse) ∨
  (leftL ps elders svd row ≠ [] ∧ ∃ (p : Addr) (rs : List LR), TupAt H T [.str "none", .ref p] ∧ H p = some (.lst (refsR rs)) ∧ ReasonsAt H rs ∧ rs.map (fun q => q.2.2) = (leftL ps elders svd row).map (fun x => (x, reasonOf ps (svd ++ row) svd.length (leftL ps elders svd row ++ elders) x)))
theorem ToldAt.same {H H' : Hp} {T : Addr} {ps : List (Str × Str)} {elders svd row : List Str} (s : Same H H') (h : ToldAt H T ps elders svd row) : ToldAt H' T ps elders svd row := by
  rcases h with ⟨h0, u, ds, h1, h2, h3, h4⟩ | ⟨h0, p, rs, h1, h2, h3, h4⟩
  · exact .inl ⟨h0, u, ds, h1.same s, s _ _ h2, h3.same s, h4⟩
  · exact .inr ⟨h0, p, rs, h1.same s, s _ _ h2, (fun q hq => (h3 q hq).same s), h4⟩
theorem ToldAt.oth {H H' : Hp} {b T : Addr} {ps : List (Str × Str)} {elders svd row : List Str} (s : Oth b H H') (hb : IsBox H b) (h : ToldAt H T ps elders svd row) : ToldAt H' T ps elders svd row := by
  rcases h with ⟨h0, u, ds, h1, h2, h3, h4⟩ | ⟨h0, p, rs, h1, h2, h3, h4⟩
  · exact .inl ⟨h0, u, ds, h1.oth s hb, s _ _ (hb.ne_refs (xs := ds.map (·.1)) (by rw [List.map_map]; exact h2)) h2, (fun q hq => (h3 q hq).oth s hb), h4⟩
  · exact .inr ⟨h0, p, rs, h1.oth s hb, s _ _ (hb.ne_refs (xs := rs.map (·.1)) (by rw [List.map_map]; exact h2)) h2, (fun q hq => (h3 q hq).oth s hb), h4⟩
end Lk
set_option maxRecDepth 100000
set_option maxHeartbeats 4000000
namespace Lk
open PySem PySem.Spec PyProof.Rows L2
/-! ### goings in any order -/
section
variable {ps : List (Str × Str)} {stay : Nat → List Str} {sv : List Str}
end
/-! ### lists of texts that aren't alike -/
section
variable {X : Cx}
end
/-! ### promises -/
end Lk
set_option maxRecDepth 100000
set_option maxHeartbeats 4000000
namespace Lk
open PySem PySem.Spec PyProof.Rows L2
/-! ### any list beside [] -/
section
variable {X : Cx}
end
/-! ### a reason as data -/
/-! ### what a reason says -/
def ReasonOk (ps : List (Str × Str)) (line : List Str) (many : Nat) (x w : Str) (os : List Str) : Prop :=
  (∃ f, w = "friend" ∧ os = [f] ∧ f ∈ line ∧ line.idxOf x < line.idxOf f ∧ frd ps x f = true) ∨
  (∃ z, w = "behind" ∧ os = [z] ∧ z ∈ line ∧ line.idxOf x < line.idxOf z ∧ lastP (frd ps x) (line.take (line.idxOf x)) = none) ∨
  (∃ h y, w = "between" ∧ lastP (frd ps x) (line.take (line.idxOf x)) = some h ∧ y ∈ line ∧ h < line.idxOf y ∧ line.idxOf y < line.idxOf x ∧ ((h < many ∧ ∃ z, os = [y, z] ∧ z ∈ line ∧ line.idxOf x < line.idxOf z) ∨ (¬ h < many ∧ os = [y])))
theorem ReasonOk.mem {ps : List (Str × Str)} {line : List Str} {many : Nat} {x w : Str} {os : List Str} (h : ReasonOk ps line many x w os) : ∀ y ∈ os, y ∈ line := by
  rcases h with ⟨f, _, rfl, h, _⟩ | ⟨z, _, rfl, h, _⟩ | ⟨h, y, _, _, hy, _, _, ⟨_, z, rfl, hz, _⟩ | ⟨_, rfl⟩⟩
  · intro y hy
    rw [List.mem_singleton.mp hy]
    exact h
  · intro y hy
    rw [List.mem_singleton.mp hy]
    exact h
  · intro u hu
    rcases List.mem_cons.mp hu with z' | z'
    · rw [z']
      exact hy
    · rw [List.mem_singleton.mp z']
      exact hz
  · intro u hu
    rw [List.mem_singleton.mp hu]
    exact hy
/-! ### the deeds told are a history -/
section
variable {ps : List (Str × Str)} {stay : Nat → List Str} {sv : List Str}
theorem Way.len {m0 m : Nat} {row fin : List Str} {ds : List Deed} (h : Way ps stay sv m0 m row ds fin) : (sv.take m ++ row).Nodup → ds.length + fin.length + 2 * m0 = row.length + 2 * m := by
  induction h with
  | done row => exact fun _ => by simp
  | @go m row ds fin x hx hs t ih =>
    intro nd
    have := ih (nd_rem nd)
    have rl := rem_len (nd_right nd) hx.mem
    rw [List.length_cons]
    omega
  | @back m row ds fin y hy t ih =>
    intro nd
    rw [line_back hy] at nd
    have := ih nd
    rw [List.length_cons] at this
    rw [List.length_cons]
    omega
end
theorem alk_tup2 {H : Hp} {n : Nat} {a b : Addr} {x1 x2 y1 y2 : V} (h1 : TupX H a [x1, x2]) (h2 : TupX H b [y1, y2]) (k1 : Alk H n x1 y1) (k2 : Alk H n x2 y2) : Alk H (n + 1) (.ref a) (.ref b) :=
  .inr (.inr ⟨a, b, _, _, rfl, rfl, h1, h2, rfl, by show 2 ≤ 1000; decide, fun i u v hu hv => by
    match i, hu, hv with
    | 0, hu, hv => cases hu; cases hv; exact k1
    | 1, hu, hv => cases hu; cases hv; exact k2⟩)
/-! ### promises -/
end Lk
set_option maxRecDepth 100000
set_option maxHeartbeats 4000000
namespace Lk
open PySem PySem.Spec PyProof.Rows L2
/-! ### set(ns), ns a list of ints, some of them twice -/
section
variable {P : Program} {w : World} {A : Around} {E : Value → Shared → Prop} {s : Shared}
end
section
variable {X : Cx}
end
end Lk
set_option maxRecDepth 100000
set_option maxHeartbeats 4000000
namespace Lk
open PySem PySem.Spec PyProof.Rows L2
/-! ### how many ways are left, at most -/
/-! ### histories begun -/
structure WE where
  T : Addr
  d : Addr
  t : Addr
  ds : List LD
  here : List Str
  m : Nat
def EntAt (H : Hp) (e : WE) : Prop := TupAt H e.T [.ref e.d, .ref e.t, .int (e.m : Nat)] ∧ TupAt H e.d (refsD e.ds) ∧ DeedsAt H e.ds ∧ TupAt H e.t (e.here.map V.str)
def EntsAt (H : Hp) (es : List WE) : Prop := ∀ e ∈ es, EntAt H e
theorem EntAt.same {H H' : Hp} {e : WE} (s : Same H H') (h : EntAt H e) : EntAt H' e := ⟨h.1.same s, h.2.1.same s, h.2.2.1.same s, h.2.2.2.same s⟩
theorem EntsAt.same {H H' : Hp} {es : List WE} (s : Same H H') (h : EntsAt H es) : EntsAt H' es := fun e he => (h e he).same s
theorem EntAt.upd_ {H : Hp} {l : Addr} {ys : List V} {o' : HO} {e : WE} (h : EntAt H e) (hl : H l = some (.lst ys)) : EntAt (upd H l o') e :=
  ⟨h.1.upd_ hl, h.2.1.upd_ hl, fun q hq => (h.2.2.1 q hq).upd_ hl, h.2.2.2.upd_ hl⟩
/-- what of the line's history has been gone through -/
structure EntOk (ps : List (Str × Str)) (olds gn st : List Str) (k : Nat) (e : WE) : Prop where
  len : e.ds.length = k
  go : goD ps (e.ds.map (·.2)) (olds, []) olds = some (e.here, gn.take e.m)
  le : e.m ≤ gn.length
  sub : e.here.Sublist ((gn ++ st).drop e.m)
def leftN (gn st : List Str) (e : WE) : Nat := (gn ++ st).length - e.m - e.here.length
section
variable {ps : List (Str × Str)} {olds gn st : List Str} {k : Nat} {e : WE}
theorem take_line {m : Nat} (h : m ≤ gn.length) : (gn ++ st).take m = gn.take m := List.take_append_of_le_length h
theorem EntOk.new (h : EntOk ps olds gn st k e) (nd : (gn ++ st).Nodup) {x : Str} (hx : x ∈ (gn ++ st).drop e.m) (nx : x ∉ e.here) : x ∉ olds ++ comers (e.ds.map (·.2)) := fun z => by
  have pm := go_perm _ _ _ _ h.go
  have : x ∈ comers (e.ds.map (·.2)) ++ ([] ++ olds) := by
    rcases List.mem_append.mp z with u | u
    · exact List.mem_append_right _ (by simpa using u)
    · exact List.mem_append_left _ u
  rcases List.mem_append.mp (pm.mem_iff.mpr this) with u | u
  · have u' : x ∈ (gn ++ st).take e.m := by rw [take_line h.le]; exact u
    have nd' := nd
    rw [← List.take_append_drop e.m (gn ++ st)] at nd'
    exact (List.nodup_append.mp nd').2.2 x u' x hx rfl
  · exact nx u
/-- somebody more comes -/
theorem EntOk.comes (h : EntOk ps olds gn st k e) (nd : (gn ++ st).Nodup) {x : Str} (hx : x ∈ (gn ++ st).drop e.m) (nx : x ∉ e.here) {T d t a : Addr} (hs : (comeTo ps e.here x).Sublist ((gn ++ st).drop e.m)) : EntOk ps olds gn st (k + 1) ⟨T, d, t, e.ds ++ [((a, some x) : LD)], comeTo ps e.here x, e.m⟩ := by
  refine ⟨by rw [List.length_append, h.len]; rfl, ?_, h.le, hs⟩
  show goD ps ((e.ds ++ [((a, some x) : LD)]).map (·.2)) (olds, []) olds = some (comeTo ps e.here x, gn.take e.m)
  rw [List.map_append]
  show goD ps (e.ds.map (·.2) ++ [some x]) (olds, []) olds = _
  rw [goD_snoc, h.go]
  show (if x ∈ olds ++ comers (e.ds.map (·.2)) then none else some (comeTo ps e.here x, gn.take e.m)) = _
  rw [if_neg (h.new nd hx nx)]
/-- how many can come -/
theorem EntOk.few (h : EntOk ps olds gn st k e) (nd : (gn ++ st).Nodup) : (((gn ++ st).drop e.m).filter fun x => !decide (x ∈ e.here)).length = leftN gn st e := by
  have ndd := nd.sublist (List.drop_sublist e.m (gn ++ st))
  have e1 := sub_filter h.sub ndd
  have p := (List.filter_append_perm (fun x => decide (x ∈ e.here)) ((gn ++ st).drop e.m)).length_eq
  rw [← e1, List.length_append, List.length_drop] at p
  unfold leftN
  omega
end
/-! ### long lists -/
section
variable {J : It} {n : Nat} {G : Hp → Prop} {Y : Nat → Hp → V → Hp → Prop} {g : TG} {tt : TT} {te : TE} {vs : List Nat} {σ : L2.St} {H1 : Hp} {D : Addr} {Qd : Hp → Prop}
end
/-! ### promises -/
abbrev LW := Addr × List LD
def WaysAt (H : Hp) (ws : List LW) : Prop := ∀ q ∈ ws, TupAt H q.1 (refsD q.2) ∧ DeedsAt H q.2
theorem WaysAt.same {H H' : Hp} {ws : List LW} (s : Same H H') (h : WaysAt H ws) : WaysAt H' ws := fun q hq => ⟨(h q hq).1.same s, (h q hq).2.same s⟩
end Lk
set_option maxRecDepth 100000
set_option maxHeartbeats 4000000
namespace Lk
open PySem PySem.Spec PyProof.Rows L2
/-! ### ways as data -/
section
variable {K : PySem.W.Frag} {H : Hp}
end
end Lk
set_option maxRecDepth 100000
set_option maxHeartbeats 4000000
namespace Lk
open PySem PySem.Spec PyProof.Rows L2
/-! ### who was ever there -/
def BeenAt (H : Hp) (d : Addr) (met : List Str) : Prop := ∃ kvs, H d = some (.dK kvs) ∧ kvs.length ≤ met.length ∧ ∀ y, (valV kvs (.inr y)).isSome = decide (y ∈ met)
theorem BeenAt.same {H H' : Hp} {d : Addr} {met : List Str} (s : Same H H') (h : BeenAt H d met) : BeenAt H' d met := by
  obtain ⟨kvs, h1, h2, h3⟩ := h
  exact ⟨kvs, s _ _ h1, h2, h3⟩
/-! ### promises -/
/-! ### one more is served, one more comes -/
/-! ### two tuples of texts -/
/-- a history told, or none -/
def TellAt (H : Hp) (T : Addr) (ps : List (Str × Str)) (olds gn st : List Str) : Prop :=
  (∃ (u : Addr) (ds : List LD), TupAt H T [.str "deeds", .ref u] ∧ H u = some (.lst (refsD ds)) ∧ DeedsAt H ds ∧ goD ps (ds.map (·.2)) (olds, []) olds = some (st, gn) ∧ olds.length + ds.length ≤ st.length + 2 * gn.length) ∨
  (∃ (p : Addr), TupAt H T [.str "none", .ref p])
theorem TellAt.same {H H' : Hp} {T : Addr} {ps : List (Str × Str)} {olds gn st : List Str} (s : Same H H') (h : TellAt H T ps olds gn st) : TellAt H' T ps olds gn st := by
  rcases h with ⟨u, ds, h1, h2, h3, h4⟩ | ⟨p, h1⟩
  · exact .inl ⟨u, ds, h1.same s, s _ _ h2, h3.same s, h4⟩
  · exact .inr ⟨p, h1.same s⟩
end Lk
set_option maxRecDepth 100000
set_option maxHeartbeats 4000000
namespace Lk
open PySem PySem.Spec PyProof.Rows L2
/-! ### promises -/
end Lk
set_option maxRecDepth 100000
set_option maxHeartbeats 4000000
namespace Lk
open PySem PySem.Spec PyProof.Rows L2
/-! ### all are served, each one alone in the row -/
section
variable {ps : List (Str × Str)} {pool : List Str}
end
end Lk
set_option maxRecDepth 100000
set_option maxHeartbeats 4000000
namespace Lk
open PySem PySem.Spec PyProof.Rows L2
/-! ### len(set(xs)), xs a list of texts, some of them twice -/
section
variable {P : Program} {w : World} {A : Around} {E : Value → Shared → Prop} {s : Shared}
end
section
variable {X : Cx}
end
/-! ### a row of which nobody is served yet -/
/-! ### papers that show nothing -/
/-- a text or a pair: no reason -/
def NoClause (H : Hp) (v : V) : Prop := (∃ x : Str, v = .str x) ∨ ∃ (t : Addr) (x y : Str), v = .ref t ∧ H t = some (.tup [.str x, .str y])
theorem NoClause.same {H H' : Hp} {v : V} (s : Same H H') (h : NoClause H v) : NoClause H' v := h.elim .inl fun ⟨t, x, y, e, h⟩ => .inr ⟨t, x, y, e, s _ _ h⟩
end Lk
set_option maxRecDepth 100000
set_option maxHeartbeats 4000000
namespace Lk
open PySem PySem.Spec PyProof.Rows L2
/-! ### led back, and what was done on the way -/
section
variable {ps : List (Str × Str)} {olds gn st ins1 ins2 : List Str} {name : Str} {many : Nat} {ds1 ds2 : List Deed}
theorem Way.coming {stay : Nat → List Str} {sv : List Str} {m0 m : Nat} {row fin : List Str} {ds : List Deed} (h : Way ps stay sv m0 m row ds fin) {x : Str} : some x ∈ ds → x ∈ sv.take m ++ row := by
  induction h with
  | done row => exact fun h => nomatch h
  | @go m row ds fin y hy hs t ih =>
    intro hm
    rcases List.mem_cons.mp hm with z | z
    · cases z
      exact List.mem_append_right _ hy.mem
    · rcases List.mem_append.mp (ih z) with w | w
      · exact List.mem_append_left _ w
      · exact List.mem_append_right _ (mem_rem.mp w).1
  | @back m row ds fin y h t ih =>
    intro hm
    rw [line_back h]
    rcases List.mem_cons.mp hm with z | z
    · cases z
    · exact ih z
end
/-- histories in a list -/
abbrev LH := Addr × List LD
def HistsAt (ps : List (Str × Str)) (olds gn st : List Str) (H : Hp) (ws : List LH) : Prop := ∀ q ∈ ws, H q.1 = some (.lst (refsD q.2)) ∧ DeedsAt H q.2 ∧ goD ps (q.2.map (·.2)) (olds, []) olds = some (st, gn)
theorem HistsAt.oth {ps : List (Str × Str)} {olds gn st : List Str} {H H' : Hp} {b : Addr} {ws : List LH} (o : Oth b H H') (hb : IsBox H b) (h : HistsAt ps olds gn st H ws) : HistsAt ps olds gn st H' ws := fun q hq => by
  obtain ⟨h1, h2, h3⟩ := h q hq
  exact ⟨o _ _ (hb.ne_refs (xs := q.2.map (·.1)) (by rw [List.map_map]; exact h1)) h1, fun d hd => (h2 d hd).oth o hb, h3⟩
theorem HistsAt.same {ps : List (Str × Str)} {olds gn st : List Str} {H H' : Hp} {ws : List LH} (s : Same H H') (h : HistsAt ps olds gn st H ws) : HistsAt ps olds gn st H' ws := fun q hq => by
  obtain ⟨h1, h2, h3⟩ := h q hq
  exact ⟨s _ _ h1, fun d hd => (h2 d hd).same s, h3⟩
end Lk
set_option maxRecDepth 100000
set_option maxHeartbeats 4000000
namespace Lk
open PySem PySem.Spec PyProof.Rows L2
/-! ### right papers show that nobody comes there -/
theorem ReasonOk.nd {ps : List (Str × Str)} {line : List Str} {many : Nat} {x w : Str} {os : List Str} (h : ReasonOk ps line many x w os) : os.Nodup ∧ os.length ≤ 2 := by
  rcases h with ⟨f, _, rfl, _⟩ | ⟨z, _, rfl, _⟩ | ⟨h, y, _, _, _, _, ly, ⟨_, z, rfl, _, lz⟩ | ⟨_, rfl⟩⟩
  · simp
  · simp
  · refine ⟨List.nodup_cons.mpr ⟨fun z => ?_, List.nodup_cons.mpr ⟨(fun z => nomatch z), List.nodup_nil⟩⟩, Nat.le_refl _⟩
    rw [List.mem_singleton.mp z] at ly
    omega
  · simp
end Lk
set_option maxRecDepth 100000
set_option maxHeartbeats 4000000
namespace Lk
open PySem PySem.Spec PyProof.Rows L2
/-! ### calls that may raise, in a try -/
section
variable {X : Cx} {CX : CXT} {k n m : Nat} {f : Addr} {fd : FuncData} {ps ks : List Str} {sp : Sp} {E : L2.St → XK} {x : Str} {p pos : Pos} {kws : List Keyword} {tk t : TA} {g : List Value → List Value → List Value} {gV : List V → List V → List V} {e : Expr} {es : List Expr}
end
section
variable {X : Cx} {k m n : Nat} {x kw : Str} {ps : List Str} {sp : Sp} {p pos : Pos} {e : Expr} {es : List Expr} {t tk : TA} {kws : List Keyword} {W : WX}
end
/-! ### the class of a bad deed -/
theorem FnOk.or {P : Program} {w : World} {K : PySem.W.Frag} {mg : Str → Option Value} {base : Heap} {CX : CXT} {k : Nat} {f : Addr} {fd : FuncData} {ps : List Str} {s1 s2 : Sp} (F1 : FnOk P w K mg base CX k f fd ps s1) (F2 : FnOk P w K mg base CX k f fd ps s2) : FnOk P w K mg base CX k f fd ps (fun vs H Q E => s1 vs H Q E ∨ s2 vs H Q E) :=
  ⟨fun vs H Q E h => h.elim (F1.len vs H Q E) (F2.len vs H Q E), fun A out s H ar us vs Q E z e b v m => m.elim (F1.run A out s H ar us vs Q E z e b v) (F2.run A out s H ar us vs Q E z e b v)⟩
end Lk
set_option maxRecDepth 100000
set_option maxHeartbeats 4000000
/-! own exception classes right over a built-in one, with an __init__ of their own -/
namespace Lk
open PySem PySem.Spec PySem.W PySem.Calls PyProof.Rows PySem.HandSPX Builtin Builtin.ObjectAttr
section
variable {prog : Program} {w : World} {A : Around} {E : Value → Shared → Prop} {R : Result → Shared → Prop} {hp : Heap} {g : Array GenState} {d : Drawn} {t : Nat} {os : OsState} {T newId initId : String} {K : Frag} {name : Str} {tk : Tok} {v : Value} {x C : Addr} {fv : Array Value} {cd : ClassData}
end
end Lk

namespace Lk
open PySem PySem.Spec PyProof.Rows L2
section
variable {X : Cx} {pins : List (Addr × Obj)} {σ : L2.St} {H : Hp} {s : Shared} {a C dx : Addr} {f : Str} {y : V} {u : Value} {fs : List (Str × V)} {Q : Unit → Shared → Prop} {E : Value → Shared → Prop} {A : Around} {T newId initId : String}
end
/-! ### readings -/
section
variable {X : Cx} {o e : Expr} {es : List Expr} {to te : TE} {ta : TA} {f : Str} {p p' p1 p2 pos : Pos} {T newId initId : String} {tn : Str}
section
variable {CX : CXT} {x : Str} {C fI : Addr} {k : Nat} {fd : FuncData} {ps : List Str} {sp : Sp}
end
end
end Lk

namespace Lk
open PySem PySem.Spec PyProof.Rows L2
/-- a class of exceptions as it is named -/
structure ClsK (K : PySem.W.Frag) (mg : Str → Option Value) (x : Str) (C : Addr) : Prop where
  g : mg x = some (.ref C)
  is : PySem.W.isClsIn K C = true
  ty : PySem.W.typeIn K (.ref C) = some (.type "type")
  ex : PySem.W.subIn K (.ref C) (.type "BaseException") = some true
  self : PySem.W.subIn K (.ref C) (.ref C) = some true
  non : PySem.W.subIn K (.type "NoneType") (.ref C) = some false
section
variable {K : PySem.W.Frag} {mg : Str → Option Value} {x y tn : Str} {C D fI : Addr} {T newId initId : String} {b : Bool}
theorem ClsK.kit {t : Value} (k : ClsK K mg x C) (h : PySem.W.subIn K t (.ref C) = some b) : PySem.W.kitCls K t (.ref C) = some b := by
  have c : (PySem.W.clsIn K C).isSome = true := k.is
  unfold PySem.W.kitCls
  show (if ((PySem.W.clsIn K C).isSome && PySem.W.typeIn K (.ref C) == some (.type "type")) = true then PySem.W.subIn K t (.ref C) else none) = some b
  rw [if_pos (by rw [c, k.ty]; rfl)]
  exact h
/-- isinstance of the class D, C asked -/
theorem ClsK.one (k : ClsK K mg x C) (h : PySem.W.subIn K (.ref D) (.ref C) = some b) : PySem.W.kitOne K (.ref D) (.ref C) = some b := by
  unfold PySem.W.kitOne
  by_cases e : D = C
  · subst e
    rw [if_pos (by simp)]
    rw [k.self] at h
    exact h
  · rw [if_neg (by simpa using e)]
    exact k.kit h
theorem ClsK.none (k : ClsK K mg x C) : PySem.W.kitOne K (.type "NoneType") (.ref C) = some false := by
  unfold PySem.W.kitOne
  rw [if_neg (by simp)]
  exact k.kit k.non
end
end Lk
namespace Lk
open PySem PySem.Spec PyProof.Rows L2
end Lk
set_option maxRecDepth 100000
set_option maxHeartbeats 4000000
namespace Lk
open PySem PySem.Spec PySem.Calls PyProof.Rows PySem.W
section
variable {M : Model} {K : Frag} {h : Heap} {A : Around} {E : Value → Shared → Prop}
end
end Lk
namespace Lk
open PySem PySem.Spec PyProof.Rows L2
/-- a caught exception, held as a value -/
def ExV (cls : Value) (d : Option Addr) (a : Addr) : HO := .ext fun h => ∃ (oe : Obj) (vs : Array Value), h.get? a = some oe ∧ Zc cls d oe ∧ oe.data = .fields vs
section
variable {X : Cx} {pins : List (Addr × Obj)} {σ : L2.St} {H : Hp} {s : Shared}
end
/-- the names of a tuple of classes -/
inductive TupNames (X : Cx) : List Expr → List Value → Prop
  | nil : TupNames X [] []
  | cons {x : Str} {c : Value} {np : Pos} {es : List Expr} {cs : List Value} (h : Names X x c) (r : TupNames X es cs) : TupNames X (.Name x np :: es) (c :: cs)
theorem TupNames.run {X : Cx} {es : List Expr} {cs : List Value} (T : TupNames X es cs) {a : Addr} {pn : List (Addr × Obj)} {σ : L2.St} {H : Hp} {s : Shared} {tpos : Pos} (S : Inv (X.suite a pn) [] σ H s) {E : Value → Shared → Prop} : ∀ {Q : List Value → Shared → Prop}, Q cs s →
    wpAny (model X.prog X.w) (X.A.mark (some (.ref a))) (spliced (backTo tpos (starEach es X.env))) Q E s := by
  induction T with
  | nil => intro Q q; exact wpAny_items_nil q
  | cons hc r ih =>
    intro Q q
    refine wpAny_items_cons ?_
    obtain ⟨hg, hdbg, hm | ⟨hm, hv, hnn⟩⟩ := hc
    · exact ld_glob (X := X.suite a pn) S hg hm (ih q) hdbg
    · exact ld_blt (X := X.suite a pn) S hg hm hv (ih q) hnn hdbg
theorem TupNames.length {X : Cx} {es : List Expr} {cs : List Value} (T : TupNames X es cs) : cs.length = es.length := by
  induction T with
  | nil => rfl
  | cons _ _ ih => rw [List.length_cons, List.length_cons, ih]
section
variable {X : Cx} {n : Str} {cs : List Value} {es : List Expr} {i kk : Nat} {body suite : List Stmt} {b₀ : Stmt} {tpos pos pos' : Pos} {tb : WX → TS} {ts : Addr → Value → Option Addr → TS} {Wout : WX}
end
end Lk
namespace Lk
open PySem PySem.Spec PySem.Calls PySem.W
section
variable {K : Frag} {D : Addr} {od : Option Obj}
end
end Lk
namespace Lk
open PySem PySem.Spec PyProof.Rows L2
/-- an exception that was caught stands at a, its fields (none, or those of its dict) -/
def Held (H : Hp) (a D : Addr) (fs : List (Str × V)) : Prop := ∃ d, H a = some (ExV (.ref D) d a) ∧ ((d = none ∧ fs = []) ∨ ∃ dd, d = some dd ∧ H dd = some (.xd fs))
section
variable {X : Cx}
end
end Lk
namespace Lk
open PySem PySem.Spec PyProof.Rows L2
theorem Held.same {H H' : Hp} {a D : Addr} {fs : List (Str × V)} (s : Same H H') (x : Held H a D fs) : Held H' a D fs := by
  obtain ⟨d, ha, hd⟩ := x
  exact ⟨d, s _ _ ha, hd.imp id fun ⟨dd, e, q⟩ => ⟨dd, e, s _ _ q⟩⟩
end Lk

namespace Lk
open PySem PySem.Spec PyProof.Rows L2
section
variable {X : Cx} {k m : Nat} {x : Str} {ps : List Str} {sp : Sp} {p pos : Pos} {e : Expr} {es : List Expr} {t : TA} {W : WX}
end
end Lk
set_option maxRecDepth 100000
set_option maxHeartbeats 4000000
namespace Lk
open PySem PySem.Spec PyProof.Rows L2
end Lk
set_option maxRecDepth 100000
set_option maxHeartbeats 4000000
namespace Lk
open PySem PySem.Spec PyProof.Rows L2
/-! ### the first of the elders who is astray -/
theorem TupAt.but {K : PySem.W.Frag} {H : Hp} {e : Addr} {elders : List Str} (h : TupAt H e (elders.map V.str)) : ButKeeps K H e elders := fun H' s => .inr (h.same s).sq
end Lk
namespace Lk
open PySem PySem.Spec PyProof.Rows L2
end Lk
set_option maxRecDepth 100000
set_option maxHeartbeats 4000000
namespace Lk
open PySem PySem.Spec PyProof.Rows L2
/-! ### one clause of a comprehension, by what one turn of it does -/
/-! ### {k: v for .. in .. for .. in ..} -/
section
variable {kx vx t0 i0 t1 i1 : Expr} {f0 f1 : List Expr} {scope : Scope} {pos : Pos}
end
section
variable {X : Cx}
end
end Lk
set_option maxRecDepth 100000
set_option maxHeartbeats 4000000
namespace Lk
open PySem PySem.Spec PyProof.Rows L2
/-! ### a class of one's own: its objects, their methods -/
section
variable {X : Cx} {k n : Nat} {f C : Addr} {fd : FuncData} {ps : List Str} {sp : Sp} {x m : Str} {p pos apos : Pos} {o e : Expr} {es : List Expr} {ta : TE} {t : TA}
end
end Lk
set_option maxRecDepth 100000
set_option maxHeartbeats 4000000
namespace Lk
open PySem PySem.Spec PyProof.Rows L2
section
variable {ps : List (Str × Str)} {row A B C D : List Str} {x h m t : Str}
/-! ### where nobody is friends -/
/-! ### one is the friend of all -/
/-- among pool: friends are just h and any other -/
def Star (ps : List (Str × Str)) (h : Str) (row : List Str) : Prop := ∀ a ∈ row, ∀ b ∈ row, frd ps a b = true ↔ a ≠ b ∧ (a = h ∨ b = h)
theorem Star.sub (s : Star ps h row) {r2 : List Str} (hs : ∀ x ∈ r2, x ∈ row) : Star ps h r2 := fun a ha b hb => s a (hs a ha) b (hs b hb)
theorem Star.no (s : Star ps h row) {a b : Str} (ha : a ∈ row) (hb : b ∈ row) (na : a ≠ h) (nb : b ≠ h) : frd ps a b = false := Bool.eq_false_iff.mpr fun z => ((s a ha b hb).mp z).2.elim na nb
/-! ### just two are friends -/
def Duo (ps : List (Str × Str)) (m t : Str) (row : List Str) : Prop := ∀ a ∈ row, ∀ b ∈ row, frd ps a b = true ↔ (a = m ∧ b = t) ∨ (a = t ∧ b = m)
theorem Duo.sub (s : Duo ps m t row) {r2 : List Str} (hs : ∀ x ∈ r2, x ∈ row) : Duo ps m t r2 := fun a ha b hb => s a (hs a ha) b (hs b hb)
theorem Duo.comm (s : Duo ps m t row) : Duo ps t m row := fun a ha b hb => (s a ha b hb).trans Or.comm
theorem Duo.no (s : Duo ps m t row) {a b : Str} (ha : a ∈ row) (hb : b ∈ row) (n : ¬ ((a = m ∧ b = t) ∨ (a = t ∧ b = m))) : frd ps a b = false := Bool.eq_false_iff.mpr fun z => n ((s a ha b hb).mp z)
end
/-! ### pairs of these friends -/
def mk2 (x y : Str) : Str × Str := (lmin x y, lmax x y)
theorem mk2_cases (x y : Str) : mk2 x y = (x, y) ∨ mk2 x y = (y, x) := by
  unfold mk2 lmin lmax
  by_cases c : y.cps.toList < x.cps.toList
  · have d : ¬ x.cps.toList < y.cps.toList := fun z => List.lt_irrefl _ (List.lt_trans c z)
    rw [if_pos c, if_neg d]
    exact .inr rfl
  · rw [if_neg c]
    by_cases d : x.cps.toList < y.cps.toList
    · rw [if_pos d]
      exact .inl rfl
    · rw [if_neg d]
      have : x = y := str_ext (List.le_antisymm (List.not_lt.mp c) (List.not_lt.mp d))
      subst this
      exact .inl rfl
theorem mk2_frd {a b x y : Str} : (mk2 x y = (a, b) ∨ mk2 x y = (b, a)) ↔ (a = x ∧ b = y) ∨ (a = y ∧ b = x) := by
  rcases mk2_cases x y with e | e
  · rw [e]
    constructor
    · rintro (h | h)
      · cases h; exact .inl ⟨rfl, rfl⟩
      · cases h; exact .inr ⟨rfl, rfl⟩
    · rintro (⟨rfl, rfl⟩ | ⟨rfl, rfl⟩)
      · exact .inl rfl
      · exact .inr rfl
  · rw [e]
    constructor
    · rintro (h | h)
      · cases h; exact .inr ⟨rfl, rfl⟩
      · cases h; exact .inl ⟨rfl, rfl⟩
    · rintro (⟨rfl, rfl⟩ | ⟨rfl, rfl⟩)
      · exact .inr rfl
      · exact .inl rfl
end Lk
set_option maxRecDepth 100000
set_option maxHeartbeats 4000000
namespace Lk
open PySem PySem.Spec PyProof.Rows L2
section
variable {ps : List (Str × Str)} {A C D : List Str} {m t : Str}
end
end Lk
set_option maxRecDepth 100000
set_option maxHeartbeats 2000000
/-! LkKn: rows of known people: all told by numbers -/
namespace Lk
open PySem PySem.Spec PyProof.Rows L2

/-! ### by numbers -/
def gSpot (fr : Nat → Nat → Bool) (l : List Nat) (x : Nat) : Nat := match lastP (fr x) l with
  | some k => k + 1
  | none => l.length
def gCome (fr : Nat → Nat → Bool) (l : List Nat) (x : Nat) : List Nat := l.take (gSpot fr l x) ++ [x] ++ l.drop (gSpot fr l x)
def gStand (fr : Nat → Nat → Bool) (o : List Nat) : List Nat := o.foldl (gCome fr) []
def gLooseB (fr : Nat → Nat → Bool) (l : List Nat) (i x : Nat) : Bool := match lastP (fr x) l with
  | none => decide (i + 1 = l.length)
  | some k => decide (k + 1 = i)
def gLoose (fr : Nat → Nat → Bool) (l : List Nat) : List Nat := (l.zipIdx.filter fun p => gLooseB fr l p.2 p.1).map (·.1)
def gGone (fr : Nat → Nat → Bool) : Nat → List Nat → List Nat × List Nat
  | 0, l => ([], l)
  | n + 1, l => match (gLoose fr l).getLast? with
    | none => ([], l)
    | some x => (x :: (gGone fr n (l.filter fun y => !decide (y = x))).1, (gGone fr n (l.filter fun y => !decide (y = x))).2)
def gWords (fr : Nat → Nat → Bool) (l : List Nat) (x y i j : Nat) : List Str :=
  optW (decide (lastP (fr x) (l.take i) = none) && decide (i < j)) "behind" ++
  optW (btw i j (lastP (fr x) (l.take i))) "between" ++
  optW (decide (i < j) && fr x y) "friend"
def gBack (o r : List Nat) (n : Nat) : List (Nat × Nat) := (r.zipIdx.take n).map fun p => (p.1, ((r.take p.2).filter fun y => decide (o.idxOf p.1 < o.idxOf y)).length)
structure Num (ps : List (Str × Str)) (f : Nat → Str) (fr : Nat → Nat → Bool) (n : Nat) : Prop where
  inj : ∀ i j, i < n → j < n → f i = f j → i = j
  rel : ∀ i j, i < n → j < n → frd ps (f i) (f j) = fr i j
theorem lastP_map {α β : Type} {p : β → Bool} {q : α → Bool} {f : α → β} : ∀ {l : List α}, (∀ x ∈ l, p (f x) = q x) → lastP p (l.map f) = lastP q l
  | [], _ => rfl
  | x :: r, h => by
    show (match lastP p (r.map f) with | some k => some (k + 1) | none => if p (f x) then some 0 else none) = (match lastP q r with | some k => some (k + 1) | none => if q x then some 0 else none)
    rw [lastP_map fun y hy => h y (List.mem_cons_of_mem _ hy), h x List.mem_cons_self]
section
variable {ps : List (Str × Str)} {f : Nat → Str} {fr : Nat → Nat → Bool} {n : Nat}
theorem Num.last (k : Num ps f fr n) {l : List Nat} {x : Nat} (hl : ∀ y ∈ l, y < n) (hx : x < n) : lastP (frd ps (f x)) (l.map f) = lastP (fr x) l := lastP_map fun y hy => k.rel x y hx (hl y hy)
theorem Num.come (k : Num ps f fr n) {l : List Nat} {x : Nat} (hl : ∀ y ∈ l, y < n) (hx : x < n) : comeTo ps (l.map f) (f x) = (gCome fr l x).map f := by
  have e : spotOf ps (l.map f) (f x) = gSpot fr l x := by
    unfold spotOf gSpot
    rw [k.last hl hx, List.length_map]
    all_goals (cases lastP (fr x) l <;> rfl)
  unfold comeTo gCome
  rw [e, List.map_append, List.map_append, List.map_take, List.map_drop]
  rfl
theorem gCome_sub {l : List Nat} {x y : Nat} (h : y ∈ gCome fr l x) : y = x ∨ y ∈ l := by
  unfold gCome at h
  rcases List.mem_append.mp h with h | h
  · rcases List.mem_append.mp h with h | h
    · exact .inr (List.mem_of_mem_take h)
    · exact .inl (List.mem_singleton.mp h)
  · exact .inr (List.mem_of_mem_drop h)
theorem Num.stand_ (k : Num ps f fr n) : ∀ {o l : List Nat}, (∀ y ∈ o, y < n) → (∀ y ∈ l, y < n) → (o.map f).foldl (comeTo ps) (l.map f) = (o.foldl (gCome fr) l).map f
  | [], _, _, _ => rfl
  | x :: o, l, ho, hl => by
    show (o.map f).foldl (comeTo ps) (comeTo ps (l.map f) (f x)) = (o.foldl (gCome fr) (gCome fr l x)).map f
    rw [k.come hl (ho x List.mem_cons_self)]
    refine k.stand_ (fun y hy => ho y (List.mem_cons_of_mem _ hy)) fun y hy => ?_
    rcases gCome_sub hy with rfl | z
    · exact ho _ List.mem_cons_self
    · exact hl y z
theorem Num.stand (k : Num ps f fr n) {o : List Nat} (ho : ∀ y ∈ o, y < n) : standOf ps (o.map f) = (gStand fr o).map f := k.stand_ (l := []) ho fun y hy => nomatch hy
theorem zipIdx_map' {α β : Type} (f : α → β) (l : List α) : (l.map f).zipIdx = l.zipIdx.map fun p => (f p.1, p.2) := by
  rw [List.zipIdx_map]
  rfl
theorem mem_zipIdx' {α : Type} {l : List α} {p : α × Nat} (h : p ∈ l.zipIdx) : p.1 ∈ l := List.mem_of_getElem? (List.mem_zipIdx_iff_getElem?.mp h)
theorem Num.loose (k : Num ps f fr n) {l : List Nat} (hl : ∀ y ∈ l, y < n) : looseL ps (l.map f) = (gLoose fr l).map f := by
  unfold looseL gLoose
  rw [zipIdx_map', List.filter_map, List.map_map, List.map_map]
  have e : l.zipIdx.filter ((fun p : Str × Nat => looseB ps (l.map f) p.2 p.1) ∘ fun p : Nat × Nat => (f p.1, p.2)) = l.zipIdx.filter fun p => gLooseB fr l p.2 p.1 := by
    refine List.filter_congr fun p hp => ?_
    show looseB ps (l.map f) p.2 (f p.1) = gLooseB fr l p.2 p.1
    unfold looseB gLooseB
    rw [k.last hl (hl _ (mem_zipIdx' hp)), List.length_map]
    all_goals (cases lastP (fr p.1) l <;> rfl)
  rw [e]
  rfl
theorem Num.rem (k : Num ps f fr n) {l : List Nat} {x : Nat} (hl : ∀ y ∈ l, y < n) (hx : x < n) : rem (l.map f) (f x) = (l.filter fun y => !decide (y = x)).map f := by
  unfold Lk.rem
  rw [List.filter_map]
  congr 1
  refine List.filter_congr fun y hy => ?_
  show (!decide (f y = f x)) = _
  congr 1
  exact decide_eq_decide.mpr ⟨k.inj y x (hl y hy) hx, fun e => by rw [e]⟩
theorem gLoose_sub {l : List Nat} {x : Nat} (h : x ∈ gLoose fr l) : x ∈ l := by
  unfold gLoose at h
  obtain ⟨p, hp, rfl⟩ := List.mem_map.mp h
  exact mem_zipIdx' (List.mem_filter.mp hp).1
theorem Num.gone_ (k : Num ps f fr n) : ∀ {m : Nat} {l : List Nat}, (∀ y ∈ l, y < n) → goneN ps [] m (l.map f) = ((gGone fr m l).1.map f, (gGone fr m l).2.map f)
  | 0, _, _ => rfl
  | m + 1, l, hl => by
    unfold goneN gGone
    rw [someL_nil, k.loose hl, List.getLast?_map]
    cases e : (gLoose fr l).getLast? with
    | none => rfl
    | some x =>
      have hx := hl x (gLoose_sub (last_mem e))
      show (f x :: (goneN ps [] m (Lk.rem (l.map f) (f x))).1, (goneN ps [] m (Lk.rem (l.map f) (f x))).2) = _
      rw [k.rem hl hx, k.gone_ fun y hy => hl y (List.mem_filter.mp hy).1]
      rfl
theorem Num.gone (k : Num ps f fr n) {l : List Nat} (hl : ∀ y ∈ l, y < n) : goneO ps [] (l.map f) = (gGone fr l.length l).1.map f ∧ goneR ps [] (l.map f) = (gGone fr l.length l).2.map f := by
  unfold goneO goneR
  rw [List.length_map, k.gone_ hl]
  exact ⟨rfl, rfl⟩
theorem Num.words (k : Num ps f fr n) {l : List Nat} {x y i j : Nat} (hl : ∀ y ∈ l, y < n) (hx : x < n) (hy : y < n) : wordsOf ps (l.map f) (f x) (f y) i j = gWords fr l x y i j := by
  unfold wordsOf gWords
  rw [← List.map_take, k.last (fun z hz => hl z (List.mem_of_mem_take hz)) hx, k.rel x y hx hy]
theorem Num.idx (k : Num ps f fr n) : ∀ {l : List Nat} {x : Nat}, (∀ y ∈ l, y < n) → x < n → (l.map f).idxOf (f x) = l.idxOf x
  | [], _, _, _ => rfl
  | y :: l, x, hl, hx => by
    have ih := k.idx (l := l) (x := x) (fun z hz => hl z (List.mem_cons_of_mem _ hz)) hx
    rw [List.map_cons, List.idxOf_cons, List.idxOf_cons, ih]
    by_cases c : y = x
    · rw [c, beq_self_eq_true, beq_self_eq_true]
    · have nf : f y ≠ f x := fun e => c (k.inj y x (hl y List.mem_cons_self) hx e)
      rw [beq_false_of_ne nf, beq_false_of_ne c]
theorem Num.back (k : Num ps f fr n) {o r : List Nat} {m : Nat} (ho : ∀ y ∈ o, y < n) (hr : ∀ y ∈ r, y < n) : backTo_ (o.map f) (r.map f) m = (gBack o r m).map fun p => (f p.1, p.2) := by
  unfold backTo_ gBack
  rw [zipIdx_map', ← List.map_take, List.map_map, List.map_map]
  refine List.map_congr_left fun p hp => ?_
  have mp := hr _ (mem_zipIdx' (List.mem_of_mem_take hp))
  show (f p.1, (((r.map f).take p.2).filter (laterB (o.map f) (f p.1))).length) = (f p.1, ((r.take p.2).filter fun y => decide (o.idxOf p.1 < o.idxOf y)).length)
  rw [← List.map_take, List.filter_map, List.length_map]
  congr 2
  refine List.filter_congr fun y hy => ?_
  show decide ((o.map f).idxOf (f p.1) < (o.map f).idxOf (f y)) = _
  rw [k.idx ho mp, k.idx ho (hr y (List.mem_of_mem_take hy))]
theorem Num.nodup (k : Num ps f fr n) {l : List Nat} (hl : ∀ y ∈ l, y < n) (nd : l.Nodup) : (l.map f).Nodup := by
  refine List.Pairwise.map f (R := fun a b => a ≠ b ∧ a < n ∧ b < n) (fun a b h e => h.1 (k.inj a b h.2.1 h.2.2 e)) ?_
  refine List.Pairwise.imp_of_mem (fun ha hb h => ⟨h, hl _ ha, hl _ hb⟩) nd
end

/-! ### friends by numbers -/
def frOf (es : List (Nat × Nat)) (i j : Nat) : Bool := decide ((i, j) ∈ es ∨ (j, i) ∈ es)
def mkE (f : Nat → Str) (es : List (Nat × Nat)) : List (Str × Str) := es.map fun e => mk2 (f e.1) (f e.2)
theorem kn_of {ps : List (Str × Str)} {f : Nat → Str} {n : Nat} {es : List (Nat × Nat)} (inj : ∀ i j, i < n → j < n → f i = f j → i = j) (pm : ps.Perm (mkE f es)) (he : ∀ e ∈ es, e.1 < n ∧ e.2 < n) : Num ps f (frOf es) n := by
  refine ⟨inj, fun i j hi hj => ?_⟩
  unfold frd frOf
  refine decide_eq_decide.mpr ?_
  have key : ∀ a b, (a, b) ∈ ps ↔ ∃ e ∈ es, mk2 (f e.1) (f e.2) = (a, b) := fun a b => by
    rw [pm.mem_iff]
    unfold mkE
    exact List.mem_map
  rw [key, key]
  constructor
  · intro h
    obtain ⟨e, me, h⟩ : ∃ e ∈ es, mk2 (f e.1) (f e.2) = (f i, f j) ∨ mk2 (f e.1) (f e.2) = (f j, f i) := by
      rcases h with ⟨e, me, h⟩ | ⟨e, me, h⟩
      · exact ⟨e, me, .inl h⟩
      · exact ⟨e, me, .inr h⟩
    obtain ⟨e1, e2⟩ := e
    have b := he _ me
    rcases mk2_frd.mp h with ⟨h1, h2⟩ | ⟨h1, h2⟩
    · rw [inj i e1 hi b.1 h1, inj j e2 hj b.2 h2]
      exact .inl me
    · rw [inj i e2 hi b.2 h1, inj j e1 hj b.1 h2]
      exact .inr me
  · rintro (h | h)
    · rcases (mk2_frd (x := f i) (y := f j) (a := f i) (b := f j)).mpr (.inl ⟨rfl, rfl⟩) with z | z
      · exact .inl ⟨_, h, z⟩
      · exact .inr ⟨_, h, z⟩
    · rcases (mk2_frd (x := f j) (y := f i) (a := f i) (b := f j)).mpr (.inr ⟨rfl, rfl⟩) with z | z
      · exact .inl ⟨_, h, z⟩
      · exact .inr ⟨_, h, z⟩
theorem irr_of {ps : List (Str × Str)} {f : Nat → Str} {n : Nat} {es : List (Nat × Nat)} (inj : ∀ i j, i < n → j < n → f i = f j → i = j) (pm : ps.Perm (mkE f es)) (he : ∀ e ∈ es, e.1 < n ∧ e.2 < n ∧ e.1 ≠ e.2) : Irr ps := by
  intro x
  unfold frd
  refine decide_eq_false fun h => ?_
  have h : (x, x) ∈ ps := h.elim id id
  rw [pm.mem_iff] at h
  obtain ⟨⟨i, j⟩, me, e⟩ := List.mem_map.mp h
  have b := he _ me
  rcases mk2_frd.mp (.inl e) with ⟨h1, h2⟩ | ⟨h1, h2⟩
  · exact b.2.2 (inj i j b.1 b.2.1 (h1.symm.trans h2))
  · exact b.2.2 (inj i j b.1 b.2.1 (h2.symm.trans h1))
def fOf (pool : List Str) (i : Nat) : Str := pool[i]?.getD ""
theorem fOf_at {pool : List Str} {i : Nat} {x : Str} (h : pool[i]? = some x) : fOf pool i = x := by
  unfold fOf
  rw [h]
  rfl
theorem fOf_inj {pool : List Str} (nd : pool.Nodup) : ∀ i j, i < pool.length → j < pool.length → fOf pool i = fOf pool j → i = j := fun i j hi hj e => by
  have h1 := List.getElem?_eq_getElem hi
  have h2 := List.getElem?_eq_getElem hj
  rw [fOf_at h1, fOf_at h2] at e
  rw [e] at h1
  exact nd_ix nd h1 h2
theorem map_fOf (pool : List Str) : (List.range pool.length).map (fOf pool) = pool := by
  refine List.ext_getElem? fun i => ?_
  rw [List.getElem?_map]
  rcases Nat.lt_or_ge i pool.length with h | h
  · rw [List.getElem?_range h, Option.map_some, fOf_at (List.getElem?_eq_getElem h), List.getElem?_eq_getElem h]
  · rw [List.getElem?_eq_none (by rw [List.length_range]; exact h), List.getElem?_eq_none h]
    rfl

/-! ### the known ones -/
def evE (n : Nat) : List (Nat × Nat) := (List.range n).flatMap fun i => (List.range i).map fun j => (i, j)
def stE (n : Nat) : List (Nat × Nat) := (List.range (n - 1)).map fun j => (0, j + 1)
def rdE (n : Nat) : List (Nat × Nat) := (List.range (n - 1)).map fun j => (j, j + 1)
def up (n : Nat) : List Nat := List.range n
def rest (n : Nat) : List Nat := (List.range (n - 1)).map (· + 1)
def evens (n : Nat) : List Nat := (List.range n).filter fun i => i % 2 == 0
def odds (n : Nat) : List Nat := (List.range n).filter fun i => i % 2 == 1
def dueStep (n : Nat) (l : List Nat) (k : Nat) : List Nat := (l ++ [k] ++ (if k + 2 = n then [k + 1] else [])) ++ (if 0 < k then [k - 1] else [])
def dueR (n : Nat) : List Nat := (evens n).foldl (dueStep n) []
theorem kn_none : ∀ n, n < 10 → gStand (frOf []) (up n) = up n ∧ (gGone (frOf []) n (up n)).2 = [] ∧ (gGone (frOf []) n (up n)).1.reverse = up n ∧ gLoose (frOf []) (up n) = (up n).drop (n - 1) := by decide +kernel
theorem kn_every : ∀ n, n < 10 → gStand (frOf (evE n)) (up n) = up n ∧ (gGone (frOf (evE n)) n (up n)).2 = [] ∧ (gGone (frOf (evE n)) n (up n)).1.reverse = up n ∧ gLoose (frOf (evE n)) (up n) = (up n).drop (n - 1) := by decide +kernel
theorem kn_star : ∀ n, 0 < n → n < 10 → gStand (frOf (stE n)) (up n) = 0 :: (rest n).reverse ∧ gStand (frOf (stE n)) (rest n ++ [0]) = rest n ++ [0] ∧ (gGone (frOf (stE n)) n (up n)).2 = [] ∧ (gGone (frOf (stE n)) n (up n)).1.reverse = 0 :: (rest n).reverse ∧ (gGone (frOf (stE n)) n (rest n ++ [0])).2 = [] ∧ gBack (up n) (0 :: (rest n).reverse) n = (0, 0) :: (rest n).reverse.zipIdx := by
  have : ∀ n, n < 10 → 0 < n → gStand (frOf (stE n)) (up n) = 0 :: (rest n).reverse ∧ gStand (frOf (stE n)) (rest n ++ [0]) = rest n ++ [0] ∧ (gGone (frOf (stE n)) n (up n)).2 = [] ∧ (gGone (frOf (stE n)) n (up n)).1.reverse = 0 :: (rest n).reverse ∧ (gGone (frOf (stE n)) n (rest n ++ [0])).2 = [] ∧ gBack (up n) (0 :: (rest n).reverse) n = (0, 0) :: (rest n).reverse.zipIdx := by decide +kernel
  exact fun n h0 h => this n h h0
theorem kn_road : ∀ n, n < 10 → gStand (frOf (rdE n)) (up n) = up n ∧ gStand (frOf (rdE n)) (up n).reverse = (up n).reverse ∧ gStand (frOf (rdE n)) (evens n ++ odds n) = dueR n := by decide +kernel
theorem kn_road2 : ∀ n, 1 < n → n < 10 → gCome (frOf (rdE n)) [0] 1 = [0, 1] := by
  have : ∀ n, n < 10 → 1 < n → gCome (frOf (rdE n)) [0] 1 = [0, 1] := by decide +kernel
  exact fun n h1 h2 => this n h2 h1
end Lk
namespace Lk
open PySem PySem.Spec PyProof.Rows L2
theorem kn_three : let fr := frOf [(0, 2)]; gStand fr [0, 1, 2] = [0, 2, 1] ∧ gStand fr [0, 2, 1] = [0, 2, 1] ∧ gStand fr [1, 0, 2] = [1, 0, 2] ∧ gLoose fr [0, 2, 1] = [2, 1] ∧ gLoose fr [0, 1, 2] = [] ∧ (gGone fr 3 [0, 1, 2]).2 = [0, 1, 2] ∧ (gGone fr 3 [1, 0, 2]).2 = [] ∧ (gGone fr 3 [2, 0, 1]).2 = [] := by decide +kernel
theorem kn_words : let fr := frOf [(0, 2)]; gWords fr [0, 1, 2] 0 1 0 1 = [("behind" : Str)] ∧ gWords fr [0, 1, 2] 0 2 0 2 = [("behind" : Str), ("friend" : Str)] ∧ gWords fr [0, 1, 2] 2 1 2 1 = [("between" : Str)] ∧ gWords fr [0, 1, 2] 1 2 1 2 = [("behind" : Str)] ∧ gWords fr [0, 2, 1] 1 2 2 1 = [] := by decide +kernel
/-- lists and tuples that are the same, thing by thing -/
theorem at_rel {α β : Type} {R : α → β → Prop} : ∀ {xs : List α} {ys : List β}, Paired R xs ys → ∀ (i : Nat) (u : α) (v : β), xs[i]? = some u → ys[i]? = some v → R u v
  | _, _, .nil, i, u, v, hu, _ => by simp at hu
  | _, _, .cons (a := a) (b := b) h t, 0, u, v, hu, hv => by
    have e1 : a = u := Option.some.inj hu
    have e2 : b = v := Option.some.inj hv
    rw [← e1, ← e2]
    exact h
  | _, _, .cons h t, i + 1, u, v, hu, hv => at_rel t i u v hu hv
theorem rel_len {α β : Type} {R : α → β → Prop} : ∀ {xs : List α} {ys : List β}, Paired R xs ys → xs.length = ys.length
  | _, _, .nil => rfl
  | _, _, .cons h t => by rw [List.length_cons, List.length_cons, rel_len t]
theorem alk_lstF {H : Hp} {n : Nat} {a b : Addr} {xs ys : List V} (h1 : H a = some (.lst xs)) (h2 : H b = some (.lst ys)) (r : Paired (Alk H n) xs ys) (hz : xs.length ≤ 1000) : Alk H (n + 1) (.ref a) (.ref b) :=
  .inr (.inl ⟨a, b, xs, ys, rfl, rfl, h1, h2, rel_len r, hz, at_rel r⟩)
/-! ### promises -/
def spPrs : Sp := fun vs H Q _ => ∃ (l : Addr) (bs : List B3), vs = [.ref l] ∧ H l = some (.lst (refs bs)) ∧ PairsAt H bs ∧ bs.length ≤ 200 ∧
  ∀ (p : Addr) (ps : List (Str × Str)) (H' : Hp), Same H H' → FrAt H' p ps → ps.Perm (bs.map fun b => mk2 b.2.1 b.2.2) → Q (.ref p) H'
def spEachBD : Sp := fun vs H Q _ => ∃ (a r p : Addr) (ps : List (Str × Str)) (row : List Str) (bs : List B3) (last : Str) (c : Bool), vs = [.ref a, .ref r, .ref p, .str last] ∧ FrAt H a ps ∧ ps.length ≤ 1000 ∧ RowAt H r row ∧ row.Nodup ∧ row.length ≤ 100 ∧ LinksOk H p bs ∧ (∀ b ∈ bs, b.2.1 ∈ row) ∧ last ∈ row ∧
  c = ((List.range bs.length).map fun i => match bs[i]?, (nextsL bs last)[i]? with | some b, some y => decide (b.2.2 ∈ wordsAt ps row b.2.1 y) | _, _ => false).all id ∧ ∀ H', Same H H' → Q (.bl c) H'
def spShowsRD : Sp := fun vs H Q _ => ∃ (a r p : Addr) (ps : List (Str × Str)) (row : List Str) (b1 b2 : B3) (c : Bool), vs = [.ref a, .ref r, .ref p] ∧ FrAt H a ps ∧ ps.length ≤ 1000 ∧ RowAt H r row ∧ row.Nodup ∧ row.length ≤ 100 ∧ (∀ x ∈ row, NameOk x) ∧ H p = some (.lst (refs [b1, b2])) ∧ PairsAt H [b1, b2] ∧ b1.2.1 ∈ row ∧ b2.2.1 ∈ row ∧ b1.2.1 ≠ b2.2.1 ∧
  c = (decide (b1.2.2 ∈ wordsAt ps row b1.2.1 b2.2.1) && decide (b2.2.2 ∈ wordsAt ps row b2.2.1 b1.2.1)) ∧ ∀ H', Same H H' → Q (.bl c) H'
def spThr : Sp := fun vs H Q _ => ∃ a b c : Str, vs = [.str a, .str b, .str c] ∧ [a, b, c].Nodup ∧ (∀ x ∈ [a, b, c], NameOk x) ∧ ∀ H', Same H H' → Q (.bl true) H'
def spPool9 : Sp := fun vs H Q _ => ∃ (l : Addr) (pool : List Str), vs = [.ref l] ∧ H l = some (.lst (pool.map V.str)) ∧ pool.Nodup ∧ (∀ x ∈ pool, NameOk x) ∧ 2 ≤ pool.length ∧ pool.length < 10 ∧ ∀ H', Same H H' → Q (.bl true) H'
end Lk
namespace Lk
open PySem PySem.Spec PyProof.Rows L2
section
variable {J : It} {n : Nat} {G : Hp → Prop} {Y : Nat → Hp → V → Hp → Prop} {g : TG} {te : TE} {vs : List Nat} {σ : L2.St} {H1 : Hp} {D : Addr} {Qd : Hp → Prop}
/-- each one's thing is new and keeps R -/
theorem lc_rel (w : Walk J n G Y) (R : Nat → Hp → V → Prop) (hn : n ≤ 1000) (hD : H1 D = none) (hG : ∀ H', Same H1 H' → G H')
    (hR : ∀ j H H' y, y ≠ .ref D → Same H1 H → Oth D H H' → R j H y → R j H' y)
    (hs : ∀ (i : Nat) (v : V) (H H' : Hp) (k : V → Hp → Prop), i < n → Same H1 H → (∃ acc, H D = some (.lst acc)) → Y i H v H' → (∀ y H4, Same H H4 → y ≠ .ref D → R i H4 y → k y H4) → g v (wipe σ vs) H' fun σ2 H2 => wipe σ2 vs = wipe σ vs ∧ te σ2 H2 k)
    (hd : ∀ H ys, Same H1 H → H D = some (.lst ys) → ys.length = n → (∀ j y, ys[j]? = some y → R j H y) → Qd H) :
    ∃ W : Nat → Nat → Hp → Prop, (∃ m, W 0 m (upd H1 D (.lst []))) ∧ ∀ i m H, W i m H →
      (J.stop i H ∧ Qd H) ∨ (J.go i H ∧ ∃ Nx : Hp → Prop, (∀ H', Nx H' → ∃ m', m' < m ∧ W (i + 1) m' H') ∧ ∀ x H', J.yld i H x H' → g x (wipe σ vs) H' fun σ2 H2 => wipe σ2 vs = wipe σ vs ∧ tYes σ2 H2 fun b H3 =>
        if b = true then te σ2 H3 fun y H4 => ∃ acc, H4 D = some (.lst acc) ∧ acc.length < sizeLine ∧ Nx (upd H4 D (.lst (acc ++ [y]))) else Nx H3) := by
  refine lc_it w (fun i H' => Same H1 H' ∧ ∃ ys, H' D = some (.lst ys) ∧ ys.length = i ∧ ∀ j y, ys[j]? = some y → y ≠ .ref D ∧ R j H' y) ⟨same_upd hD, [], upd_same, rfl, fun j y h => by simp at h⟩ (fun i H' _ h => hG H' h.1) ?_ (fun H h => ?_)
  · rintro i v H H' hi ⟨s1, ys, d1, l1, r1⟩ y
    refine hs i v H H' _ hi s1 ⟨_, d1⟩ y fun z H4 s4 nz rz => ?_
    have d4 := s4 _ _ d1
    have oth : Oth D H4 (upd H4 D (.lst (ys ++ [z]))) := fun b o nb e => by
      rw [upd_ne nb]
      exact e
    refine ⟨ys, d4, small1000 (by omega), fun b o e => ?_, ys ++ [z], upd_same, by rw [List.length_append, l1]; rfl, fun j u hu => ?_⟩
    · rw [upd_ne (ne_of_none e hD)]
      exact s4 _ _ (s1 _ _ e)
    · rcases Nat.lt_or_ge j ys.length with c | c
      · rw [List.getElem?_append_left c] at hu
        obtain ⟨nu, ru⟩ := r1 j u hu
        exact ⟨nu, hR j H _ u nu s1 (fun b o nb e => oth b o nb (s4 _ _ e)) ru⟩
      · rw [List.getElem?_append_right c] at hu
        have e0 : j - ys.length = 0 := by
          rcases Nat.eq_zero_or_pos (j - ys.length) with z0 | z0
          · exact z0
          · rw [List.getElem?_eq_none (by show 1 ≤ _; omega)] at hu
            cases hu
        rw [e0] at hu
        have ez : z = u := Option.some.inj hu
        have ej : j = i := by omega
        rw [← ez, ej]
        exact ⟨nz, hR i H4 _ z nz (s1.trans s4) oth rz⟩
  · obtain ⟨s1, ys, d1, l1, r1⟩ := h
    exact hd H ys s1 d1 l1 fun j y hy => (r1 j y hy).2
end
end Lk
namespace Lk
open PySem PySem.Spec PyProof.Rows L2
/-! ### each second one of a list -/
def pickL {α : Type} (xs : List α) (lo st : Option Int) : List α := (sliceRange (sliceBounds lo none st xs.length).1 (sliceBounds lo none st xs.length).2.1 (sliceBounds lo none st xs.length).2.2).filterMap (xs[·]?)
theorem pick_vals {vs : List V} {us : List Value} (r : Vals vs us) : ∀ is : List Nat, Vals (is.filterMap (vs[·]?)) (is.filterMap (us[·]?))
  | [] => .nil
  | i :: is => by
    have ih := pick_vals r is
    rcases Nat.lt_or_ge i vs.length with c | c
    · have c2 : i < us.length := r.length ▸ c
      have e1 := List.getElem?_eq_getElem c
      have e2 := List.getElem?_eq_getElem c2
      rw [List.filterMap_cons_some e1, List.filterMap_cons_some e2]
      obtain ⟨u, g1, g2⟩ := r.get e1
      have eu : us[i] = u := Option.some.inj (e2.symm.trans g1)
      rw [← eu] at g2
      exact .cons g2 ih
    · have c2 : us.length ≤ i := r.length ▸ c
      rw [List.filterMap_cons_none (List.getElem?_eq_none c), List.filterMap_cons_none (List.getElem?_eq_none c2)]
      exact ih
theorem pick_len {α : Type} (xs : List α) (lo st : Option Int) : (pickL xs lo st).length ≤ xs.length := by
  have := slicePick_size_le (xs.map fun _ => Value.none).toArray lo none st
  unfold slicePick at this
  rw [List.size_toArray, List.size_toArray, List.length_map] at this
  refine Nat.le_trans (Nat.le_of_eq ?_) this
  unfold pickL
  generalize sliceRange (sliceBounds lo none st xs.length).1 (sliceBounds lo none st xs.length).2.1 (sliceBounds lo none st xs.length).2.2 = is
  induction is with
  | nil => rfl
  | cons i is ih =>
    rcases Nat.lt_or_ge i xs.length with c | c
    · rw [List.filterMap_cons_some (List.getElem?_eq_getElem c), List.filterMap_cons_some (b := Value.none) (by simp [c]), List.length_cons, List.length_cons, ih]
    · rw [List.filterMap_cons_none (List.getElem?_eq_none c), List.filterMap_cons_none (by simp [c]), ih]
def tStepL (K : PySem.W.Frag) (te : TE) (tl ts : TO) : TE := fun σ H Q => te σ H fun x H1 => tl σ H1 fun lo H2 => ts σ H2 fun st H3 => ∃ a xs, x = .ref a ∧ SqL K H3 a xs ∧ st ≠ some 0 ∧ ∀ p, H3 p = none → Q (.ref p) (upd H3 p (.lst (pickL xs lo st)))
section
variable {X : Cx}
theorem pe_stepL {e : Expr} {lo : Option Expr} {st : Expr} {te : TE} {tl ts : TO} {p2 pos : Pos} (he : PE X e te) (hl : PO X lo tl) (hs : PO X (some st) ts) : PE X (.Subscript e (.Slice lo none (some st) p2) pos) (tStepL X.K te tl ts) := by
  refine ⟨fun pins s σ H Q I h => ?_⟩
  refine Subscript_ (thn (he.run pins s σ H _ I h) fun v0 s1 ⟨x, H1, I1, rx, q1⟩ => ?_)
  refine wpAny_Slice (thn (hl.run pins s1 σ H1 _ I1 q1) fun vlo s2 ⟨l, H2, I2, plo, q2⟩ => ?_)
  refine thn (po_none.run pins s2 σ H2 (fun o H3 => o = none ∧ H3 = H2) I2 ⟨rfl, rfl⟩) fun vup s3 ⟨u, H3, I3, pup, eup, e3⟩ => ?_
  subst eup e3
  refine thn (hs.run pins s3 σ H3 _ I3 q2) fun vst s4 ⟨o, H4, I4, pst, q4⟩ => ?_
  obtain ⟨a, xs, ex, hx, n0, q⟩ := q4
  subst ex
  cases rx
  have I5 : Inv X pins σ H4 { s4 with heap := s4.heap.push { cls := .type "slice", data := .fields #[vlo, vup, vst] } } := I4.kept (t' := s4.toks) fun c oc g => Heap.get?_push_of_some _ g
  obtain ⟨its, r, ht, hz⟩ := I5.list hx
  have hlen := r.length
  refine tail_any (ops := [.ref a, .ref s4.heap.objs.size]) ht.isList.typeIs (PySem.slot_list_getitem.lookup) ?_ (by with_unfolding_all rfl)
  have ez : its.toArray.size = xs.length := by rw [List.size_toArray, hlen]
  refine wpAny_getItem_list_slice ht.isList (Heap.IsSliceOf.new _ vlo vup vst) plo pup pst n0 ?_ (by rw [ez]; exact hz)
  have ep : slicePick its.toArray l none o = ((sliceRange (sliceBounds l none o xs.length).1 (sliceBounds l none o xs.length).2.1 (sliceBounds l none o xs.length).2.2).filterMap (its[·]?)).toArray := by
    unfold slicePick
    rw [ez]
    congr 1
    refine congrArg (fun f => List.filterMap f _) (funext fun i => ?_)
    simp
  rw [ep]
  refine ⟨.ref _, _, I5.laid (t' := s4.toks) (o := .lst (pickL xs l o)) (fun c oc g => Heap.get?_push_of_some _ g) (Nat.le_refl _) ?_, rfl, q _ (I5.hok.fresh (Nat.le_refl _))⟩
  exact ⟨Nat.le_trans (pick_len xs l o) hz, _, 0, pick_vals r _, Heap.get?_push_size _ rfl⟩
end
theorem pick_map {α β : Type} (f : α → β) (xs : List α) (lo st : Option Int) : pickL (xs.map f) lo st = (pickL xs lo st).map f := by
  unfold pickL
  rw [List.length_map, List.map_filterMap]
  refine congrArg (fun g => List.filterMap g _) (funext fun i => ?_)
  rw [List.getElem?_map]
theorem kn_pick : ∀ n, n < 10 → pickL (up n) none (some 2) = evens n ∧ pickL (up n) (some 1) (some 2) = odds n := by decide +kernel
theorem pairs_of {H : Hp} : ∀ {ys : List V} {g : Nat → Str × Str}, (∀ j y, ys[j]? = some y → ∃ T, y = .ref T ∧ H T = some (.tup [.str (g j).1, .str (g j).2])) → ∃ bs : List B3, ys = refs bs ∧ PairsAt H bs ∧ bs.map (·.2) = (List.range ys.length).map g
  | [], _, _ => ⟨[], rfl, (fun _ h => nomatch h), rfl⟩
  | y :: ys, g, h => by
    obtain ⟨T, rfl, e⟩ := h 0 y rfl
    obtain ⟨bs, e1, e2, e3⟩ := pairs_of (ys := ys) (g := fun j => g (j + 1)) fun j z hz => h (j + 1) z hz
    refine ⟨(T, g 0) :: bs, by rw [e1]; rfl, fun b hb => ?_, ?_⟩
    · rcases List.mem_cons.mp hb with rfl | hb
      · exact e
      · exact e2 b hb
    · rw [List.map_cons, e3, List.length_cons, List.range_succ_eq_map, List.map_cons, List.map_map]
      rfl
theorem pairs_map {bs : List B3} {es : List (Nat × Nat)} {f : Nat → Str} (e : bs.map (·.2) = es.map fun e => (f e.1, f e.2)) : (bs.map fun b => mk2 b.2.1 b.2.2) = mkE f es := by
  have h : (bs.map fun b => mk2 b.2.1 b.2.2) = (bs.map (·.2)).map fun p => mk2 p.1 p.2 := by rw [List.map_map]; rfl
  rw [h, e, List.map_map]
  rfl
theorem evE_succ (n : Nat) : evE (n + 1) = evE n ++ (List.range n).map fun j => (n, j) := by
  unfold evE
  rw [List.range_succ, List.flatMap_append]
  simp
theorem evE_len : ∀ n, n < 11 → (evE n).length ≤ 45 := by decide +kernel
theorem rest_drop (n : Nat) : (up n).drop 1 = rest n := by
  unfold up rest
  refine List.ext_getElem? fun i => ?_
  rw [List.getElem?_drop, List.getElem?_map]
  rcases Nat.lt_or_ge (i + 1) n with c | c
  · rw [List.getElem?_range (by omega), List.getElem?_range (by omega)]
    show some (1 + i) = some (i + 1)
    rw [Nat.add_comm]
  · rw [List.getElem?_eq_none (by rw [List.length_range]; omega), List.getElem?_eq_none (by rw [List.length_range]; omega)]
    rfl
theorem pairsN_of {H : Hp} : ∀ {ys : List V} {g : Nat → Str × Nat}, (∀ j y, ys[j]? = some y → ∃ T, y = .ref T ∧ H T = some (.tup [.str (g j).1, .int ((g j).2 : Nat)])) → ∃ bs : List B3N, ys = refsN bs ∧ PairsN H bs ∧ bs.map (·.2) = (List.range ys.length).map g
  | [], _, _ => ⟨[], rfl, (fun _ h => nomatch h), rfl⟩
  | y :: ys, g, h => by
    obtain ⟨T, rfl, e⟩ := h 0 y rfl
    obtain ⟨bs, e1, e2, e3⟩ := pairsN_of (ys := ys) (g := fun j => g (j + 1)) fun j z hz => h (j + 1) z hz
    refine ⟨(T, g 0) :: bs, by rw [e1]; rfl, fun b hb => ?_, ?_⟩
    · rcases List.mem_cons.mp hb with rfl | hb
      · exact e
      · exact e2 b hb
    · rw [List.map_cons, e3, List.length_cons, List.range_succ_eq_map, List.map_cons, List.map_map]
      rfl
theorem zip_range (xs : List Str) : (List.range xs.length).map (fun j => ((xs[j]?.getD ("" : Str), j) : Str × Nat)) = xs.zipIdx := by
  refine List.ext_getElem? fun i => ?_
  rw [List.getElem?_map, List.getElem?_zipIdx]
  rcases Nat.lt_or_ge i xs.length with c | c
  · rw [List.getElem?_range c, List.getElem?_eq_getElem c]
    simp [c]
  · rw [List.getElem?_eq_none (by rw [List.length_range]; exact c), List.getElem?_eq_none c]
    rfl
end Lk
set_option maxRecDepth 100000
set_option maxHeartbeats 4000000
namespace Lk
open PySem PySem.Spec PyProof.Rows L2
def topS (i : Nat) : Stmt := PySem.Challenge.pw_letinrow_k12_known_rows.main.body.getD i (.Pass ⟨0, 0, 0, 0⟩)
section
variable {P : Program} {w : World} {K : PySem.W.Frag} {mg : Str → Option Value} {base : Heap}
/-! ### _law_take -/
abbrev sTake : Stmt := topS 35
theorem scTake : FnScope ["_law_box_here", "_law_many", "_law_found", "_law_blend"] ["_law_box_here", "_law_many"] (defScope sTake) := ⟨rfl, rfl, rfl, by decide +kernel, rfl, by decide +kernel, by decide +kernel⟩
theorem ok_take {f : Addr} {fd : FuncData} (F : Fun K "_law_take" "_law_take" sTake f fd) : FnOk P w K mg base CX0 1 f fd ["_law_box_here", "_law_many"] spTake := by
  refine fok F scTake (fun vs H Q E h => ?_) (fun cdv A outer s H vs Q E hr h => ?_)
  · obtain ⟨b, many, rfl, _⟩ := h
    rfl
  obtain ⟨b, many, rfl, ⟨x, y, z, hb⟩, h0, h1, q⟩ := h
  refine ⟨_, pss_cons (ps_if (pt_cmpR op_gt (pe_ix ix_list (pv 0) pe_int (fun _ _ => rfl)) pe_int (nomark _))
      (pss_cons (ps_set (i := 2) scTake.nd rfl (.inl rfl) (pe_op op_mod (pe_ix ix_list (pv 0) pe_int (fun _ _ => rfl)) (pv 1)))
      (pss_cons (ps_asg (pe_op op_fdiv (pe_ix ix_list (pv 0) pe_int (fun _ _ => rfl)) (pv 1)) (pg_sub (pv 0) pe_int set_list))
      (pss_one (ps_ret (pv 2))))) pss_nil)
    (pss_cons (ps_asg (pe_op op_add (pe_ix ix_list (pv 0) pe_int (fun _ _ => rfl)) pe_int) (pg_sub (pv 0) pe_int set_list))
    (pss_cons (ps_set (i := 3) scTake.nd rfl (.inl rfl) (pe_op op_mod (pe_op op_add (pe_ix ix_list (pv 0) pe_int (fun _ _ => rfl)) (pe_op op_mul pe_int (pe_ix ix_list (pv 0) pe_int (fun _ _ => rfl)))) pe_int))
    (pss_cons (ps_set (i := 3) scTake.nd rfl (.inl rfl) (pe_op op_mod (pe_op op_add (pe_op op_add (pe_op op_mul (pv 3) (pv 3)) (pe_op op_mul pe_int (pe_ix ix_list (pv 0) pe_int (fun _ _ => rfl)))) pe_int) pe_int))
    (pss_cons (ps_set (i := 3) scTake.nd rfl (.inl rfl) (pe_op op_mod (pe_op op_add (pe_op op_mul (pv 3) (pe_op op_add (pe_op op_fdiv (pv 3) pe_int) pe_int)) (pe_ix ix_list (pv 0) pe_int (fun _ _ => rfl))) pe_int))
    (pss_one (ps_ret (pe_op op_mod (pe_op op_fdiv (pv 3) pe_int) (pv 1)))))))), ?_⟩
  have hL : SqL K H b [.int x, .int y, .int z] := .inl (.inl hb)
  refine ⟨.ref b, rfl, b, _, 0, _, rfl, rfl, hL, atI_nat (j := 0) rfl, _, _, rfl, rfl, _, rfl, ?_⟩
  refine ite2 (fun c => ?_) (fun c => ?_)
  · refine ⟨.ref b, rfl, b, _, 0, _, rfl, rfl, hL, atI_nat (j := 0) rfl, _, rfl, _, _, rfl, rfl, h0, ?_⟩
    refine ⟨.ref b, rfl, b, _, 0, _, rfl, rfl, hL, atI_nat (j := 0) rfl, _, rfl, _, _, rfl, rfl, ⟨h0, h1⟩, ?_⟩
    refine ⟨.ref b, rfl, b, _, 0, 0, rfl, rfl, hb, rfl, ?_⟩
    exact ⟨_, rfl, q _ _ Oth.upd ⟨_, _, _, upd_same⟩ (Int.emod_nonneg _ (by omega)) (Int.emod_lt_of_pos _ h0)⟩
  · refine ⟨.ref b, rfl, b, _, 2, _, rfl, rfl, hL, atI_nat (j := 2) rfl, _, _, rfl, rfl, ?_⟩
    refine ⟨.ref b, rfl, b, _, 2, 2, rfl, rfl, hb, rfl, ?_⟩
    have hU : upd H b (.lst ([.int x, .int y, .int z].set 2 (.int (z + 1)))) b = some (.lst [.int x, .int y, .int (z + 1)]) := upd_same
    have hL2 : SqL K (upd H b (.lst ([.int x, .int y, .int z].set 2 (.int (z + 1))))) b [.int x, .int y, .int (z + 1)] := .inl (.inl hU)
    refine ⟨.ref b, rfl, b, _, 1, _, rfl, rfl, hL2, atI_nat (j := 1) rfl, .ref b, rfl, b, _, 2, _, rfl, rfl, hL2, atI_nat (j := 2) rfl, _, _, rfl, rfl, .inl (by decide), _, _, rfl, rfl, _, _, rfl, rfl, (by show (0 : Int) < 2305843009213693951; decide), ?_⟩
    generalize hm1 : (y + 1442695040888963407 * (z + 1)) % 2305843009213693951 = m1
    have b1 : 0 ≤ m1 ∧ m1 < 2305843009213693951 := by
      rw [← hm1]
      exact ⟨Int.emod_nonneg _ (by decide), Int.emod_lt_of_pos _ (by decide)⟩
    refine ⟨_, rfl, _, rfl, _, _, rfl, rfl, .inl ⟨by omega, by omega⟩, .ref b, rfl, b, _, 2, _, rfl, rfl, hL2, atI_nat (j := 2) rfl, _, _, rfl, rfl, .inl (by decide), _, _, rfl, rfl, _, _, rfl, rfl, _, _, rfl, rfl, (by show (0 : Int) < 2305843009213693921; decide), ?_⟩
    generalize hm2 : (m1 * m1 + 39373 * (z + 1) + 7) % 2305843009213693921 = m2
    have b2 : 0 ≤ m2 ∧ m2 < 2305843009213693921 := by
      rw [← hm2]
      exact ⟨Int.emod_nonneg _ (by decide), Int.emod_lt_of_pos _ (by decide)⟩
    refine ⟨_, rfl, _, rfl, _, _, rfl, rfl, ⟨by decide, by decide⟩, _, _, rfl, rfl, _, _, rfl, rfl, .inl ⟨by omega, by omega⟩, .ref b, rfl, b, _, 2, _, rfl, rfl, hL2, atI_nat (j := 2) rfl, _, _, rfl, rfl, _, _, rfl, rfl, (by show (0 : Int) < 2305843009213693907; decide), ?_⟩
    generalize (m2 * (m2 / 65536 + 3) + (z + 1)) % 2305843009213693907 = m3
    refine ⟨_, rfl, _, _, rfl, rfl, ⟨by decide, by decide⟩, _, rfl, _, _, rfl, rfl, h0, ?_⟩
    exact q _ _ Oth.upd ⟨_, _, _, upd_same⟩ (Int.emod_nonneg _ (by omega)) (Int.emod_lt_of_pos _ h0)
/-! ### _law_box -/
abbrev sBox : Stmt := topS 34
theorem scBox : FnScope ["_law_cells_here", "_law_k", "_law_cell"] ["_law_cells_here", "_law_k"] (defScope sBox) := ⟨rfl, rfl, rfl, by decide +kernel, rfl, by decide +kernel, by decide +kernel⟩
theorem ok_box {f : Addr} {fd : FuncData} (B : Blt mg) (F : Fun K "_law_box" "_law_box" sBox f fd) : FnOk P w K mg base CX0 1 f fd ["_law_cells_here", "_law_k"] spBox := by
  refine fok F scBox (fun vs H Q E h => ?_) (fun cdv A outer s H vs Q E hr h => ?_)
  · obtain ⟨a, ns, k, rfl, _⟩ := h
    rfl
  obtain ⟨a, ns, k, rfl, ha, hk, hk2, q⟩ := h
  refine ⟨_, pss_cons (ps_set (i := 2) scBox.nd rfl (.inl rfl) (pe_ix ix_list (pv 0) (pv 1) (fun _ _ => rfl)))
    (pss_one (ps_ret (pe_lst (pa_cons (pe_op op_mul (pe_callB call_abs (by rfl) B.abs (by decide +kernel) (pa_cons (pv 2) pa_nil)) (pe_callTy call_int1 (by rfl) B.int (by decide +kernel) (pa_cons (pe_cmpR op_ge (pe_callB call_abs (by rfl) B.abs (by decide +kernel) (pa_cons (pv 2) pa_nil)) (pe_op op_pow pe_int pe_int) (nomark _)) pa_nil)))
      (pa_cons (pe_op op_add (pe_op op_add (pe_op op_mod (pv 2) pe_int) (pe_op op_mul pe_int (pv 1))) pe_int) (pa_cons pe_int pa_nil)))))), ?_⟩
  obtain ⟨c, hc⟩ : ∃ c, ns[k]? = some c := ⟨ns[k], List.getElem?_eq_getElem hk⟩
  refine ⟨.ref a, rfl, .int k, rfl, a, _, k, .int c, rfl, rfl, .inl (.inl ha), atI_nat (ix_map hc), ?_⟩
  refine ⟨_, rfl, _, rfl, _, rfl, _, rfl, _, _, rfl, rfl, ⟨by decide, by decide, by decide⟩, _, _, rfl, rfl, .inr ⟨_, rfl, _, _, rfl, rfl, .inr (bit01 _), ?_⟩⟩
  refine ⟨_, rfl, _, _, rfl, rfl, (by show (0 : Int) < 2305843009213693951; decide), _, rfl, _, _, rfl, rfl, .inl (by decide), _, _, rfl, rfl, _, _, rfl, rfl, (by show 3 ≤ sizeLine; decide), fun p hp => ?_⟩
  exact q p _ (same_upd hp) hp ⟨_, _, _, upd_same⟩
/-! ### _law_cells -/
abbrev sCells : Stmt := topS 36
theorem scCells : FnScope ["_law_script", "_law_utmost", "_law_cells_here", "_law_k", "_law_cell"] ["_law_script", "_law_utmost"] (defScope sCells) := ⟨rfl, rfl, rfl, by decide +kernel, rfl, by decide +kernel, by decide +kernel⟩
theorem ok_cells {f : Addr} {fd : FuncData} (B : Blt mg) (F : Fun K "_law_cells" "_law_cells" sCells f fd) : FnOk P w K mg base CX0 1 f fd ["_law_script", "_law_utmost"] (spCells K) := by
  refine fok F scCells (fun vs H Q E h => ?_) (fun cdv A outer s H vs Q E hr h => ?_)
  · obtain ⟨a, ns, k, rfl, _⟩ := h
    rfl
  obtain ⟨a, ns, u, rfl, ha, hn, h0, h3, q⟩ := h
  refine ⟨_, pss_cons (ps_set (i := 2) scCells.nd rfl (.inl rfl) (pe_orT (pe_callTy call_list_of (by rfl) B.list (by decide +kernel) (pa_cons (pe_slice sl_list (pv 0) po_none (po_some (pv 1))) pa_nil)) (pe_one (pe_lst (pa_cons pe_int pa_nil)))))
    (pss_cons (ps_for PassesOwn.never rfl (pi_enum (by rfl) B.enumerate (pa_cons (pe_slice sl_list (pv 0) (po_some (pv 1)) (po_some pe_int)) pa_nil))
        (pg_tup rfl (pgs_cons (pg_name (i := 3) scCells.nd rfl (.inl rfl)) (pgs_cons (pg_name (i := 4) scCells.nd rfl (.inl rfl)) pgs_nil)))
      (pss_one (ps_asg (pe_op op_add (pe_ix ix_list (pv 2) (pe_op op_mod (pv 3) (pv 1)) (fun _ _ => rfl)) (pe_op op_mul (pv 4) (pe_op op_add (pv 3) pe_int))) (pg_sub (pv 2) (pe_op op_mod (pv 3) (pv 1)) set_list))))
    (pss_one (ps_ret (pv 2)))), ?_⟩
  -- what follows once cells stand at c
  have rest : ∀ (c : Addr) (ms : List Int) (H1 : Hp), Same H H1 → H c = none → H1 c = some (.lst (ms.map V.int)) → 0 < ms.length → ms.length ≤ 3 → (u < ns.length → ms.length = u) → ∀ (D : Ends) , D.rt = Q → 
      (tSeq (tFor (iEnum K (tCons (tSl (rSlL K) (tVar 0) (tPart (tVar 1)) (tPart (tC (.int 63)))) tNil)) (gTup K 2 (gCons (gName 3) (gCons (gName 4) gNil))) (tAsg (tOp (rI0 fun i j => .int (i + j)) (tOp (rIxL K) (tVar 2) (tOp (rI (fun _ j => 0 < j) fun i j => .int (i % j)) (tVar 3) (tVar 1))) (tOp (rI CMul fun i j => .int (i * j)) (tVar 4) (tOp (rI0 fun i j => .int (i + j)) (tVar 3) (tC (.int 2))))) (gSub (tVar 2) (tOp (rI (fun _ j => 0 < j) fun i j => .int (i % j)) (tVar 3) (tVar 1)) rSetL))) (tRet (tVar 2))) D [some (.ref a), some (.int u), some (.ref c), none, none] H1 := by
    intro c ms H1 s1 nc hc m0 m3 mu D hD
    refine ⟨.ref a, rfl, _, rfl, u, rfl, 63, rfl, a, _, rfl, s1.seq ha, fun p hp => ?_⟩
    have s2 : Same H1 (upd H1 p (.lst (cutV (ns.map V.int) (some u) (some 63)))) := same_upd hp
    have npc : c ≠ p := ne_of_none hc hp
    rw [cutV_map]
    generalize hr2 : cutL ns (some (u : Int)) (some 63) = r2
    refine ⟨p, r2.map V.int, rfl, .inl (.inl upd_same), ?_⟩
    refine for_it (walk_enum (xs := r2.map V.int)) (fun i σ H3 => ∃ (y3 y4 : Option V) (ms' : List Int), σ = [some (.ref a), some (.int u), some (.ref c), y3, y4] ∧ Same H H3 ∧ H3 p = some (.lst (r2.map V.int)) ∧ H3 c = some (.lst (ms'.map V.int)) ∧ ms'.length = ms.length) ?_ ?_ ?_ ?_
    · exact ⟨none, none, ms, rfl, s1.trans (same_upd hp), upd_same, (upd_ne npc).trans hc, rfl⟩
    · rintro i σ H3 _ ⟨y3, y4, ms', rfl, e1, e2, e3, e4⟩
      exact .inl (.inl e2)
    · rintro i x σ H3 H4 hi ⟨y3, y4, ms', rfl, e1, e2, e3, e4⟩ ⟨T, x1, x2, rfl, nT, rfl, f1, f2⟩
      cases f1
      obtain ⟨z, hz, rfl⟩ := at_map f2
      rw [List.length_map] at hi
      have hun : u < ns.length := cutL_has (k := u) (hi := some 63) (by rw [hr2]; omega)
      have hml := mu hun
      have nTc : c ≠ T := ne_of_none e3 nT
      have nTp : p ≠ T := ne_of_none e2 nT
      refine ⟨T, _, rfl, .inl (.inl upd_same), rfl, _, _, rfl, _, _, rfl, rfl, ?_⟩
      have hlt : i % u < ms'.length := by
        rw [e4, hml]
        exact Nat.mod_lt _ h0
      have e3' : upd H3 T (.tup [.int (i : Nat), .int z]) c = some (.lst (ms'.map V.int)) := (upd_ne nTc).trans e3
      have eim : ((i : Int) % (u : Int)) = ((i % u : Nat) : Int) := (Int.natCast_emod i u).symm
      have hi2 : i < 63 := by
        have q1 := cutL_le ns (some (u : Int)) (some 63)
        rw [hr2] at q1
        omega
      refine ⟨.ref c, rfl, _, rfl, _, rfl, _, _, rfl, rfl, (by show (0 : Int) < u; omega), c, _, _, .int ms'[i % u], rfl, rfl, .inl (.inl e3'), (by rw [eim]; exact atI_nat (ix_map (List.getElem?_eq_getElem hlt))), ?_⟩
      refine ⟨_, rfl, _, rfl, _, _, rfl, rfl, _, _, rfl, rfl, .inr ⟨by omega, by omega⟩, _, _, rfl, rfl, ?_⟩
      refine ⟨.ref c, rfl, _, rfl, _, rfl, _, _, rfl, rfl, (by show (0 : Int) < u; omega), c, _, _, i % u, rfl, rfl, e3', ?_, ?_⟩
      · rw [eim, List.length_map]
        unfold ixN
        rw [if_pos (by omega), if_pos (by omega), Int.toNat_natCast]
      · refine ⟨_, _, ms'.set (i % u) (ms'[i % u] + z * ((i : Int) + 2)), rfl, fun b o e => ?_, ?_, ?_, ?_⟩
        · rw [upd_ne (ne_of_none e nc)]
          exact same_upd nT _ _ (e1 b o e)
        · rw [upd_ne (Ne.symm npc), upd_ne nTp]
          exact e2
        · rw [upd_same, ← set_map]
        · rw [List.length_set]
          exact e4
    · rintro σ H3 ⟨y3, y4, ms', rfl, e1, e2, e3, e4⟩
      refine ⟨.ref c, rfl, ?_⟩
      rw [hD]
      exact q c ms' H3 e1 nc e3 (by omega) (by omega)
  -- cells = list(script[:u]) or [0]
  refine ⟨.ref a, rfl, .int u, rfl, u, rfl, a, _, rfl, ha, fun p hp => ?_⟩
  rw [cutV_map, cutL_to]
  refine ⟨p, _, rfl, .inl (.inl (.inl upd_same)), fun l hl => ?_⟩
  have s2 : Same H (upd H p (.lst ((ns.take u).map V.int))) := same_upd hp
  have s3 := s2.trans (same_upd (o := .lst ((ns.take u).map V.int)) hl)
  refine ⟨_, .inl ⟨_, .inl (.inl upd_same), rfl⟩, ?_⟩
  refine ite2 (fun z => ?_) (fun z => ?_)
  · have hne : 0 < ns.length := by
      cases ns with
      | nil => rw [List.take_nil] at z; cases z
      | cons n r => exact Nat.succ_pos _
    refine rest l (ns.take u) _ s3 (s2.free hl) upd_same ?_ ?_ ?_ _ rfl
    · rw [List.length_take]
      omega
    · rw [List.length_take]
      omega
    · intro z
      rw [List.length_take]
      omega
  · have hne : ns.length = 0 := by
      cases ns with
      | nil => rfl
      | cons n r =>
        have e : u = (u - 1) + 1 := by omega
        rw [e, List.take_succ_cons] at z
        exact absurd rfl z
    refine ⟨(by show 1 ≤ sizeLine; decide), fun c hc => ?_⟩
    exact rest c [0] _ (s3.trans (same_upd hc)) (s3.free hc) upd_same (by decide) (by decide) (fun z => absurd z (by omega)) _ rfl
/-! ### _law_names -/
abbrev sNames : Stmt := topS 37
abbrev nNames : List Str := ["_law_box_here", "_law_many", "_law_letters", "_law_first", "_law_found", "_law_stem", "_law_step", "_law_few", "_law_k", "_law_cut", "_law_name", "_law_turn"]
theorem scNames : FnScope nNames ["_law_box_here", "_law_many"] (defScope sNames) := ⟨rfl, rfl, rfl, by decide +kernel, rfl, by decide +kernel, by decide +kernel⟩
theorem ok_names {f : Addr} {fd : FuncData} (B : Blt mg) (CT : Cal P w K mg base 1 "_law_take" ["_law_box_here", "_law_many"] spTake) (F : Fun K "_law_names" "_law_names" sNames f fd) : FnOk P w K mg base CX0 2 f fd ["_law_box_here", "_law_many"] spNames := by
  refine fok F scNames (fun vs H Q E h => ?_) (fun cdv A outer s H vs Q E hr h => ?_)
  · obtain ⟨b, many, rfl, _⟩ := h
    rfl
  obtain ⟨b, many, rfl, hb, hm, q⟩ := h
  refine ⟨_, pss_cons (ps_asg (pe_tup (pa_cons pe_str (pa_cons (pe_cal CT hr (pa_cons (pv 0) (pa_cons pe_int pa_nil))) (pa_cons (pe_lst pa_nil) pa_nil)))) (pg_tup rfl (pgs_cons (pg_name (i := 2) scNames.nd rfl (.inr rfl)) (pgs_cons (pg_name (i := 3) scNames.nd rfl (.inl rfl)) (pgs_cons (pg_name (i := 4) scNames.nd rfl (.inl rfl)) pgs_nil)))))
    (pss_cons (ps_set (i := 5) scNames.nd rfl (.inl rfl) (pe_join pe_str
      (pe_lc (own := [("_law_turn", 11)]) (g := gName 11) (tt := tYes) rfl scNames.nd (pi_range1 (by rfl) B.range (pa_cons (pe_cal CT hr (pa_cons (pv 0) (pa_cons pe_int pa_nil))) pa_nil)) (blkOk_by (N := nNames) (sc := defScope sNames) (by decide +kernel)) (fun _ _ _ _ _ => pg_name (i := 11) scNames.nd rfl (Or.inl rfl)) (fun _ _ _ _ _ => pts_nil)
        (fun _ _ _ _ _ => pe_ix ix_str (pv 2) (pe_cal CT hr (pa_cons (pv 0) (pa_cons pe_int pa_nil))) (fun _ _ => rfl)))))
    (pss_cons (ps_par (i := 6) (j := 7) (by rfl) scNames.nd rfl rfl (by decide) rfl rfl (pa_cons (pe_ix ix_list (pe_lst (pa_cons pe_int (pa_cons pe_int (pa_cons pe_int (pa_cons pe_int pa_nil))))) (pe_cal CT hr (pa_cons (pv 0) (pa_cons pe_int pa_nil))) (fun _ _ => rfl)) (pa_cons (pe_callTy call_int1 (by rfl) B.int (by decide +kernel) (pa_cons (pe_cmpR op_eq (pe_op op_mod (pv 3) pe_int) pe_int (nomark _)) pa_nil)) pa_nil)) (by rfl))
    (pss_cons (ps_for PassesOwn.never rfl (pi_range1 (by rfl) B.range (pa_cons (pv 1) pa_nil)) (pg_name (i := 8) scNames.nd rfl (.inl rfl))
      (pss_cons (ps_set (i := 9) scNames.nd rfl (.inl rfl) (pe_op op_sub (pe_callB call_len_str (by rfl) B.len PySem.boot_len (pa_cons (pv 5) pa_nil)) (pe_op op_mul (pv 7) (pe_op op_mod (pv 8) pe_int))))
      (pss_cons (ps_set (i := 10) scNames.nd rfl (.inl rfl) (pe_op op_add_str (pe_slice sl_str (pv 5) po_none (po_some (pv 9))) (pe_ix ix_str (pv 2) (pe_op op_mod (pe_op op_add (pv 3) (pe_op op_mul (pv 6) (pv 8))) pe_int) (fun _ _ => rfl))))
      (pss_one (ps_expr (pe_bm PySem.F.plainAttrs_list PySem.F.slot_list_insert PySem.F.type_list_insert mt_insert (pv 4) (pa_cons (pe_cal CT hr (pa_cons (pv 0) (pa_cons (pe_op op_add (pe_callB call_len_seq (by rfl) B.len PySem.boot_len (pa_cons (pv 4) pa_nil)) pe_int) pa_nil))) (pa_cons (pv 10) pa_nil))))))))
    (pss_one (ps_ret (pv 4)))))), ?_⟩
  -- letters, first, found
  refine ⟨.ref b, rfl, b, 26, rfl, hb, by decide, by decide, fun first H1 o1 b1 f0 f1 => ⟨(by show 0 ≤ sizeLine; decide), fun l hl => ?_⟩⟩
  refine ⟨(by show 3 ≤ sizeLine; decide), fun t ht => ?_⟩
  have nlb : l ≠ b := b1.ne_none hl
  have ntl : t ≠ l := fun z => by rw [z, upd_same] at ht; cases ht
  have ntb : t ≠ b := fun z => by
    rw [z, upd_ne (Ne.symm nlb)] at ht
    exact b1.ne_none ht rfl
  have nl : H l = none := o1.free nlb hl
  refine ⟨t, _, rfl, .inl (.inl upd_same), rfl, _, _, rfl, _, _, rfl, _, _, rfl, rfl, ?_⟩
  dsimp only
  generalize hH2 : upd (upd H1 l (.lst [])) t (.tup [.str (Str.ofString "abcdefghijklmnopqrstuvwxyz"), .int first, .ref l]) = H2
  have o2 : Oth b H H2 := o1.trans (fun a o n e => by
    rw [← hH2]
    exact same_upd ht _ _ (same_upd hl _ _ e))
  have b2 : IsBox H2 b := by
    rw [← hH2]
    exact (b1.same (same_upd hl)).same (same_upd ht)
  have l2 : H2 l = some (.lst []) := by
    rw [← hH2, upd_ne (Ne.symm ntl), upd_same]
  -- stem
  refine ⟨⟨_, rfl⟩, .ref b, rfl, b, 8, rfl, b2, by decide, by decide, fun n H3 o3 b3 n0 n1 => ⟨n, rfl, by omega, by omega, fun D hD => ?_⟩⟩
  have nDb : D ≠ b := b3.ne_none hD
  have l3 : H3 l = some (.lst []) := o3 _ _ nlb l2
  have nDl : l ≠ D := ne_of_none l3 hD
  refine lc_it (walk_range (lo := 0) (n := n.toNat)) (fun i H' => ∃ ys : List Str, Oth b H H' ∧ IsBox H' b ∧ H' l = some (.lst []) ∧ H' D = some (.lst (ys.map V.str)) ∧ ys.length = i ∧ ∀ y ∈ ys, IsOne y) ?_ (fun _ _ _ _ => trivial) ?_ ?_
  · refine ⟨[], fun a o na e => ?_, b3.same (same_upd hD), (upd_ne nDl).trans l3, upd_same, rfl, fun _ h => nomatch h⟩
    exact same_upd hD _ _ (o3 _ _ na (o2 _ _ na e))
  · rintro i x H4 H5 hi ⟨ys, o4, b4, l4, d4, y1, y2⟩ ⟨rfl, rfl⟩
    refine ⟨rfl, ⟨.str abc, rfl, .ref b, rfl, b, 26, rfl, b4, by decide, by decide, fun v H6 o6 b6 v0 v1 => ⟨abc, v, 97 + v.toNat, rfl, rfl, (by rw [abc_len]; decide), abc_ix v0 v1, ys.map V.str, o6 _ _ nDb d4, ?_, ?_⟩⟩⟩
    · rw [List.length_map]
      exact small1000 (by omega)
    · have s6 : ∀ a o, a ≠ D → H6 a = some o → upd H6 D (.lst (ys.map V.str ++ [.str ⟨#[97 + v.toNat]⟩])) a = some o := fun a o na e => by rw [upd_ne na]; exact e
      refine ⟨ys ++ [⟨#[97 + v.toNat]⟩], fun a o na e => ?_, ?_, s6 _ _ nDl (o6 _ _ nlb l4), ?_, ?_, ?_⟩
      · have q6 := o6 _ _ na (o4 _ _ na e)
        by_cases z : a = D
        · subst z
          have q3 := o3.free nDb hD
          rw [o2 _ _ na e] at q3
          cases q3
        · exact s6 _ _ z q6
      · obtain ⟨i1, i2, i3, e⟩ := b6
        exact ⟨i1, i2, i3, s6 _ _ (Ne.symm nDb) e⟩
      · rw [upd_same, List.map_append]
        rfl
      · rw [List.length_append, y1]
        rfl
      · intro y hy
        rcases List.mem_append.mp hy with z | z
        · exact y2 y z
        · have e : y = ⟨#[97 + v.toNat]⟩ := by simpa using z
          exact ⟨v.toNat, by omega, e⟩
  · rintro H4 ⟨ys, o4, b4, l4, d4, y1, y2⟩
    have z1 := ones_len y2
    refine ⟨_, D, ys, rfl, rfl, .inl (.inl (.inl d4)), ?_, ?_⟩
    · rw [z1]
      have z2 : (Str.ofString "").length = 0 := by decide +kernel
      rw [z2]
      omega
    have w1 := ones_flat y2
    rw [← join0] at w1
    generalize Txt.join (Str.ofString "") ys = stem at w1
    have w2 : (tlx stem).length ≤ 7 := by rw [w1.1]; omega
    have w3 : Low (tlx stem) := w1.2
    clear w1 z1
    -- step, few
    refine ⟨(by show 4 ≤ sizeLine; decide), fun p hp => ⟨.ref b, rfl, b, 4, rfl, b4.same (same_upd hp), by decide, by decide, fun v H5 o5 b5 v0 v1 => ?_⟩⟩
    obtain ⟨step, hst, hat⟩ := menu4 v0 v1
    have npb : p ≠ b := b4.ne_none hp
    have o5' : Oth b H H5 := fun a o na e => o5 _ _ na (same_upd hp _ _ (o4 _ _ na e))
    have l5 : H5 l = some (.lst []) := o5 _ _ nlb (same_upd hp _ _ l4)
    refine ⟨p, _, v, .int step, rfl, rfl, .inl (.inl (o5 _ _ npb upd_same)), hat, ?_⟩
    refine ⟨.int first, rfl, _, _, rfl, rfl, (by show (0 : Int) < 4; decide), rfl, .inr ⟨_, rfl, _, _, rfl, ?_⟩⟩
    generalize hk : (decide (V.int (first % 4) = V.int 3)) = kf
    have hf := bit2 kf
    generalize (if kf = true then 1 else 0 : Int) = few at hf
    -- the loop
    refine ⟨.int many, rfl, many, rfl, by omega, by omega, ?_⟩
    refine for_it (walk_range (lo := 0) (n := (many : Int).toNat)) (fun i σ H' => ∃ (y8 y9 y10 y11 : Option V) (names : List Str), σ = [some (.ref b), some (.int many), some (.str abc), some (.int first), some (.ref l), some (.str stem), some (.int step), some (.int few), y8, y9, y10, y11] ∧ Oth b H H' ∧ IsBox H' b ∧ H' l = some (.lst (names.map V.str)) ∧ names.length = i ∧ names.Nodup ∧ ∀ x ∈ names, NameOk x ∧ ∃ j : Nat, j < i ∧ lastC x = some (97 + ((first + step * (j : Int)) % 26).toNat)) ?_ (fun _ _ _ _ _ => trivial) ?_ ?_
    · exact ⟨_, _, _, _, [], rfl, o5', b5, l5, rfl, List.nodup_nil, fun _ h => nomatch h⟩
    · rintro i x σ H7 H6 hi ⟨y8, y9, y10, y11, names, rfl, o6, b6, l6, m1, m2, m3⟩ ⟨rfl, rfl⟩
      have hi2 : i < 26 := by omega
      have hsl : stem.length ≤ sizeLine := by rw [len_tlx]; exact small_le (by omega)
      refine ⟨_, rfl, _, rfl, hsl, _, rfl, _, rfl, _, _, rfl, rfl, (by show (0 : Int) < 3; decide), _, _, rfl, rfl, .inl ⟨by omega, by omega⟩, _, _, rfl, rfl, ?_⟩
      dsimp only
      generalize (stem.length : Int) - few * ((0 + (i : Int)) % 3) = cut
      have c0 : 0 ≤ (first + step * (0 + (i : Int))) % 26 := Int.emod_nonneg _ (by decide)
      have c1 : (first + step * (0 + (i : Int))) % 26 < 26 := Int.emod_lt_of_pos _ (by decide)
      refine ⟨_, rfl, _, rfl, cut, rfl, stem, rfl, hsl, _, rfl, _, rfl, _, rfl, _, rfl, _, _, rfl, rfl, ?_, _, _, rfl, rfl, _, _, rfl, rfl, (by show (0 : Int) < 26; decide), abc, _, _, rfl, rfl, (by rw [abc_len]; decide), abc_ix c0 c1, _, _, rfl, rfl, ?_, ?_⟩
      · rcases hst with rfl | rfl | rfl | rfl <;> exact .inl (by decide)
      · rw [len_tlx, cutS_tlx]
        have z := cutL_le (tlx stem) none (some cut)
        exact small_le (by show _ + 1 ≤ 1000; omega)
      rw [Int.zero_add] at c0 c1 ⊢
      have nok : NameOk (cutS stem none (some cut) ++ ⟨#[97 + ((first + step * (i : Int)) % 26).toNat]⟩) := name_ok w2 w3 (by omega)
      have nla := lastC_app (cutS stem none (some cut)) (97 + ((first + step * (i : Int)) % 26).toNat)
      generalize (cutS stem none (some cut) ++ ⟨#[97 + ((first + step * (i : Int)) % 26).toNat]⟩ : Str) = nm at nok nla
      have hnew : nm ∉ names := fun hm2 => by
        obtain ⟨_, j, hj, ej⟩ := m3 nm hm2
        rw [nla] at ej
        have q1 := Option.some.inj ej
        have q2 := apart hst hj hi2 first
        have q3 : 0 ≤ (first + step * (j : Int)) % 26 := Int.emod_nonneg _ (by decide)
        omega
      -- found.insert(take(box, len(found) + 1), name)
      have L6 : SqL K H6 l (names.map V.str) := .inl (.inl l6)
      refine ⟨.ref l, rfl, .inl ⟨rfl, _, L6⟩, .ref b, rfl, .ref l, rfl, l, _, rfl, .inl L6, _, _, rfl, rfl, b, _, rfl, b6, by omega, ?_, fun v H8 o8 b8 v0 v1 => ?_⟩
      · rw [List.length_map]
        omega
      have l8 : H8 l = some (.lst (names.map V.str)) := o8 _ _ nlb l6
      refine ⟨_, rfl, l, _, v, _, rfl, rfl, l8, ?_, v0, ?_, ?_⟩
      · rw [List.length_map]
        exact small1000 (by omega)
      · rw [List.length_map] at v1
        omega
      have pm := ins_perm names v.toNat nm
      refine ⟨_, _, _, _, names.take v.toNat ++ [nm] ++ names.drop v.toNat, rfl, fun a o na e => ?_, ?_, ?_, ?_, ?_, ?_⟩
      · have e8 := o8 _ _ na (o6 _ _ na e)
        rw [upd_ne (ne_of_none e nl)]
        exact e8
      · obtain ⟨i1, i2, i3, e⟩ := b8
        exact ⟨i1, i2, i3, (upd_ne (Ne.symm nlb)).trans e⟩
      · rw [upd_same, ins_map]
      · rw [pm.length_eq, List.length_cons, m1]
      · exact pm.nodup_iff.mpr (List.nodup_cons.mpr ⟨hnew, m2⟩)
      · intro x hx
        rcases List.mem_cons.mp (pm.mem_iff.mp hx) with rfl | hx
        · exact ⟨nok, i, Nat.lt_succ_self _, nla⟩
        · obtain ⟨z1, j, z2, z3⟩ := m3 x hx
          exact ⟨z1, j, Nat.lt_succ_of_lt z2, z3⟩
    · rintro σ H6 ⟨y8, y9, y10, y11, names, rfl, o6, b6, l6, m1, m2, m3⟩
      exact ⟨.ref l, rfl, q l names H6 o6 b6 nl l6 (by omega) m2 fun x hx => (m3 x hx).1⟩
/-! ### _law_same -/
abbrev sSame : Stmt := topS 38
abbrev nSame : List Str := ["_law_found", "_law_due", "_law_piece", "_law_part"]
theorem scSame : FnScope nSame ["_law_found", "_law_due"] (defScope sSame) := ⟨rfl, rfl, rfl, by decide +kernel, rfl, by decide +kernel, by decide +kernel⟩
theorem ok_same_step {f : Addr} {fd : FuncData} {n : Nat} (B : Blt mg) (CS : Cal P w K mg base n "_law_same" ["_law_found", "_law_due"] (spSame n)) (F : Fun K "_law_same" "_law_same" sSame f fd) : FnOk P w K mg base CX0 (n + 1) f fd ["_law_found", "_law_due"] (spSame (n + 1)) := by
  refine fok F scSame (fun vs H Q E h => ?_) (fun cdv A outer s H vs Q E hr h => ?_)
  · obtain ⟨x, y, rfl, _⟩ := h
    rfl
  obtain ⟨x, y, rfl, hA, q⟩ := h
  refine ⟨_, pss_cons (ps_if (pt_val (pe_callB call_isiT (by rfl) B.isinstance (by decide +kernel) (pa_cons (pv 1) (pa_cons (pe_tup (pa_cons (pe_bltn (v := .ty "list") (by rfl) B.list (by decide +kernel) rfl) (pa_cons (pe_bltn (v := .ty "tuple") (by rfl) B.tuple (by decide +kernel) rfl) pa_nil))) pa_nil))))
      (pss_cons (ps_if (PW.pt (pw_or (pt_cmpR op_ne (pe_callB call_isi (by rfl) B.isinstance (by decide +kernel) (pa_cons (pv 0) (pa_cons (pe_bltn (v := .ty "list") (by rfl) B.list (by decide +kernel) rfl) pa_nil))) (pe_callB call_isi (by rfl) B.isinstance (by decide +kernel) (pa_cons (pv 1) (pa_cons (pe_bltn (v := .ty "list") (by rfl) B.list (by decide +kernel) rfl) pa_nil))) (nomark _))
          (pw_or1 (pt_cmpR op_ne (pe_callB call_isi (by rfl) B.isinstance (by decide +kernel) (pa_cons (pv 0) (pa_cons (pe_bltn (v := .ty "tuple") (by rfl) B.tuple (by decide +kernel) rfl) pa_nil))) (pe_callB call_isi (by rfl) B.isinstance (by decide +kernel) (pa_cons (pv 1) (pa_cons (pe_bltn (v := .ty "tuple") (by rfl) B.tuple (by decide +kernel) rfl) pa_nil))) (nomark _)))))
        (pss_one (ps_ret pe_bl)) pss_nil)
      (pss_one (ps_ret (pe_and (pe_cmpR op_eq (pe_callB call_len_seq (by rfl) B.len PySem.boot_len (pa_cons (pv 0) pa_nil)) (pe_callB call_len_seq (by rfl) B.len PySem.boot_len (pa_cons (pv 1) pa_nil)) (nomark _))
        (pe_one (pe_callB (cr_all rfl) (by rfl) B.all (by decide +kernel) (pa_cons (pe_lc (own := [("_law_piece", 2), ("_law_part", 3)]) (g := gTup K 2 (gCons (gName 2) (gCons (gName 3) gNil))) (tt := tYes) rfl scSame.nd (RZ.pi_zipA (by rfl) B.zip (pa_cons (pv 0) (pa_cons (pv 1) pa_nil))) (blkOk_by (N := nSame) (sc := defScope sSame) (by decide +kernel))
          (fun _ _ _ _ _ => pg_tup rfl (pgs_cons (pg_name (i := 2) scSame.nd rfl (Or.inl rfl)) (pgs_cons (pg_name (i := 3) scSame.nd rfl (Or.inl rfl)) pgs_nil))) (fun _ _ _ _ _ => pts_nil) (fun _ _ _ _ _ => pe_cal CS hr (pa_cons (pv 2) (pa_cons (pv 3) pa_nil)))) pa_nil))))))) pss_nil)
    (pss_cons (ps_if (PW.pt (pw_or (pt_cmp (pc_isN (pv 1))) (pw_or1 (pt_val (pe_callB call_isi (by rfl) B.isinstance (by decide +kernel) (pa_cons (pv 1) (pa_cons (pe_bltn (v := .ty "str") (by rfl) B.str (by decide +kernel) rfl) pa_nil)))))))
      (pss_one (ps_ret (pe_and (pe_cmpR op_eq (pe_callB call_isi (by rfl) B.isinstance (by decide +kernel) (pa_cons (pv 0) (pa_cons (pe_bltn (v := .ty "str") (by rfl) B.str (by decide +kernel) rfl) pa_nil))) (pe_callB call_isi (by rfl) B.isinstance (by decide +kernel) (pa_cons (pv 1) (pa_cons (pe_bltn (v := .ty "str") (by rfl) B.str (by decide +kernel) rfl) pa_nil))) (nomark _)) (pe_one (pe_cmpR op_eq (pv 0) (pv 1) (nomark _)))))) pss_nil)
    (pss_one (ps_ret (pe_and (pe_callB call_isi (by rfl) B.isinstance (by decide +kernel) (pa_cons (pv 0) (pa_cons (pe_bltn (v := .ty "int") (by rfl) B.int (by decide +kernel) rfl) pa_nil)))
      (pe_and (pe_cmpR op_eq (pe_callB call_isi (by rfl) B.isinstance (by decide +kernel) (pa_cons (pv 0) (pa_cons (pe_bltn (v := .ty "bool") (by rfl) B.bool (by decide +kernel) rfl) pa_nil))) (pe_callB call_isi (by rfl) B.isinstance (by decide +kernel) (pa_cons (pv 1) (pa_cons (pe_bltn (v := .ty "bool") (by rfl) B.bool (by decide +kernel) rfl) pa_nil))) (nomark _)) (pe_one (pe_cmpR op_eq (pv 0) (pv 1) (nomark _)))))))), ?_⟩
  have l2 : (2 : Nat) ≤ sizeLine := by decide
  rcases hA with ⟨hx, rfl⟩ | ⟨a, b, xs, ys, rfl, rfl, h1, h2, hl, hz, h⟩ | ⟨a, b, xs, ys, rfl, rfl, h1, h2, hl, hz, h⟩
  · rcases hx with rfl | ⟨c, rfl⟩ | ⟨c, rfl⟩ | ⟨c, rfl⟩
    · refine ⟨_, rfl, l2, fun p hp => ⟨_, p, _, _, _, false, rfl, upd_same, .cons (.ty _) (.cons (.ty _) .nil), .base .non, kitAny_cons (b := false) (kit_ty (by decide +kernel)) (fun _ => kitAny_cons (b := false) (kit_ty (by decide +kernel)) (fun _ => kitAny_nil) (fun z => nomatch z)) (fun z => nomatch z), _, rfl, ?_⟩⟩
      refine ⟨_, rfl, _, rfl, ?_⟩
      refine ⟨_, rfl, _, _, _, _, false, rfl, .ty _, .base .non, kit_ty (by decide +kernel), _, rfl, _, _, _, _, false, rfl, .ty _, .base .non, kit_ty (by decide +kernel), rfl, _, rfl, ?_⟩
      exact ⟨_, rfl, _, rfl, rfl, q _ (same_upd hp)⟩
    · refine ⟨_, rfl, l2, fun p hp => ⟨_, p, _, _, _, false, rfl, upd_same, .cons (.ty _) (.cons (.ty _) .nil), .base (.bl c), kitAny_cons (b := false) (kit_ty (by decide +kernel)) (fun _ => kitAny_cons (b := false) (kit_ty (by decide +kernel)) (fun _ => kitAny_nil) (fun z => nomatch z)) (fun z => nomatch z), _, rfl, ?_⟩⟩
      refine ⟨_, rfl, _, rfl, _, rfl, _, _, _, _, false, rfl, .ty _, .base (.bl c), kit_ty (by decide +kernel), _, rfl, ?_⟩
      refine ⟨_, rfl, _, _, _, _, true, rfl, .ty _, .base (.bl c), kit_ty (by decide +kernel), _, rfl, ?_⟩
      refine ⟨_, rfl, _, _, _, _, true, rfl, .ty _, .base (.bl c), kit_ty (by decide +kernel), _, rfl, _, _, _, _, true, rfl, .ty _, .base (.bl c), kit_ty (by decide +kernel), rfl, _, rfl, ?_⟩
      refine ⟨_, rfl, _, rfl, rfl, ?_⟩
      rw [decide_eq_true rfl]
      exact q _ (same_upd hp)
    · refine ⟨_, rfl, l2, fun p hp => ⟨_, p, _, _, _, false, rfl, upd_same, .cons (.ty _) (.cons (.ty _) .nil), .base (.int c), kitAny_cons (b := false) (kit_ty (by decide +kernel)) (fun _ => kitAny_cons (b := false) (kit_ty (by decide +kernel)) (fun _ => kitAny_nil) (fun z => nomatch z)) (fun z => nomatch z), _, rfl, ?_⟩⟩
      refine ⟨_, rfl, _, rfl, _, rfl, _, _, _, _, false, rfl, .ty _, .base (.int c), kit_ty (by decide +kernel), _, rfl, ?_⟩
      refine ⟨_, rfl, _, _, _, _, true, rfl, .ty _, .base (.int c), kit_ty (by decide +kernel), _, rfl, ?_⟩
      refine ⟨_, rfl, _, _, _, _, false, rfl, .ty _, .base (.int c), kit_ty (by decide +kernel), _, rfl, _, _, _, _, false, rfl, .ty _, .base (.int c), kit_ty (by decide +kernel), rfl, _, rfl, ?_⟩
      refine ⟨_, rfl, _, rfl, rfl, ?_⟩
      rw [decide_eq_true rfl]
      exact q _ (same_upd hp)
    · refine ⟨_, rfl, l2, fun p hp => ⟨_, p, _, _, _, false, rfl, upd_same, .cons (.ty _) (.cons (.ty _) .nil), .base (.str c), kitAny_cons (b := false) (kit_ty (by decide +kernel)) (fun _ => kitAny_cons (b := false) (kit_ty (by decide +kernel)) (fun _ => kitAny_nil) (fun z => nomatch z)) (fun z => nomatch z), _, rfl, ?_⟩⟩
      refine ⟨_, rfl, _, rfl, _, rfl, _, _, _, _, true, rfl, .ty _, .base (.str c), kit_ty (by decide +kernel), _, rfl, ?_⟩
      refine ⟨_, rfl, _, _, _, _, true, rfl, .ty _, .base (.str c), kit_ty (by decide +kernel), _, rfl, _, _, _, _, true, rfl, .ty _, .base (.str c), kit_ty (by decide +kernel), rfl, _, rfl, ?_⟩
      refine ⟨_, rfl, _, rfl, rfl, ?_⟩
      rw [decide_eq_true rfl]
      exact q _ (same_upd hp)
  · refine ⟨_, rfl, l2, fun p hp => ⟨_, p, _, _, _, true, rfl, upd_same, .cons (.ty _) (.cons (.ty _) .nil), .base (.lst (same_upd hp _ _ h2)), kitAny_cons (b := true) (kit_ty (by decide +kernel)) (fun z => nomatch z) (fun _ => rfl), _, rfl, ?_⟩⟩
    have sp : Same H (upd H p (.tup [.ty "list", .ty "tuple"])) := same_upd hp
    have k1 := sp _ _ h1
    have k2 := sp _ _ h2
    refine ⟨_, rfl, _, _, _, _, true, rfl, .ty _, .base (.lst k1), kit_ty (by decide +kernel), _, rfl, _, _, _, _, true, rfl, .ty _, .base (.lst k2), kit_ty (by decide +kernel), rfl, _, rfl, ?_⟩
    refine ⟨_, rfl, _, _, _, _, false, rfl, .ty _, .base (.lst k1), kit_ty (by decide +kernel), _, rfl, _, _, _, _, false, rfl, .ty _, .base (.lst k2), kit_ty (by decide +kernel), rfl, _, rfl, ?_⟩
    refine ⟨_, rfl, a, _, rfl, .inl (.inl (.inl k1)), _, rfl, b, _, rfl, .inl (.inl (.inl k2)), rfl, _, rfl, ?_⟩
    rw [hl, decide_eq_true rfl]
    refine ⟨_, rfl, _, rfl, a, b, xs, ys, rfl, .inl ⟨.inl (.inl k1), .inl (.inl k2), fun D hD => ?_⟩⟩
    refine lc_it (walk_zip (xs := xs) (ys := ys) (n := xs.length) (by omega)) (fun i H' => Same (upd H p (.tup [.ty "list", .ty "tuple"])) H' ∧ H' D = some (.lst ((List.replicate i true).map V.bl))) ?_ ?_ ?_ ?_
    · exact ⟨same_upd hD, upd_same⟩
    · rintro i H' _ ⟨s2, _⟩
      exact ⟨.inl (.inl (s2 _ _ k1)), .inl (.inl (s2 _ _ k2))⟩
    · rintro i v H2 H3 hi ⟨s2, d2⟩ ⟨T, u1, u2, rfl, nT, rfl, e1, e2⟩
      have s3 := s2.trans (same_upd (o := .tup [u1, u2]) nT)
      refine ⟨T, _, rfl, .inl (.inl upd_same), rfl, _, _, rfl, _, _, rfl, rfl, rfl, ?_⟩
      refine ⟨_, rfl, _, rfl, u1, u2, rfl, (h i u1 u2 e1 e2).same (sp.trans s3), fun H4 s4 => ?_⟩
      have d4 := s4 _ _ (same_upd nT _ _ d2)
      refine ⟨_, d4, ?_, fun c o e => ?_, ?_⟩
      · rw [List.length_map, List.length_replicate]
        exact small1000 (by omega)
      · rw [upd_ne (ne_of_none e hD)]
        exact s4 _ _ (s3 _ _ e)
      · rw [upd_same, List.replicate_succ', List.map_append]
        rfl
    · rintro H2 ⟨s2, d2⟩
      refine ⟨D, _, rfl, .inl (.inl d2), ?_⟩
      rw [show (List.replicate xs.length true).all id = true by simp]
      exact q _ (sp.trans s2)
  · refine ⟨_, rfl, l2, fun p hp => ⟨_, p, _, _, _, true, rfl, upd_same, .cons (.ty _) (.cons (.ty _) .nil), (h2.same (same_upd hp)).ty, kitAny_cons (b := false) (kit_ty (by decide +kernel)) (fun _ => kitAny_cons (b := true) (kit_ty (by decide +kernel)) (fun z => nomatch z) (fun _ => rfl)) (fun z => nomatch z), _, rfl, ?_⟩⟩
    have sp : Same H (upd H p (.tup [.ty "list", .ty "tuple"])) := same_upd hp
    have k1 := h1.same sp
    have k2 := h2.same sp
    refine ⟨_, rfl, _, _, _, _, false, rfl, .ty _, k1.ty, kit_ty (by decide +kernel), _, rfl, _, _, _, _, false, rfl, .ty _, k2.ty, kit_ty (by decide +kernel), rfl, _, rfl, ?_⟩
    refine ⟨_, rfl, _, _, _, _, true, rfl, .ty _, k1.ty, kit_ty (by decide +kernel), _, rfl, _, _, _, _, true, rfl, .ty _, k2.ty, kit_ty (by decide +kernel), rfl, _, rfl, ?_⟩
    refine ⟨_, rfl, a, _, rfl, .inr k1.sq, _, rfl, b, _, rfl, .inr k2.sq, rfl, _, rfl, ?_⟩
    rw [hl, decide_eq_true rfl]
    refine ⟨_, rfl, _, rfl, a, b, xs, ys, rfl, .inr ⟨k1.sq, k2.sq, fun D hD => ?_⟩⟩
    refine lc_it (walk_zipT (xs := xs) (ys := ys) (n := xs.length) (by omega)) (fun i H' => Same (upd H p (.tup [.ty "list", .ty "tuple"])) H' ∧ H' D = some (.lst ((List.replicate i true).map V.bl))) ?_ ?_ ?_ ?_
    · exact ⟨same_upd hD, upd_same⟩
    · rintro i H' _ ⟨s2, _⟩
      exact ⟨(k1.same s2).sq, (k2.same s2).sq⟩
    · rintro i v H2 H3 hi ⟨s2, d2⟩ ⟨T, u1, u2, rfl, nT, rfl, e1, e2⟩
      have s3 := s2.trans (same_upd (o := .tup [u1, u2]) nT)
      refine ⟨T, _, rfl, .inl (.inl upd_same), rfl, _, _, rfl, _, _, rfl, rfl, rfl, ?_⟩
      refine ⟨_, rfl, _, rfl, u1, u2, rfl, (h i u1 u2 e1 e2).same (sp.trans s3), fun H4 s4 => ?_⟩
      have d4 := s4 _ _ (same_upd nT _ _ d2)
      refine ⟨_, d4, ?_, fun c o e => ?_, ?_⟩
      · rw [List.length_map, List.length_replicate]
        exact small1000 (by omega)
      · rw [upd_ne (ne_of_none e hD)]
        exact s4 _ _ (s3 _ _ e)
      · rw [upd_same, List.replicate_succ', List.map_append]
        rfl
    · rintro H2 ⟨s2, d2⟩
      refine ⟨D, _, rfl, .inl (.inl d2), ?_⟩
      rw [show (List.replicate xs.length true).all id = true by simp]
      exact q _ (sp.trans s2)
theorem ok_same {f : Addr} {fd : FuncData} (B : Blt mg) (F : Fun K "_law_same" "_law_same" sSame f fd) (hm : mg "_law_same" = some (.ref f)) (hb : L2.Binds K fd ["_law_found", "_law_due"] []) : ∀ n : Nat, FnOk P w K mg base CX0 n f fd ["_law_found", "_law_due"] (spSame n)
  | 0 => by
    have no : ∀ vs H Q E, ¬ spSame 0 vs H Q E := fun vs H Q E h => by
      obtain ⟨_, _, _, h, _⟩ := h
      exact h
    exact ⟨fun vs H Q E h => absurd h (no vs H Q E), fun A outer s H args us vs Q E _ _ _ _ h => absurd h (no vs H Q E)⟩
  | n + 1 => ok_same_step B ⟨f, fd, ok_same B F hm hb n, hm, F.kp, hb⟩ F
/-! ### is_name, is_row, shows_order -/
abbrev sIsName : Stmt := topS 4
abbrev nIsName : List Str := ["thing", "letter"]
theorem scIsName : FnScope nIsName ["thing"] (defScope sIsName) := ⟨rfl, rfl, rfl, by decide +kernel, rfl, by decide +kernel, by decide +kernel⟩
theorem ok_isName {f : Addr} {fd : FuncData} (B : Blt mg) (hL : ∃ u, mg "LONGEST_NAME" = some u ∧ RelV (.int 8) u) (F : Fun K "is_name" "is_name" sIsName f fd) : FnOk P w K mg base CX0 1 f fd ["thing"] spIsName := by
  obtain ⟨uL, hmL, rL⟩ := hL
  refine fok F scIsName (fun vs H Q E h => ?_) (fun cdv A outer s H vs Q E hr h => ?_)
  · obtain ⟨x, rfl, _⟩ := h
    rfl
  obtain ⟨x, rfl, ok, q⟩ := h
  have ln := ok.len
  have l0 : 1 ≤ x.length := by rw [len_tlx]; exact ok.1
  refine ⟨_, pss_cons (ps_if (PW.pt (pw_or (pt_not (pt_val (pe_callB call_isi (by rfl) B.isinstance (by decide +kernel) (pa_cons (pv 0) (pa_cons (pe_bltn (v := .ty "str") (by rfl) B.str (by decide +kernel) rfl) pa_nil))))) (pw_or1 (pt_not (pt_chain op_le op_le pe_int (pe_callB call_len_str (by rfl) B.len PySem.boot_len (pa_cons (pv 0) pa_nil)) (pe_glob (v := .int 8) (by rfl) hmL rL)))))) (pss_one (ps_ret pe_bl)) pss_nil)
    (pss_one (ps_ret (pe_callB (cr_all rfl) (by rfl) B.all (by decide +kernel) (pa_cons (pe_lc (own := [("letter", 1)]) (g := gName 1) (tt := tYes) (te := tChain rLeS rLeS (tC (.str "a")) (tVar 1) (tC (.str "z"))) rfl scIsName.nd (pi_str (pv 0)) (blkOk_by (N := nIsName) (sc := defScope sIsName) (by decide +kernel))
      (fun _ _ _ _ _ => pg_name (i := 1) scIsName.nd rfl (Or.inl rfl)) (fun _ _ _ _ _ => pts_nil) (fun _ _ _ _ _ => pe_chain op_leS op_leS pe_str (pv 1) pe_str)) pa_nil)))), ?_⟩
  have e1 : decide ((1 : Int) ≤ ((x.length : Nat) : Int)) = true := decide_eq_true (by omega)
  have e2 : decide (((x.length : Nat) : Int) ≤ (8 : Int)) = true := decide_eq_true (by omega)
  refine ⟨.str x, rfl, _, _, _, _, true, rfl, .ty _, .base (.str x), kit_ty (by decide +kernel), true, rfl, ?_⟩
  refine ⟨.str x, rfl, x, rfl, Nat.le_trans ln (by decide), _, _, rfl, rfl, _, rfl, ?_⟩
  rw [e1]
  refine iteT ⟨_, _, rfl, rfl, _, rfl, ?_⟩
  rw [e2]
  refine ⟨.str x, rfl, x, rfl, fun D hD => ?_⟩
  refine lc_vals (walk_str (z := x)) (fun _ => .bl true) (by have : x.cps.size ≤ 8 := ln; omega) hD (fun _ _ => trivial) ?_ ?_
  · rintro i v H2 H2' k hi s2 ⟨rfl, c, hc, rfl⟩ hk
    have lo := ok.2.2 c (by rw [← Array.getElem?_toList] at hc; exact List.mem_of_getElem? hc)
    refine ⟨rfl, _, rfl, _, _, rfl, rfl, _, rfl, ?_⟩
    rw [show (!decide ((⟨#[c]⟩ : Str).cps.toList < (("a" : Str)).cps.toList)) = true from letter_ge lo.1]
    refine iteT ⟨_, _, rfl, rfl, ?_⟩
    rw [show (!decide ((("z" : Str)).cps.toList < (⟨#[c]⟩ : Str).cps.toList)) = true from letter_le lo.2]
    exact hk H2' (Same.refl _)
  · intro H2 s2 d2
    rw [trues_all] at d2
    refine ⟨D, _, rfl, .inl (.inl d2), ?_⟩
    rw [show (List.replicate x.cps.size true).all id = true by simp]
    exact q H2 s2/-! ### is_link, are_links, each_bars_the_next, shows_ring -/
abbrev sIsLink : Stmt := topS 25
abbrev nIsLink : List Str := ["thing"]
theorem scIsLink : FnScope nIsLink nIsLink (defScope sIsLink) := ⟨rfl, rfl, rfl, by decide +kernel, rfl, by decide +kernel, by decide +kernel⟩
theorem ok_isLink {f : Addr} {fd : FuncData} (B : Blt mg) (CN : Cal P w K mg base 1 "is_name" ["thing"] spIsName) (F : Fun K "is_link" "is_link" sIsLink f fd) : FnOk P w K mg base CX0 2 f fd ["thing"] spIsLink := by
  refine fok F scIsLink (fun vs H Q E h => ?_) (fun cdv A outer s H vs Q E hr h => ?_)
  · obtain ⟨t, x, y, rfl, _⟩ := h
    rfl
  obtain ⟨t, x, y, rfl, ht, ok, q⟩ := h
  refine ⟨_, pss_one (ps_ret (pe_and (pe_callB call_isi (by rfl) B.isinstance (by decide +kernel) (pa_cons (pv 0) (pa_cons (pe_bltn (v := .ty "tuple") (by rfl) B.tuple (by decide +kernel) rfl) pa_nil))) (pe_and (pe_cmpR op_eq (pe_callB call_len_seq (by rfl) B.len PySem.boot_len (pa_cons (pv 0) pa_nil)) pe_int (nomark _)) (pe_one (pe_cal CN hr (pa_cons (pe_ix ix_tup (pv 0) pe_int (fun _ _ => rfl)) pa_nil)))))), ?_⟩
  refine ⟨.ref t, rfl, _, _, _, _, true, rfl, .ty _, .base (.tup ht), kit_ty (by decide +kernel), true, rfl, ?_⟩
  refine ⟨.ref t, rfl, t, _, rfl, .inr (.inl (.inl ht)), rfl, true, by rfl, ?_⟩
  exact ⟨.ref t, rfl, t, _, 0, _, rfl, rfl, .inl (.inl ht), atI_nat (j := 0) rfl, x, rfl, ok, fun H' s => q H' s⟩
abbrev sAreLinks : Stmt := topS 26
abbrev nAreLinks : List Str := ["thing", "link"]
theorem scAreLinks : FnScope nAreLinks ["thing"] (defScope sAreLinks) := ⟨rfl, rfl, rfl, by decide +kernel, rfl, by decide +kernel, by decide +kernel⟩
theorem ok_areLinks {f : Addr} {fd : FuncData} (B : Blt mg) (CL : Cal P w K mg base 2 "is_link" ["thing"] spIsLink) (F : Fun K "are_links" "are_links" sAreLinks f fd) : FnOk P w K mg base CX0 3 f fd ["thing"] spAreLinks := by
  refine fok F scAreLinks (fun vs H Q E h => ?_) (fun cdv A outer s H vs Q E hr h => ?_)
  · obtain ⟨p, bs, rfl, _⟩ := h
    rfl
  obtain ⟨p, bs, rfl, ⟨hp, hb, ok, nd, ne, bl⟩, q⟩ := h
  have rl : (refs bs).length = bs.length := by unfold refs; rw [List.length_map]
  refine ⟨_, pss_cons (ps_if (PW.pt (pw_or (pt_not (pt_val (pe_callB call_isi (by rfl) B.isinstance (by decide +kernel) (pa_cons (pv 0) (pa_cons (pe_bltn (v := .ty "list") (by rfl) B.list (by decide +kernel) rfl) pa_nil))))) (pw_or (pt_not (pt_truth (pv 0) (by intro _; rfl))) (pw_or1 (pt_not (pt_val (pe_callB (cr_all rfl) (by rfl) B.all (by decide +kernel) (pa_cons (pe_lc (own := [("link", 1)]) (g := gName 1) (tt := tYes) (te := tCall spIsLink [] E0 (tCons (tVar 1) tNil)) rfl scAreLinks.nd (pi_list (pv 0)) (blkOk_by (N := nAreLinks) (sc := defScope sAreLinks) (by decide +kernel))
        (fun _ _ _ _ _ => pg_name (i := 1) scAreLinks.nd rfl (Or.inl rfl)) (fun _ _ _ _ _ => pts_nil) (fun _ _ _ _ _ => pe_cal CL hr (pa_cons (pv 1) pa_nil))) pa_nil)))))))) (pss_one (ps_ret pe_bl)) pss_nil)
    (pss_one (ps_ret (pe_cmpR op_eq (pe_lenStrs rfl (by rfl) B.len (by rfl) B.set (pe_lc (own := [("link", 1)]) (g := gName 1) (tt := tYes) (te := tOp (rIxT K) (tVar 1) (tC (.int 0))) rfl scAreLinks.nd (pi_list (pv 0)) (blkOk_by (N := nAreLinks) (sc := defScope sAreLinks) (by decide +kernel))
        (fun _ _ _ _ _ => pg_name (i := 1) scAreLinks.nd rfl (Or.inl rfl)) (fun _ _ _ _ _ => pts_nil) (fun _ _ _ _ _ => pe_ix ix_tup (pv 1) pe_int (fun _ _ => rfl)))) (pe_callB call_len_seq (by rfl) B.len PySem.boot_len (pa_cons (pv 0) pa_nil)) (nomark _)))), ?_⟩
  refine ⟨.ref p, rfl, _, _, _, _, true, rfl, .ty _, .base (.lst hp), kit_ty (by decide +kernel), true, rfl, ?_⟩
  refine ⟨.ref p, rfl, true, .inl ⟨_, .inl (.inl hp), ?_⟩, ?_⟩
  · cases bs with
    | nil => exact absurd rfl ne
    | cons c l => rfl
  refine ⟨.ref p, rfl, p, rfl, ⟨_, .inl (.inl hp)⟩, fun D hD => ?_⟩
  refine lc_vals (walk_list (xs := refs bs)) (fun _ => .bl true) (by rw [rl]; omega) hD (fun H' s => .inl (.inl (s _ _ hp))) ?_ ?_
  · rintro i v H2 H2' k hi s2 ⟨rfl, ex⟩ hk
    obtain ⟨c, hc, rfl⟩ := at_map ex
    exact ⟨rfl, _, rfl, c.1, c.2.1, c.2.2, rfl, s2 _ _ (hb c (List.mem_of_getElem? hc)), ok c (List.mem_of_getElem? hc), fun H4 s4 => hk H4 s4⟩
  · intro H2 s2 d2
    rw [trues_all] at d2
    refine ⟨D, _, rfl, .inl (.inl d2), true, by rw [show (List.replicate (refs bs).length true).all id = true by simp], ?_⟩
    have p2 := s2 _ _ hp
    refine ⟨.ref p, rfl, p, rfl, ⟨_, .inl (.inl p2)⟩, fun L hL => ?_⟩
    refine lc_strs (walk_list (xs := refs bs)) (bs.map (·.2.1)) (by rw [rl, List.length_map]) (by rw [rl]; omega) hL (fun H' s => .inl (.inl (s _ _ p2))) ?_ ?_
    · rintro i x v H3 H3' k hx s3 ⟨rfl, ex⟩ hk
      obtain ⟨c, hc, rfl⟩ := at_map ex
      rw [List.getElem?_map, hc] at hx
      cases hx
      exact ⟨rfl, _, rfl, c.1, _, 0, _, rfl, rfl, .inl (.inl (s3 _ _ (s2 _ _ (hb c (List.mem_of_getElem? hc))))), atI_nat (j := 0) rfl, hk _ (Same.refl _)⟩
    · intro H3 s3 d3
      refine ⟨L, _, rfl, d3, nd, by rw [List.length_map]; exact bl, .ref p, rfl, p, _, rfl, .inl (.inl (.inl (s3 _ _ p2))), rfl, ?_⟩
      rw [rl, List.length_map, decide_eq_true rfl]
      exact q H3 (s2.trans s3)
abbrev sEachB : Stmt := topS 27
abbrev nEachB : List Str := ["friends", "row", "links", "last", "known", "nexts", "link", "other"]
abbrev pEachB : List Str := ["friends", "row", "links", "last"]
theorem scEachB : FnScope nEachB pEachB (defScope sEachB) := ⟨rfl, rfl, rfl, by decide +kernel, rfl, by decide +kernel, by decide +kernel⟩
theorem ok_eachBD {f : Addr} {fd : FuncData} (B : Blt mg) (CB : Cal P w K mg base 1 "both_ways" ["friends"] spBoth) (CW : Cal P w K mg base 2 "bar_words" ["known", "row", "one", "other"] spBarW) (F : Fun K "each_bars_the_next" "each_bars_the_next" sEachB f fd) : FnOk P w K mg base CX0 3 f fd pEachB spEachBD := by
  refine fok F scEachB (fun vs H Q E h => ?_) (fun cdv A outer s H vs Q E hr h => ?_)
  · obtain ⟨a, r, p, ps, row, bs, last, c0, rfl, _⟩ := h
    rfl
  obtain ⟨a, r, p, ps, row, bs, last, c0, rfl, ha, hpl, hrow, ndr, hn, ⟨hp, hb, ok, nd, ne, bl⟩, sub, hl, bar, q⟩ := h
  have rl : (refs bs).length = bs.length := by unfold refs; rw [List.length_map]
  obtain ⟨bF, eF⟩ : ∃ bF : Nat → Bool, bF = fun i => match bs[i]?, (nextsL bs last)[i]? with | some b, some y => decide (b.2.2 ∈ wordsAt ps row b.2.1 y) | _, _ => false := ⟨_, rfl⟩
  have bar : c0 = ((List.range bs.length).map bF).all id := by
    rw [eF]
    exact bar
  refine ⟨_, pss_cons (ps_set (i := 4) scEachB.nd rfl (.inr rfl) (pe_cal CB hr (pa_cons (pv 0) pa_nil)))
    (pss_cons (ps_set (i := 5) scEachB.nd rfl (.inl rfl) (pe_op op_cat (pe_lc (own := [("link", 6)]) (g := gName 6) (tt := tYes) (te := tOp (rIxT K) (tVar 6) (tC (.int 0))) rfl scEachB.nd (pi_list (pe_slice sl_list (pv 2) (po_some pe_int) po_none)) (blkOk_by (N := nEachB) (sc := defScope sEachB) (by decide +kernel))
        (fun _ _ _ _ _ => pg_name (i := 6) scEachB.nd rfl (Or.inl rfl)) (fun _ _ _ _ _ => pts_nil) (fun _ _ _ _ _ => pe_ix ix_tup (pv 6) pe_int (fun _ _ => rfl))) (pe_lst (pa_cons (pv 3) pa_nil))))
    (pss_one (ps_ret (pe_callB (cr_all rfl) (by rfl) B.all (by decide +kernel) (pa_cons (pe_lc (own := [("link", 6), ("other", 7)]) (g := gTup K 2 (gCons (gName 6) (gCons (gName 7) gNil))) (tt := tYes) (te := tOp (rIn K false) (tOp (rIxT K) (tVar 6) (tC (.int 1))) (tCall spBarW [] E0 (tCons (tVar 4) (tCons (tVar 1) (tCons (tOp (rIxT K) (tVar 6) (tC (.int 0))) (tCons (tVar 7) tNil)))))) rfl scEachB.nd (RZ.pi_zipA (by rfl) B.zip (pa_cons (pv 2) (pa_cons (pv 5) pa_nil))) (blkOk_by (N := nEachB) (sc := defScope sEachB) (by decide +kernel))
        (fun _ _ _ _ _ => pg_tup rfl (pgs_cons (pg_name (i := 6) scEachB.nd rfl (Or.inl rfl)) (pgs_cons (pg_name (i := 7) scEachB.nd rfl (Or.inl rfl)) pgs_nil))) (fun _ _ _ _ _ => pts_nil)
        (fun _ _ _ _ _ => pe_cmpR op_in_seq (pe_ix ix_tup (pv 6) pe_int (fun _ _ => rfl)) (pe_cal CW hr (pa_cons (pv 4) (pa_cons (pv 1) (pa_cons (pe_ix ix_tup (pv 6) pe_int (fun _ _ => rfl)) (pa_cons (pv 7) pa_nil))))) (by rfl))) pa_nil))))), ?_⟩
  refine ⟨_, rfl, a, ps, rfl, ha, hpl, fun d H1 s1 nd1 k1 => ?_⟩
  have p1 := s1 _ _ hp
  -- nexts
  refine ⟨.ref p, rfl, _, rfl, p, _, rfl, .inl (.inl p1), fun sl hsl => ?_⟩
  have ec : cutV (refs bs) (some 1) none = (bs.drop 1).map (fun b => V.ref b.1) := by
    unfold refs
    rw [cutV_map, show (1 : Int) = ((1 : Nat) : Int) from rfl, cutL_from]
  rw [ec]
  have s2 := same_upd (o := .lst ((bs.drop 1).map (fun b => V.ref b.1))) hsl
  refine ⟨sl, rfl, ⟨_, .inl (.inl upd_same)⟩, fun L hL => ?_⟩
  refine lc_strs (walk_list (xs := (bs.drop 1).map (fun b => V.ref b.1))) ((bs.drop 1).map (·.2.1)) (by rw [List.length_map, List.length_map]) (by rw [List.length_map, List.length_drop]; omega) hL (fun H' s => .inl (.inl (s _ _ upd_same))) ?_ ?_
  · rintro i x v H3 H3' k hx s3 ⟨rfl, ex⟩ hk
    obtain ⟨c, hc, rfl⟩ := at_map ex
    rw [List.getElem?_map, hc] at hx
    cases hx
    have mc : c ∈ bs := List.mem_of_mem_drop (List.mem_of_getElem? hc)
    exact ⟨rfl, _, rfl, c.1, _, 0, _, rfl, rfl, .inl (.inl (s3 _ _ (s2 _ _ (s1 _ _ (hb c mc))))), atI_nat (j := 0) rfl, hk _ (Same.refl _)⟩
  intro H3 s3 d3
  refine ⟨_, rfl, (by show 1 ≤ sizeLine; decide), fun l1 hl1 => ?_⟩
  have s4 := same_upd (o := .lst [.str last]) hl1
  refine ⟨L, l1, _, _, rfl, rfl, s4 _ _ d3, upd_same, ?_, fun nx hnx => ?_⟩
  · rw [List.length_map, List.length_map, List.length_drop]
    exact small_le (by show _ + 1 ≤ 1000; omega)
  have en : ((bs.drop 1).map (·.2.1)).map V.str ++ [.str last] = (nextsL bs last).map V.str := by
    unfold nextsL
    rw [List.map_append]
    rfl
  rw [en]
  have s5 := same_upd (o := .lst ((nextsL bs last).map V.str)) hnx
  have s15 := ((s2.trans s3).trans s4).trans s5
  have s05 := s1.trans s15
  have p5 := s05 _ _ hp
  have nl : (nextsL bs last).length = bs.length := by
    unfold nextsL
    rw [List.length_append, List.length_map, List.length_drop]
    have : 0 < bs.length := List.length_pos_iff.mpr ne
    show bs.length - 1 + 1 = _
    omega
  -- each
  refine ⟨.ref p, rfl, .ref nx, rfl, p, nx, refs bs, (nextsL bs last).map V.str, rfl, .inl ⟨.inl (.inl p5), .inl (.inl upd_same), fun D hD => ?_⟩⟩
  refine lc_vals (walk_zip (xs := refs bs) (ys := (nextsL bs last).map V.str) (n := bs.length) (by rw [rl, List.length_map, nl]; omega)) (fun i => .bl (bF i)) (by omega) hD (fun H' s => ⟨.inl (.inl (s _ _ p5)), .inl (.inl (s _ _ upd_same))⟩) ?_ ?_
  · rintro i v H6 H6' k hi s6 ⟨T, x1, x2, rfl, nT, rfl, e1, e2⟩ hk
    obtain ⟨c, hc, rfl⟩ := at_map (show (bs.map fun b => V.ref b.1)[i]? = some x1 from e1)
    obtain ⟨y, hy, rfl⟩ := at_map e2
    have mc : c ∈ bs := List.mem_of_getElem? hc
    have my : y ∈ row := by
      have m := List.mem_of_getElem? hy
      unfold nextsL at m
      rcases List.mem_append.mp m with z | z
      · obtain ⟨b, hb', rfl⟩ := List.mem_map.mp z
        exact sub b (List.mem_of_mem_drop hb')
      · rw [List.mem_singleton.mp z]
        exact hl
    have sT := same_upd (o := .tup [.ref c.1, .str y]) nT
    have s56 := s6.trans sT
    have hc6 := s56 _ _ (s05 _ _ (hb c mc))
    refine ⟨T, _, rfl, .inl (.inl upd_same), rfl, _, _, rfl, _, _, rfl, rfl, rfl, ?_⟩
    refine ⟨_, rfl, c.1, _, 1, _, rfl, rfl, .inl (.inl hc6), atI_nat (j := 1) rfl, ?_⟩
    refine ⟨_, rfl, _, rfl, _, rfl, c.1, _, 0, _, rfl, rfl, .inl (.inl hc6), atI_nat (j := 0) rfl, _, rfl, ?_⟩
    refine ⟨d, r, ps, row, c.2.1, y, row.idxOf c.2.1, row.idxOf y, rfl, k1.same (s15.trans s56), hrow.same (s05.trans s56), hn, ndr, ix_at (sub c mc), ix_at my, fun wd H7 s7 n7 e7 => ?_⟩
    refine ⟨wd, _, rfl, .inl (.inl (.inl e7)), rfl, flat_strs _, ?_⟩
    have ef : decide (c.2.2 ∈ wordsOf ps row c.2.1 y (row.idxOf c.2.1) (row.idxOf y)) = bF i := by
      rw [eF]
      show _ = (match bs[i]?, (nextsL bs last)[i]? with | some b, some y => decide (b.2.2 ∈ wordsAt ps row b.2.1 y) | _, _ => false)
      rw [hc, hy]
      rfl
    rw [inV_strs, ef]
    exact hk H7 (sT.trans s7)
  · intro H6 s6 d6
    rw [show ((List.range bs.length).map fun i => V.bl (bF i)) = ((List.range bs.length).map bF).map V.bl by rw [List.map_map]; rfl] at d6
    refine ⟨D, _, rfl, .inl (.inl d6), ?_⟩
    rw [← bar]
    exact q H6 (s05.trans s6)

abbrev sShowsR : Stmt := topS 28
abbrev nShowsR : List Str := ["friends", "row", "thing"]
theorem scShowsR : FnScope nShowsR nShowsR (defScope sShowsR) := ⟨rfl, rfl, rfl, by decide +kernel, rfl, by decide +kernel, by decide +kernel⟩
theorem ok_showsRD {f : Addr} {fd : FuncData} (B : Blt mg) (CL : Cal P w K mg base 3 "are_links" ["thing"] spAreLinks) (CE : Cal P w K mg base 3 "each_bars_the_next" pEachB spEachBD) (F : Fun K "shows_ring" "shows_ring" sShowsR f fd) : FnOk P w K mg base CX0 4 f fd nShowsR spShowsRD := by
  refine fok F scShowsR (fun vs H Q E h => ?_) (fun cdv A outer s H vs Q E hr h => ?_)
  · obtain ⟨a, r, p, ps, row, b1, b2, c0, rfl, _⟩ := h
    rfl
  obtain ⟨a, r, p, ps, row, b1, b2, c0, rfl, ha, hpl, hrow, ndr, hn, okr, hp, hb, m1, m2, n12, ec0, q⟩ := h
  refine ⟨_, pss_cons (ps_if (PW.pt (pw_or (pt_not (pt_val (pe_cal CL hr (pa_cons (pv 2) pa_nil)))) (pw_or1 (pt_cmpR op_lt (pe_callB call_len_seq (by rfl) B.len PySem.boot_len (pa_cons (pv 2) pa_nil)) pe_int (nomark _))))) (pss_one (ps_ret pe_bl)) pss_nil)
    (pss_one (ps_ret (pe_cal CE hr (pa_cons (pv 0) (pa_cons (pv 1) (pa_cons (pv 2) (pa_cons (pe_ix ix_tup (pe_ix ix_list (pv 2) pe_int (fun _ _ => rfl)) pe_int (fun _ _ => rfl)) pa_nil))))))), ?_⟩
  obtain ⟨bs, ebs⟩ : ∃ bs, bs = [b1, b2] := ⟨_, rfl⟩
  rw [← ebs] at hp hb
  have rl : (refs bs).length = bs.length := by unfold refs; rw [List.length_map]
  have l2 : bs.length = 2 := by rw [ebs]; rfl
  have subr : ∀ b ∈ bs, b.2.1 ∈ row := fun b hb' => by
    rw [ebs] at hb'
    rcases List.mem_cons.mp hb' with rfl | z
    · exact m1
    · rw [List.mem_singleton.mp z]
      exact m2
  have lk : LinksOk H p bs := ⟨hp, hb, fun b hb' => okr _ (subr b hb'), by rw [ebs]; simpa using n12, by rw [ebs]; simp, by omega⟩
  refine ⟨_, rfl, p, bs, rfl, lk, fun H1 s1 => ⟨true, rfl, ?_⟩⟩
  have p1 := s1 _ _ hp
  refine ⟨.ref p, rfl, p, _, rfl, .inl (.inl (.inl p1)), _, _, rfl, rfl, _, rfl, ?_⟩
  rw [rl, decide_eq_false (show ¬ ((bs.length : Nat) : Int) < 2 by omega)]
  obtain ⟨c, hc⟩ : ∃ c, bs[0]? = some c := ⟨bs[0]'(by omega), List.getElem?_eq_getElem (by omega)⟩
  have mc : c ∈ bs := List.mem_of_getElem? hc
  have hr0 : (refs bs)[0]? = some (.ref c.1) := ix_map (f := fun b : B3 => V.ref b.1) hc
  refine ⟨_, rfl, _, rfl, _, rfl, .ref p, rfl, p, _, 0, _, rfl, rfl, .inl (.inl p1), atI_nat (j := 0) hr0, c.1, _, 0, _, rfl, rfl, .inl (.inl (s1 _ _ (hb c mc))), atI_nat (j := 0) rfl, ?_⟩
  refine ⟨a, r, p, ps, row, bs, c.2.1, c0, rfl, ha.same s1, hpl, hrow.same s1, ndr, hn, lk.same s1, subr, subr c mc, ?_, fun H2 s2 => q H2 (s1.trans s2)⟩
  rw [ec0, l2]
  have ecb : c = b1 := by
    rw [ebs] at hc
    exact (Option.some.inj hc).symm
  rw [ecb, ebs]
  show _ = (decide (b1.2.2 ∈ wordsAt ps row b1.2.1 b2.2.1) && (decide (b2.2.2 ∈ wordsAt ps row b2.2.1 b1.2.1) && true))
  rw [Bool.and_true]
/-! ### both_ways -/
abbrev sBoth : Stmt := topS 5
abbrev nBoth : List Str := ["friends", "known", "one", "other"]
theorem scBoth : FnScope nBoth ["friends"] (defScope sBoth) := ⟨rfl, rfl, rfl, by decide +kernel, rfl, by decide +kernel, by decide +kernel⟩
theorem ok_both {f : Addr} {fd : FuncData} (F : Fun K "both_ways" "both_ways" sBoth f fd) : FnOk P w K mg base CX0 1 f fd ["friends"] spBoth := by
  refine fok F scBoth (fun vs H Q E h => ?_) (fun cdv A outer s H vs Q E hr h => ?_)
  · obtain ⟨a, ps, rfl, _⟩ := h
    rfl
  obtain ⟨a, ps, rfl, ⟨bs, ha, hp, rfl⟩, hn, q⟩ := h
  rw [List.length_map] at hn
  have hu := hu_of hr
  refine ⟨_, pss_cons (ps_set (i := 1) scBoth.nd rfl (.inl rfl) pe_dnewT)
    (pss_cons (ps_for PassesOwn.never rfl (pi_or2 (pi_list (pv 0)) (pi_tup (pv 0))) (pg_tup rfl (pgs_cons (pg_name (i := 2) scBoth.nd rfl (.inl rfl)) (pgs_cons (pg_name (i := 3) scBoth.nd rfl (.inl rfl)) pgs_nil)))
      (pss_cons (ps_dput hu (pv 1) (pe_tup (pa_cons (pv 2) (pa_cons (pv 3) pa_nil))) pe_bl rfl)
      (pss_one (ps_dput hu (pv 1) (pe_tup (pa_cons (pv 3) (pa_cons (pv 2) pa_nil))) pe_bl rfl))))
    (pss_one (ps_ret (pv 1)))), ?_⟩
  refine fun d hd => ?_
  have s0 : Same H (upd H d (.dT [])) := same_upd hd
  have Pv : ∃ Pv : Nat → L2.St → Hp → Prop, Pv = fun i σ H' => ∃ (y2 y3 : Option V) (kvs : List (List Key × V)), σ = [some (.ref a), some (.ref d), y2, y3] ∧ Same H H' ∧ H' d = some (.dT kvs) ∧ kvs.length ≤ 2 * i ∧ ∀ x y, (valV kvs (k2 x y)).isSome = frd ((bs.map (·.2)).take i) x y := ⟨_, rfl⟩
  obtain ⟨Pv, hPv⟩ := Pv
  have start : Pv 0 [some (.ref a), some (.ref d), none, none] (upd H d (.dT [])) := by
    rw [hPv]
    exact ⟨_, _, [], rfl, s0, upd_same, Nat.zero_le _, fun x y => rfl⟩
  have turn : ∀ (i : Nat) (c : B3) (σ : L2.St) (H1 : Hp), bs[i]? = some c → Pv i σ H1 → ∀ (D : Ends), D.nx = Pv (i + 1) →
      (tSeq (sDPut (tVar 1) (tTup (tCons (tVar 2) (tCons (tVar 3) tNil))) (tC (.bl true))) (sDPut (tVar 1) (tTup (tCons (tVar 3) (tCons (tVar 2) tNil))) (tC (.bl true)))) D ((σ.set 2 (some (.str c.2.1))).set 3 (some (.str c.2.2))) H1 := by
    intro i c σ H1 hc pv D hD
    rw [hPv] at pv
    obtain ⟨y2, y3, kvs, rfl, s1, e1, l1, v1⟩ := pv
    have hi : i < bs.length := (List.getElem?_eq_some_iff.mp hc).1
    refine ⟨_, rfl, _, rfl, _, rfl, (by show 2 ≤ sizeLine; decide), fun p hp' => ?_⟩
    have n1 : d ≠ p := ne_of_none e1 hp'
    have e2 : upd H1 p (.tup [.str c.2.1, .str c.2.2]) d = some (.dT kvs) := (upd_ne n1).trans e1
    refine ⟨d, _, rfl, DPut.t (k := k2 c.2.1 c.2.2) e2 upd_same (small9 (by omega)), ?_⟩
    have pl := putK_len (kvs := kvs) (k := k2 c.2.1 c.2.2) (v := V.bl true)
    refine ⟨_, rfl, _, rfl, _, rfl, (by show 2 ≤ sizeLine; decide), fun p2 hp2 => ?_⟩
    have n2 : d ≠ p2 := fun z => by rw [← z, upd_same] at hp2; cases hp2
    refine ⟨d, _, rfl, DPut.t (k := k2 c.2.2 c.2.1) ((upd_ne n2).trans upd_same) upd_same (small9 (by omega)), ?_⟩
    have pl2 := putK_len (kvs := putK kvs (k2 c.2.1 c.2.2) (V.bl true)) (k := k2 c.2.2 c.2.1) (v := V.bl true)
    rw [hD, hPv]
    refine ⟨_, _, _, rfl, fun b o e => ?_, upd_same, by omega, fun x y => ?_⟩
    · have nb : b ≠ d := ne_of_none e hd
      rw [upd_ne nb]
      refine same_upd hp2 _ _ ?_
      rw [upd_ne nb]
      exact same_upd hp' _ _ (s1 _ _ e)
    · rw [both_put v1, List.take_add_one, List.getElem?_map, hc]
      rfl
  have fin : ∀ (σ : L2.St) (H1 : Hp), Pv (refs bs).length σ H1 → ∃ v, σ[1]? = some (some v) ∧ Q v H1 := by
    intro σ H1 pv
    rw [hPv] at pv
    obtain ⟨y2, y3, kvs, rfl, s1, e1, l1, v1⟩ := pv
    refine ⟨.ref d, rfl, q d H1 s1 hd ⟨kvs, e1, fun x y => ?_⟩⟩
    rw [v1, List.take_of_length_le (by show (bs.map _).length ≤ (bs.map _).length; rw [List.length_map, List.length_map]; exact Nat.le_refl _)]
  have item : ∀ (i : Nat) (v : V) (σ : L2.St) (H1 : Hp), (refs bs)[i]? = some v → Pv i σ H1 → ∃ c : B3, bs[i]? = some c ∧ v = .ref c.1 ∧ H1 c.1 = some (.tup [.str c.2.1, .str c.2.2]) := by
    intro i v σ H1 e pv
    rw [hPv] at pv
    obtain ⟨y2, y3, kvs, rfl, s1, e1, l1, v1⟩ := pv
    obtain ⟨c, hc, rfl⟩ := at_map e
    exact ⟨c, hc, rfl, s1 _ _ (hp c (List.mem_of_getElem? hc))⟩
  have stay : ∀ (i : Nat) (σ : L2.St) (H1 : Hp), Pv i σ H1 → Same H H1 := by
    intro i σ H1 pv
    rw [hPv] at pv
    obtain ⟨y2, y3, kvs, rfl, s1, _⟩ := pv
    exact s1
  rcases ha with e | e
  · refine .inr ⟨.ref a, rfl, a, rfl, ⟨_, .inl (.inl (s0 _ _ e))⟩, ?_⟩
    refine for_it (walk_tup (xs := refs bs)) Pv start (fun i σ H1 _ pv => .inl (.inl (stay i σ H1 pv _ _ e))) ?_ fin
    rintro i v σ H2 H1 hi pv ⟨rfl, e2⟩
    obtain ⟨c, hc, rfl, h3⟩ := item i v σ _ e2 pv
    exact ⟨c.1, _, rfl, .inl (.inl h3), rfl, _, _, rfl, _, _, rfl, rfl, turn i c σ _ hc pv _ rfl⟩
  · refine .inl ⟨.ref a, rfl, a, rfl, ⟨_, .inl (.inl (s0 _ _ e))⟩, ?_⟩
    refine for_it (walk_list (xs := refs bs)) Pv start (fun i σ H1 _ pv => .inl (.inl (stay i σ H1 pv _ _ e))) ?_ fin
    rintro i v σ H2 H1 hi pv ⟨rfl, e2⟩
    obtain ⟨c, hc, rfl, h3⟩ := item i v σ _ e2 pv
    exact ⟨c.1, _, rfl, .inl (.inl h3), rfl, _, _, rfl, _, _, rfl, rfl, turn i c σ _ hc pv _ rfl⟩
/-! ### last_friend_place -/
abbrev sLfp : Stmt := topS 6
abbrev nLfp : List Str := ["known", "row", "who", "places", "place", "other"]
theorem scLfp : FnScope nLfp ["known", "row", "who"] (defScope sLfp) := ⟨rfl, rfl, rfl, by decide +kernel, rfl, by decide +kernel, by decide +kernel⟩
theorem ok_lfp {f : Addr} {fd : FuncData} (B : Blt mg) (F : Fun K "last_friend_place" "last_friend_place" sLfp f fd) : FnOk P w K mg base CX0 1 f fd ["known", "row", "who"] spLfp := by
  refine fok F scLfp (fun vs H Q E h => ?_) (fun cdv A outer s H vs Q E hr h => ?_)
  · obtain ⟨d, r, ps, row, who, rfl, _⟩ := h
    rfl
  obtain ⟨d, r, ps, row, who, rfl, hd, hrow, hn, q⟩ := h
  have hu := hu_of hr
  refine ⟨_, pss_cons (ps_setLc (i := 3) (own := [("place", 4), ("other", 5)]) (g := gTup K 2 (gCons (gName 4) (gCons (gName 5) gNil))) (tt := tB (tDIn (tTup (tCons (tVar 2) (tCons (tVar 5) tNil))) (tVar 0))) rfl scLfp.nd rfl rfl (sw_true rfl rfl rfl (by decide +kernel)) (pi_or2 (pi_enum (by rfl) B.enumerate (pa_cons (pv 1) pa_nil)) (pi_enumT (by rfl) B.enumerate (pa_cons (pv 1) pa_nil))) (blkOk_by (N := nLfp) (sc := defScope sLfp) (by decide +kernel))
        (fun _ _ _ _ _ => pg_tup rfl (pgs_cons (pg_name (i := 4) scLfp.nd rfl (Or.inl rfl)) (pgs_cons (pg_name (i := 5) scLfp.nd rfl (Or.inl rfl)) pgs_nil)))
        (fun _ _ _ _ _ => pts_one (pt_cmp (pc_din hu (pe_tup (pa_cons (pv 2) (pa_cons (pv 5) pa_nil))) (pv 0)))) (fun _ _ _ _ _ => pv 4))
    (pss_one (ps_ret (pe_ifExp (pt_truth (pv 3) (by intro _; rfl)) (pe_ix ix_list (pv 3) (pe_un un_neg pe_int) (fun _ _ => rfl)) pe_non))), ?_⟩
  have key : ∀ (J : It) (G : Hp → Prop), Walk J (row.map V.str).length G (YPair (fun i => some (.int (i : Nat))) (fun i => (row.map V.str)[i]?)) → (∀ H', Same H H' → G H') → ∀ D, H D = none → ∀ (Qd : Hp → Prop), (∀ H' (ls : List Int), Same H H' → H' D = some (.lst (ls.map V.int)) → ls.getLast? = (lastP (frd ps who) row).map (fun k => (k : Int)) → Qd H') →
      ∃ W : Nat → Nat → Hp → Prop, (∃ m, W 0 m (upd H D (.lst []))) ∧ ∀ i m H, W i m H →
      (J.stop i H ∧ Qd H) ∨ (J.go i H ∧ ∃ Nx : Hp → Prop, (∀ H', Nx H' → ∃ m', m' < m ∧ W (i + 1) m' H') ∧ ∀ x H', J.yld i H x H' → (gTup K 2 (gCons (gName 4) (gCons (gName 5) gNil))) x (wipe [some (.ref d), some (.ref r), some (.str who), none, none, none] [4, 5]) H' fun σ2 H2 => wipe σ2 [4, 5] = wipe [some (.ref d), some (.ref r), some (.str who), none, none, none] [4, 5] ∧ (tB (tDIn (tTup (tCons (tVar 2) (tCons (tVar 5) tNil))) (tVar 0))) σ2 H2 fun b H3 =>
        if b = true then (tVar 4) σ2 H3 fun y H4 => ∃ acc, H4 D = some (.lst acc) ∧ acc.length < sizeLine ∧ Nx (upd H4 D (.lst (acc ++ [y]))) else Nx H3) := by
    intro J G wk hG D hD Qd fin
    refine lc_it wk (fun i H' => ∃ ls : List Int, Same H H' ∧ H' D = some (.lst (ls.map V.int)) ∧ ls.length ≤ i ∧ ls.getLast? = (lastP (frd ps who) (row.take i)).map (fun k => (k : Int))) ?_ ?_ ?_ ?_
    · exact ⟨[], same_upd hD, upd_same, Nat.zero_le _, rfl⟩
    · rintro i H' _ ⟨ls, s1, _⟩
      exact hG H' s1
    · rintro i v H1 H2 hi ⟨ls, s1, d1, m1, g1⟩ ⟨T, x1, x2, rfl, nT, rfl, e1, e2⟩
      cases e1
      obtain ⟨o, ho, rfl⟩ := at_map e2
      rw [List.length_map] at hi
      have s2 := s1.trans (same_upd (o := .tup [.int (i : Nat), .str o]) nT)
      refine ⟨T, _, rfl, .inl (.inl upd_same), rfl, _, _, rfl, _, _, rfl, rfl, rfl, ?_⟩
      refine ⟨_, rfl, _, rfl, (by show 2 ≤ sizeLine; decide), fun p hp => ?_⟩
      have s3 := s2.trans (same_upd (o := .tup [.str who, .str o]) hp)
      obtain ⟨kvs, k1, k3⟩ := hd.same s3
      have nDT : D ≠ T := ne_of_none d1 nT
      have d2 : upd H1 T (.tup [.int (i : Nat), .str o]) D = some (.lst (ls.map V.int)) := (upd_ne nDT).trans d1
      have nDp : D ≠ p := ne_of_none d2 hp
      have d3 := (upd_ne (o := .tup [.str who, .str o]) nDp).trans d2
      refine ⟨.ref d, rfl, d, _, rfl, DGet.t (k := k2 who o) k1 upd_same, _, rfl, ?_⟩
      rw [k3]
      have lt := lastP_take (frd ps who) ho
      refine ite2 (fun c => ?_) (fun c => ?_)
      · rw [if_pos c] at lt
        refine ⟨_, rfl, _, d3, ?_, ls ++ [(i : Int)], fun b o' e => ?_, ?_, ?_, ?_⟩
        · rw [List.length_map]
          exact small1000 (by omega)
        · rw [upd_ne (ne_of_none e hD)]
          exact s3 _ _ e
        · rw [upd_same, List.map_append]
          rfl
        · rw [List.length_append]
          show ls.length + 1 ≤ i + 1
          omega
        · rw [lt, List.getLast?_append]
          rfl
      · rw [if_neg c] at lt
        exact ⟨ls, s3, d3, by omega, by rw [lt]; exact g1⟩
    · rintro H1 ⟨ls, s1, d1, m1, g1⟩
      rw [List.length_map, List.take_of_length_le (Nat.le_refl _)] at g1
      exact fin H1 ls s1 d1 g1
  have last : ∀ (D : Addr) (H' : Hp) (ls : List Int), Same H H' → H' D = some (.lst (ls.map V.int)) → ls.getLast? = (lastP (frd ps who) row).map (fun k => (k : Int)) →
      (tRet (tIf (fun σ H Q => tVar 3 σ H fun x H1 => ∃ k, TruV K x H1 k ∧ Q k H1) (tOp (rIxL K) (tVar 3) (tUn (rU fun i => .int (-i)) (tC (.int 1)))) (tC .non))) { nx := fun _ H' => Q .non H', rt := Q } [some (.ref d), some (.ref r), some (.str who), some (.ref D), none, none] H' := by
    intro D H' ls s1 d1 g1
    refine ⟨.ref D, rfl, _, .inl ⟨_, .inl (.inl d1), rfl⟩, ite2 (fun c => ?_) (fun c => ?_)⟩
    · obtain ⟨z, hz⟩ : ∃ z, ls.getLast? = some z := by
        cases h : ls.getLast? with
        | some z => exact ⟨z, rfl⟩
        | none =>
          rw [List.getLast?_eq_none_iff.mp h] at c
          cases c
      obtain ⟨ys, hz'⟩ := List.getLast?_eq_some_iff.mp hz
      have ev : lfpV (lastP (frd ps who) row) = .int z := by
        rw [hz] at g1
        cases e : lastP (frd ps who) row with
        | none => rw [e] at g1; cases g1
        | some k =>
          rw [e] at g1
          have : z = (k : Int) := Option.some.inj g1
          rw [this]
          rfl
      refine ⟨.ref D, rfl, 1, rfl, D, _, -1, .int z, rfl, rfl, .inl (.inl d1), ?_, ?_⟩
      · rw [hz', List.map_append]
        exact atI_last _ _
      · rw [← ev]
        exact q H' s1
    · have e : lfpV (lastP (frd ps who) row) = .non := by
        cases h : lastP (frd ps who) row with
        | none => rfl
        | some k =>
          rw [h] at g1
          cases ls with
          | nil => cases g1
          | cons x r => exact absurd rfl c
      show Q .non H'
      rw [← e]
      exact q H' s1
  rcases hrow with e | e
  · refine .inr ⟨.ref r, rfl, r, _, rfl, e.sq, fun D hD => ?_⟩
    exact key _ _ walk_enumT (fun H' s => (e.same s).sq) D hD _ (fun H' ls s1 d1 g1 => last D H' ls s1 d1 g1)
  · refine .inl ⟨.ref r, rfl, r, _, rfl, .inl (.inl e), fun D hD => ?_⟩
    exact key _ _ walk_enum (fun H' s => .inl (.inl (s _ _ e))) D hD _ (fun H' ls s1 d1 g1 => last D H' ls s1 d1 g1)
/-! ### bar_words, bars -/
abbrev sBarW : Stmt := topS 15
abbrev nBarW : List Str := ["known", "row", "one", "other", "place", "there", "host", "words"]
theorem scBarW : FnScope nBarW ["known", "row", "one", "other"] (defScope sBarW) := ⟨rfl, rfl, rfl, by decide +kernel, rfl, by decide +kernel, by decide +kernel⟩
theorem ok_barW {f : Addr} {fd : FuncData} (CL : Cal P w K mg base 1 "last_friend_place" ["known", "row", "who"] spLfp) (F : Fun K "bar_words" "bar_words" sBarW f fd) : FnOk P w K mg base CX0 2 f fd ["known", "row", "one", "other"] spBarW := by
  refine fok F scBarW (fun vs H Q E h => ?_) (fun cdv A outer s H vs Q E hr h => ?_)
  · obtain ⟨d, r, ps, row, one, other, i, j, rfl, _⟩ := h
    rfl
  obtain ⟨d, r, ps, row, one, other, i, j, rfl, hd, hrow, hn, nd, hi, hj, q⟩ := h
  have hu := hu_of hr
  refine ⟨_, pss_cons (ps_if (PW.pt (pw_or (pt_cmpR op_notIn_seq (pv 2) (pv 1) (by rfl)) (pw_or1 (pt_cmpR op_notIn_seq (pv 3) (pv 1) (by rfl))))) (pss_one (ps_ret (pe_lst pa_nil))) pss_nil)
    (pss_cons (ps_set (i := 4) scBarW.nd rfl (.inl rfl) (pe_mid (pe_or2 (pe_bm PySem.F.plainAttrs_list PySem.F.slot_list_index PySem.F.type_list_index mt_idxL (pv 1) (pa_cons (pv 2) pa_nil)) (pe_bmT PySem.F.slot_tuple_index PySem.F.type_tuple_index mt_tup_index (pv 1) (pa_cons (pv 2) pa_nil)))))
    (pss_cons (ps_set (i := 5) scBarW.nd rfl (.inl rfl) (pe_mid (pe_or2 (pe_bm PySem.F.plainAttrs_list PySem.F.slot_list_index PySem.F.type_list_index mt_idxL (pv 1) (pa_cons (pv 3) pa_nil)) (pe_bmT PySem.F.slot_tuple_index PySem.F.type_tuple_index mt_tup_index (pv 1) (pa_cons (pv 3) pa_nil)))))
    (pss_cons (ps_set (i := 6) scBarW.nd rfl (.inl rfl) (pe_cal CL hr (pa_cons (pv 0) (pa_cons (pe_mid (pe_slice (sl_or2 sl_list sl_tupM) (pv 1) po_none (po_some (pv 4)))) (pa_cons (pv 2) pa_nil)))))
    (pss_cons (ps_set (i := 7) scBarW.nd rfl (.inl rfl) (pe_lst pa_nil))
    (pss_cons (ps_mid (ps_if (pt_mid (PW.pt (pw_and (pt_cmp (pc_isN (pv 6))) (pw_and1 (pt_cmpR op_lt (pv 4) (pv 5) (nomark _)))))) (pss_one (ps_expr (pe_bm PySem.F.plainAttrs_list PySem.F.slot_list_append PySem.F.type_list_append mt_append (pv 7) (pa_cons pe_str pa_nil)))) pss_nil))
    (pss_cons (ps_mid (ps_if (pt_mid (PW.pt (pw_and (pt_cmp (pc_notN (pv 6))) (pw_and1 (pt_chain op_lt op_lt (pv 6) (pv 5) (pv 4)))))) (pss_one (ps_expr (pe_bm PySem.F.plainAttrs_list PySem.F.slot_list_append PySem.F.type_list_append mt_append (pv 7) (pa_cons pe_str pa_nil)))) pss_nil))
    (pss_cons (ps_mid (ps_if (pt_mid (PW.pt (pw_and (pt_cmpR op_lt (pv 4) (pv 5) (nomark _)) (pw_and1 (pt_cmp (pc_din hu (pe_tup (pa_cons (pv 2) (pa_cons (pv 3) pa_nil))) (pv 0))))))) (pss_one (ps_expr (pe_bm PySem.F.plainAttrs_list PySem.F.slot_list_append PySem.F.type_list_append mt_append (pv 7) (pa_cons pe_str pa_nil)))) pss_nil))
    (pss_one (ps_ret (pv 7)))))))))), ?_⟩
  have sq : SqL K H r (row.map V.str) ∨ SqT K H r (row.map V.str) := hrow.elim (fun e => .inr e.sq) (fun e => .inl (.inl (.inl e)))
  have m1 : one ∈ row := List.mem_of_getElem? hi
  have m2 : other ∈ row := List.mem_of_getElem? hj
  refine ⟨.str one, rfl, .ref r, rfl, r, _, rfl, sq, rfl, flat_strs row, _, rfl, ?_⟩
  rw [inV_strs, decide_eq_true m1]
  refine ⟨.str other, rfl, .ref r, rfl, r, _, rfl, sq, rfl, flat_strs row, _, rfl, ?_⟩
  rw [inV_strs, decide_eq_true m2]
  -- place, there
  refine ⟨fun v H' => v = .int (i : Nat) ∧ H' = H, ?_, ?_⟩
  · rcases hrow with e | e
    · exact .inr ⟨.ref r, rfl, ⟨r, _, rfl, e⟩, _, rfl, r, row, one, i, rfl, rfl, e.sq, hi, nd_first nd hi, rfl, rfl⟩
    · exact .inl ⟨.ref r, rfl, .inl ⟨rfl, _, .inl (.inl e)⟩, _, rfl, r, row, one, i, rfl, rfl, e, hi, nd_first nd hi, rfl, rfl⟩
  rintro v H' ⟨rfl, rfl⟩
  refine ⟨fun v H'' => v = .int (j : Nat) ∧ H'' = H', ?_, ?_⟩
  · rcases hrow with e | e
    · exact .inr ⟨.ref r, rfl, ⟨r, _, rfl, e⟩, _, rfl, r, row, other, j, rfl, rfl, e.sq, hj, nd_first nd hj, rfl, rfl⟩
    · exact .inl ⟨.ref r, rfl, .inl ⟨rfl, _, .inl (.inl e)⟩, _, rfl, r, row, other, j, rfl, rfl, e, hj, nd_first nd hj, rfl, rfl⟩
  rintro v H ⟨rfl, rfl⟩
  -- host
  refine ⟨.ref d, rfl, fun v H' => ∃ r', v = .ref r' ∧ Same H H' ∧ RowAt H' r' (row.take i), ?_, ?_⟩
  · rcases hrow with e | e
    · refine ⟨.ref r, rfl, _, rfl, _, rfl, .inr ⟨r, _, rfl, e, fun t H' s1 e1 => ⟨t, rfl, s1, .inl ?_⟩⟩⟩
      rw [cutV_map, cutL_to] at e1
      exact e1
    · refine ⟨.ref r, rfl, _, rfl, _, rfl, .inl ⟨r, _, rfl, .inl (.inl e), fun p hp => ⟨p, rfl, same_upd hp, .inr ?_⟩⟩⟩
      rw [cutV_map, cutL_to]
      exact upd_same
  rintro v H1 ⟨r', rfl, s1, e1⟩
  refine ⟨.str one, rfl, d, r', ps, row.take i, one, rfl, hd.same s1, e1, (by rw [List.length_take]; omega), fun H2 s2 => ?_⟩
  have d2 := hd.same (s1.trans s2)
  generalize hh : lastP (frd ps one) (row.take i) = host
  -- words
  refine ⟨(by show 0 ≤ sizeLine; decide), fun p hp => ?_⟩
  have np : H p = none := (s1.trans s2).free hp
  have s3 := (s1.trans s2).trans (same_upd (o := .lst []) hp)
  -- one more word, or none
  have app : ∀ (H3 : Hp) (acc : List Str) (c b : Bool) (w : Str) (D : Ends), Same H H3 → H3 p = some (.lst (acc.map V.str)) → acc.length ≤ 10 → b = c → D.nx = (fun σ' H' => σ' = [some (.ref d), some (.ref r), some (.str one), some (.str other), some (.int (i : Nat)), some (.int (j : Nat)), some (lfpV host), some (.ref p)] ∧ Same H H' ∧ H' p = some (.lst ((acc ++ optW c w).map V.str))) →
      if b = true then (tDrop (tBM K "list" rAppend (tVar 7) (tCons (tC (.str w)) tNil))) D [some (.ref d), some (.ref r), some (.str one), some (.str other), some (.int (i : Nat)), some (.int (j : Nat)), some (lfpV host), some (.ref p)] H3 else tNext D [some (.ref d), some (.ref r), some (.str one), some (.str other), some (.int (i : Nat)), some (.int (j : Nat)), some (lfpV host), some (.ref p)] H3 := by
    rintro H3 acc c b w D s e al rfl hD
    refine ite2 (fun z => ?_) (fun z => ?_)
    · refine ⟨.ref p, rfl, .inl ⟨rfl, _, .inl (.inl e)⟩, p, _, _, rfl, rfl, e, (by rw [List.length_map]; exact small1000 (by omega)), ?_⟩
      rw [hD]
      refine ⟨rfl, fun b o e' => ?_, ?_⟩
      · rw [upd_ne (ne_of_none e' np)]
        exact s _ _ e'
      · rw [upd_same, optW, if_pos z, List.map_append]
        rfl
    · show D.nx _ _
      rw [hD]
      refine ⟨rfl, s, ?_⟩
      rw [optW, if_neg z, List.append_nil]
      exact e
  have oneL : ∀ (c : Bool) (w : Str), (optW c w).length ≤ 1 := fun c w => by
    unfold optW
    split
    · exact Nat.le_refl _
    · exact Nat.zero_le _
  have isN : decide (lfpV host = .non) = decide (host = none) := by
    cases host <;> rfl
  -- behind
  refine ⟨fun σ' H' => σ' = [some (.ref d), some (.ref r), some (.str one), some (.str other), some (.int (i : Nat)), some (.int (j : Nat)), some (lfpV host), some (.ref p)] ∧ Same H H' ∧ H' p = some (.lst (([] ++ optW (decide (host = none) && decide (i < j)) "behind").map V.str)), ?_, ?_⟩
  · refine ⟨fun b H' => b = (decide (host = none) && decide (i < j)) ∧ H' = upd H2 p (.lst []), ?_, ?_⟩
    · refine ⟨_, rfl, _, rfl, ?_⟩
      rw [isN]
      refine ite2 (fun z => ?_) (fun z => ?_)
      · refine ⟨_, rfl, _, rfl, _, _, rfl, rfl, _, rfl, ?_, rfl⟩
        rw [z, Bool.true_and]
        exact decide_eq_decide.mpr (by omega)
      · refine ⟨?_, rfl⟩
        rw [Bool.eq_false_iff.mpr z, Bool.false_and]
    · rintro b H' ⟨eb, rfl⟩
      exact app _ [] _ b "behind" _ s3 upd_same (Nat.zero_le _) eb rfl
  rintro σ4 H4 ⟨rfl, s4, e4⟩
  rw [List.nil_append] at e4
  have l4 := oneL (decide (host = none) && decide (i < j)) "behind"
  -- between
  refine ⟨fun σ' H' => σ' = [some (.ref d), some (.ref r), some (.str one), some (.str other), some (.int (i : Nat)), some (.int (j : Nat)), some (lfpV host), some (.ref p)] ∧ Same H H' ∧ H' p = some (.lst ((optW (decide (host = none) && decide (i < j)) "behind" ++ optW (btw i j host) "between").map V.str)), ?_, ?_⟩
  · refine ⟨fun b H' => b = (btw i j host) ∧ H' = H4, ?_, ?_⟩
    · refine ⟨_, rfl, _, rfl, ?_⟩
      rw [isN]
      cases host with
      | none => exact ⟨rfl, rfl⟩
      | some k =>
        refine ⟨_, rfl, _, rfl, _, _, rfl, rfl, _, rfl, ite2 (fun z => ?_) (fun z => ?_)⟩
        · refine ⟨_, rfl, _, _, rfl, rfl, _, rfl, ?_, rfl⟩
          have z1 := of_decide_eq_true z
          show _ = (decide (k < j) && decide (j < i))
          rw [decide_eq_true (show k < j by omega), Bool.true_and]
          exact decide_eq_decide.mpr (by omega)
        · refine ⟨_, rfl, ?_, rfl⟩
          have z1 := of_decide_eq_false (Bool.eq_false_iff.mpr z)
          show _ = (decide (k < j) && decide (j < i))
          rw [decide_eq_false (show ¬ k < j by omega), Bool.false_and]
    · rintro b H' ⟨eb, rfl⟩
      exact app _ _ _ b "between" _ s4 e4 (by omega) eb rfl
  rintro σ5 H5 ⟨rfl, s5, e5⟩
  have l5 := oneL (btw i j host) "between"
  -- friend
  refine ⟨fun σ' H' => σ' = [some (.ref d), some (.ref r), some (.str one), some (.str other), some (.int (i : Nat)), some (.int (j : Nat)), some (lfpV host), some (.ref p)] ∧ Same H H' ∧ H' p = some (.lst (((optW (decide (host = none) && decide (i < j)) "behind" ++ optW (btw i j host) "between") ++ optW (decide (i < j) && frd ps one other) "friend").map V.str)), ?_, ?_⟩
  · refine ⟨fun b H' => b = (decide (i < j) && frd ps one other) ∧ Same H H' ∧ H' p = H5 p, ?_, ?_⟩
    · refine ⟨_, rfl, _, rfl, _, _, rfl, rfl, _, rfl, ite2 (fun z => ?_) (fun z => ?_)⟩
      · have z1 := of_decide_eq_true z
        refine ⟨_, rfl, _, rfl, (by show 2 ≤ sizeLine; decide), fun t ht => ?_⟩
        have s6 := s5.trans (same_upd (o := .tup [.str one, .str other]) ht)
        obtain ⟨kvs, k1, k3⟩ := hd.same s6
        refine ⟨.ref d, rfl, d, _, rfl, DGet.t (k := k2 one other) k1 upd_same, _, rfl, ?_, s6, upd_ne (ne_of_none e5 ht)⟩
        rw [k3, decide_eq_true (show i < j by omega), Bool.true_and]
      · have z1 := of_decide_eq_false (Bool.eq_false_iff.mpr z)
        refine ⟨?_, s5, rfl⟩
        rw [decide_eq_false (show ¬ i < j by omega), Bool.false_and]
    · rintro b H' ⟨eb, s6, e6⟩
      exact app _ _ _ b "friend" _ s6 (e6.trans e5) (by rw [List.length_append]; omega) eb rfl
  rintro σ6 H6 ⟨rfl, s6, e6⟩
  refine ⟨.ref p, rfl, q p H6 s6 np ?_⟩
  rw [e6, wordsOf, hh]
abbrev sBars : Stmt := topS 16
abbrev nBars : List Str := ["friends", "row", "one", "other"]
theorem scBars : FnScope nBars nBars (defScope sBars) := ⟨rfl, rfl, rfl, by decide +kernel, rfl, by decide +kernel, by decide +kernel⟩
theorem ok_bars {f : Addr} {fd : FuncData} (CB : Cal P w K mg base 1 "both_ways" ["friends"] spBoth) (CW : Cal P w K mg base 2 "bar_words" ["known", "row", "one", "other"] spBarW) (F : Fun K "bars" "bars" sBars f fd) : FnOk P w K mg base CX0 3 f fd nBars spBars := by
  refine fok F scBars (fun vs H Q E h => ?_) (fun cdv A outer s H vs Q E hr h => ?_)
  · obtain ⟨a, r, ps, row, one, other, i, j, rfl, _⟩ := h
    rfl
  obtain ⟨a, r, ps, row, one, other, i, j, rfl, ha, hp, hrow, hn, nd, hi, hj, q⟩ := h
  refine ⟨_, pss_one (ps_ret (pe_cal CW hr (pa_cons (pe_cal CB hr (pa_cons (pv 0) pa_nil)) (pa_cons (pv 1) (pa_cons (pv 2) (pa_cons (pv 3) pa_nil)))))), ?_⟩
  refine ⟨_, rfl, a, ps, rfl, ha, hp, fun d H1 s1 nd1 k1 => ?_⟩
  refine ⟨_, rfl, _, rfl, _, rfl, d, r, ps, row, one, other, i, j, rfl, k1, hrow.same s1, hn, nd, hi, hj, fun p H2 s2 np e2 => ?_⟩
  exact q p H2 (s1.trans s2) (s1.free np) e2
/-! ### loose_at, is_loose, loose_in -/
abbrev sLooseAt : Stmt := topS 18
abbrev nLooseAt : List Str := ["known", "row", "place", "last"]
theorem scLooseAt : FnScope nLooseAt ["known", "row", "place"] (defScope sLooseAt) := ⟨rfl, rfl, rfl, by decide +kernel, rfl, by decide +kernel, by decide +kernel⟩
theorem ok_looseAt {f : Addr} {fd : FuncData} (B : Blt mg) (CL : Cal P w K mg base 1 "last_friend_place" ["known", "row", "who"] spLfp) (F : Fun K "loose_at" "loose_at" sLooseAt f fd) : FnOk P w K mg base CX0 2 f fd ["known", "row", "place"] spLooseAt := by
  refine fok F scLooseAt (fun vs H Q E h => ?_) (fun cdv A outer s H vs Q E hr h => ?_)
  · obtain ⟨d, r, ps, row, x, i, rfl, _⟩ := h
    rfl
  obtain ⟨d, r, ps, row, x, i, rfl, hd, hrow, hn, hi, q⟩ := h
  refine ⟨_, pss_cons (ps_set (i := 3) scLooseAt.nd rfl (.inl rfl) (pe_cal CL hr (pa_cons (pv 0) (pa_cons (pv 1) (pa_cons (pe_ix ix_seq (pv 1) (pv 2) (fun _ _ => rfl)) pa_nil)))))
    (pss_cons (ps_if (pt_cmp (pc_isN (pv 3))) (pss_one (ps_ret (pe_cmpR op_eq (pv 2) (pe_op op_sub (pe_callB call_len_seq (by rfl) B.len PySem.boot_len (pa_cons (pv 1) pa_nil)) pe_int) (nomark _)))) pss_nil)
    (pss_one (ps_ret (pe_cmpR op_eq (pv 3) (pe_op op_sub (pv 2) pe_int) (nomark _))))), ?_⟩
  have hlt : i < row.length := (List.getElem?_eq_some_iff.mp hi).1
  have fin : ∀ H2, Same H H2 → (tSeq (tIfS (tB (tIsN (tVar 3))) (tRet (tOp rEq (tVar 2) (tOp (rI0 fun i j => .int (i - j)) (tCB (fun xs H Q => ∃ p ys, xs = [.ref p] ∧ (SqL K H p ys ∨ SqT K H p ys) ∧ Q (.int ys.length) H) (tCons (tVar 1) tNil)) (tC (.int 1))))) tNext) (tRet (tOp rEq (tVar 3) (tOp (rI0 fun i j => .int (i - j)) (tVar 2) (tC (.int 1)))))) { nx := fun _ H' => Q .non H', rt := Q } [some (.ref d), some (.ref r), some (.int (i : Nat)), some (lfpV (lastP (frd ps x) row))] H2 := by
    intro H2 s2
    have q2 := q H2 s2
    unfold looseB at q2
    refine ⟨_, rfl, _, rfl, ?_⟩
    cases e : lastP (frd ps x) row with
    | none =>
      rw [e] at q2
      have sq : SqL K H2 r (row.map V.str) ∨ SqT K H2 r (row.map V.str) := (hrow.same s2).elim (fun e => .inr e.sq) (fun e => .inl (.inl (.inl e)))
      refine ⟨_, rfl, .ref r, rfl, r, _, rfl, sq, _, _, rfl, rfl, rfl, ?_⟩
      have ed : decide (V.int (i : Int) = V.int ((((row.map V.str).length : Nat) : Int) - 1)) = decide (i + 1 = row.length) := by
        rw [List.length_map]
        refine decide_eq_decide.mpr ⟨fun z => ?_, fun z => congrArg V.int (by omega)⟩
        have := V.int.inj z
        omega
      rw [ed]
      exact q2
    | some k =>
      rw [e] at q2
      refine ⟨_, rfl, _, rfl, _, _, rfl, rfl, rfl, ?_⟩
      have ed : decide (V.int (k : Int) = V.int ((i : Int) - 1)) = decide (k + 1 = i) := by
        refine decide_eq_decide.mpr ⟨fun z => ?_, fun z => congrArg V.int (by omega)⟩
        have := V.int.inj z
        omega
      show Q (.bl (decide (V.int (k : Int) = V.int ((i : Int) - 1)))) H2
      rw [ed]
      exact q2
  refine ⟨_, rfl, .ref r, rfl, .ref r, rfl, _, rfl, ?_⟩
  rcases hrow with e | e
  · refine .inr (.inl ⟨r, _, i, .str x, rfl, rfl, e.sq, atI_nat (ix_map hi), d, r, ps, row, x, rfl, hd, .inl e, hn, fun H2 s2 => fin H2 s2⟩)
  · refine .inl ⟨r, _, i, .str x, rfl, rfl, .inl (.inl e), atI_nat (ix_map hi), d, r, ps, row, x, rfl, hd, .inr e, hn, fun H2 s2 => fin H2 s2⟩
abbrev sLooseIn : Stmt := topS 19
abbrev nLooseIn : List Str := ["friends", "row", "known", "place", "who"]
theorem scLooseIn : FnScope nLooseIn ["friends", "row"] (defScope sLooseIn) := ⟨rfl, rfl, rfl, by decide +kernel, rfl, by decide +kernel, by decide +kernel⟩
theorem ok_looseIn {f : Addr} {fd : FuncData} (B : Blt mg) (CB : Cal P w K mg base 1 "both_ways" ["friends"] spBoth) (CL : Cal P w K mg base 2 "loose_at" ["known", "row", "place"] spLooseAt) (F : Fun K "loose_in" "loose_in" sLooseIn f fd) : FnOk P w K mg base CX0 3 f fd ["friends", "row"] spLooseIn := by
  refine fok F scLooseIn (fun vs H Q E h => ?_) (fun cdv A outer s H vs Q E hr h => ?_)
  · obtain ⟨a, r, ps, row, rfl, _⟩ := h
    rfl
  obtain ⟨a, r, ps, row, rfl, ha, hp, hrow, hn, q⟩ := h
  refine ⟨_, pss_cons (ps_set (i := 2) scLooseIn.nd rfl (.inr rfl) (pe_cal CB hr (pa_cons (pv 0) pa_nil)))
    (pss_one (ps_ret (pe_lc (own := [("place", 3), ("who", 4)]) (g := gTup K 2 (gCons (gName 3) (gCons (gName 4) gNil))) (tt := tB (tCall spLooseAt [] E0 (tCons (tVar 2) (tCons (tVar 1) (tCons (tVar 3) tNil))))) rfl scLooseIn.nd (pi_or2 (pi_enum (by rfl) B.enumerate (pa_cons (pv 1) pa_nil)) (pi_enumT (by rfl) B.enumerate (pa_cons (pv 1) pa_nil))) (blkOk_by (N := nLooseIn) (sc := defScope sLooseIn) (by decide +kernel))
        (fun _ _ _ _ _ => pg_tup rfl (pgs_cons (pg_name (i := 3) scLooseIn.nd rfl (Or.inl rfl)) (pgs_cons (pg_name (i := 4) scLooseIn.nd rfl (Or.inl rfl)) pgs_nil)))
        (fun _ _ _ _ _ => pts_one (pt_val (pe_cal CL hr (pa_cons (pv 2) (pa_cons (pv 1) (pa_cons (pv 3) pa_nil)))))) (fun _ _ _ _ _ => pv 4)))), ?_⟩
  refine ⟨_, rfl, a, ps, rfl, ha, hp, fun d H1 s1 nd1 k1 => ?_⟩
  have row1 := hrow.same s1
  have key : ∀ (J : It) (G : Hp → Prop), Walk J (row.map V.str).length G (YPair (fun i => some (.int (i : Nat))) (fun i => (row.map V.str)[i]?)) → (∀ H', Same H1 H' → G H') → ∀ D, H1 D = none →
      ∃ W : Nat → Nat → Hp → Prop, (∃ m, W 0 m (upd H1 D (.lst []))) ∧ ∀ i m H, W i m H →
      (J.stop i H ∧ Q (.ref D) H) ∨ (J.go i H ∧ ∃ Nx : Hp → Prop, (∀ H', Nx H' → ∃ m', m' < m ∧ W (i + 1) m' H') ∧ ∀ x H', J.yld i H x H' → (gTup K 2 (gCons (gName 3) (gCons (gName 4) gNil))) x (wipe [some (.ref a), some (.ref r), some (.ref d), none, none] [3, 4]) H' fun σ2 H2 => wipe σ2 [3, 4] = wipe [some (.ref a), some (.ref r), some (.ref d), none, none] [3, 4] ∧ (tB (tCall spLooseAt [] E0 (tCons (tVar 2) (tCons (tVar 1) (tCons (tVar 3) tNil))))) σ2 H2 fun b H3 =>
        if b = true then (tVar 4) σ2 H3 fun y H4 => ∃ acc, H4 D = some (.lst acc) ∧ acc.length < sizeLine ∧ Nx (upd H4 D (.lst (acc ++ [y]))) else Nx H3) := by
    intro J G wk hG D hD
    refine lc_it wk (fun i H' => Same H1 H' ∧ H' D = some (.lst ((looseTo ps row i).map V.str))) ?_ ?_ ?_ ?_
    · exact ⟨same_upd hD, upd_same⟩
    · rintro i H' _ ⟨s2, _⟩
      exact hG H' s2
    · rintro i v H2 H3 hi ⟨s2, d2⟩ ⟨T, x1, x2, rfl, nT, rfl, e1, e2⟩
      cases e1
      obtain ⟨o, ho, rfl⟩ := at_map e2
      have sT := same_upd (o := .tup [.int (i : Nat), .str o]) nT
      have s3 := s2.trans sT
      have ft := looseTo_step (ps := ps) ho
      refine ⟨T, _, rfl, .inl (.inl upd_same), rfl, _, _, rfl, _, _, rfl, rfl, rfl, ?_⟩
      refine ⟨_, rfl, _, rfl, _, rfl, d, r, ps, row, o, i, rfl, k1.same s3, row1.same s3, hn, ho, fun H4 s4 => ⟨_, rfl, ?_⟩⟩
      have d4 := s4 _ _ (sT _ _ d2)
      refine ite2 (fun c => ?_) (fun c => ?_)
      · rw [if_pos c] at ft
        refine ⟨_, rfl, _, d4, ?_, fun b o' e => ?_, ?_⟩
        · rw [List.length_map]
          exact small1000 (Nat.le_trans (looseTo_len _ _ _) (by omega))
        · rw [upd_ne (ne_of_none e hD)]
          exact s4 _ _ (s3 _ _ e)
        · rw [upd_same, ft, List.map_append]
          rfl
      · rw [if_neg c, List.append_nil] at ft
        exact ⟨s3.trans s4, by rw [ft]; exact d4⟩
    · rintro H2 ⟨s2, d2⟩
      rw [List.length_map, looseTo_all] at d2
      exact q D H2 (s1.trans s2) (s1.free hD) d2
  rcases row1 with e | e
  · exact .inr ⟨.ref r, rfl, r, _, rfl, e.sq, fun D hD => key _ _ walk_enumT (fun H' s => (e.same s).sq) D hD⟩
  · exact .inl ⟨.ref r, rfl, r, _, rfl, .inl (.inl e), fun D hD => key _ _ walk_enum (fun H' s => .inl (.inl (s _ _ e))) D hD⟩
/-! ### hindmost_loose, gone_and_left, goers, left_over -/
abbrev sHind : Stmt := topS 20
abbrev nHind : List Str := ["known", "row", "but", "place"]
theorem scHind : FnScope nHind ["known", "row", "but"] (defScope sHind) := ⟨rfl, rfl, rfl, by decide +kernel, rfl, by decide +kernel, by decide +kernel⟩
theorem ok_hind {f : Addr} {fd : FuncData} (B : Blt mg) (CL : Cal P w K mg base 2 "loose_at" ["known", "row", "place"] spLooseAt) (F : Fun K "hindmost_loose" "hindmost_loose" sHind f fd) : FnOk P w K mg base CX0 3 f fd ["known", "row", "but"] (spHind K) := by
  refine fok F scHind (fun vs H Q E h => ?_) (fun cdv A outer s H vs Q E hr h => ?_)
  · obtain ⟨d, r, p, ps, row, stay, rfl, _⟩ := h
    rfl
  obtain ⟨d, r, p, ps, row, stay, rfl, hd, e, hn, hb, q⟩ := h
  refine ⟨_, pss_cons (ps_for PassesOwn.never rfl (pi_range3 (by rfl) B.range (pa_cons (pe_op op_sub (pe_callB call_len_seq (by rfl) B.len PySem.boot_len (pa_cons (pv 1) pa_nil)) pe_int) (pa_cons (pe_un un_neg pe_int) (pa_cons (pe_un un_neg pe_int) pa_nil)))) (pg_name (i := 3) scHind.nd rfl (.inl rfl))
      (pss_one (ps_if (PW.pt (pw_and (pt_cmpR op_notIn_seq (pe_ix ix_list (pv 1) (pv 3) (fun _ _ => rfl)) (pv 2) (by rfl)) (pw_and1 (pt_val (pe_cal CL hr (pa_cons (pv 0) (pa_cons (pv 1) (pa_cons (pv 3) pa_nil)))))))) (pss_one (ps_ret (pv 3))) pss_nil)))
    (pss_one (ps_ret pe_non)), ?_⟩
  refine ⟨.ref r, rfl, r, _, rfl, .inl (.inl (.inl e)), _, _, rfl, rfl, 1, rfl, 1, rfl, _, _, _, _, rfl, RgC.neg ?_ ?_ (by decide) (by decide), ?_⟩
  · rw [List.length_map]
    omega
  · rw [List.length_map]
    omega
  rw [List.length_map]
  refine for_it (walk_rangeC (lo := (row.length : Int) - 1) (c := -1) (n := ((row.length : Int) - 1 - -1).toNat)) (fun k σ H' => ∃ (y3 : Option V), σ = [some (.ref d), some (.ref r), some (.ref p), y3] ∧ Same H H' ∧ someTo ps stay row (row.length - k) = someL ps stay row) ?_ (fun _ _ _ _ _ => trivial) ?_ ?_
  · exact ⟨_, rfl, Same.refl H, by rw [Nat.sub_zero, someTo_all]⟩
  · rintro k x σ H2 H1 hk ⟨y3, rfl, s1, g1⟩ ⟨rfl, rfl⟩
    have hk' : k < row.length := by omega
    obtain ⟨x, hx⟩ : ∃ x, row[row.length - 1 - k]? = some x := ⟨row[row.length - 1 - k]'(by omega), List.getElem?_eq_getElem _⟩
    have ei : ((row.length : Int) - 1 + (k : Int) * -1) = ((row.length - 1 - k : Nat) : Int) := by omega
    rw [show ((fun i : Nat => V.int ((row.length : Int) - 1 + (i : Int) * -1)) k) = V.int ((row.length - 1 - k : Nat) : Int) from congrArg V.int ei]
    have st := someTo_step (ps := ps) (stay := stay) hx
    rw [show row.length - 1 - k + 1 = row.length - k by omega, g1] at st
    have e1 := s1 _ _ e
    refine ⟨.ref r, rfl, _, rfl, r, _, _, .str x, rfl, rfl, .inl (.inl e1), atI_nat (ix_map hx), .ref p, rfl, p, _, rfl, hb _ s1, rfl, flat_strs _, _, rfl, ?_⟩
    rw [inV_strs]
    refine ite2 (fun c => ?_) (fun c => ?_)
    · have c' : (!decide (x ∈ stay)) = true := c
      refine ⟨_, rfl, _, rfl, _, rfl, d, r, ps, row, x, row.length - 1 - k, rfl, hd.same s1, .inr e1, hn, hx, fun H2 s2 => ⟨_, rfl, ?_⟩⟩
      refine ite2 (fun c2 => ?_) (fun c2 => ?_)
      · refine ⟨_, rfl, q _ H2 (s1.trans s2) ?_⟩
        rw [if_pos (by rw [c', c2]; rfl)] at st
        rw [st, List.getLast?_append]
        exact ⟨_, rfl, hx⟩
      · rw [if_neg (by rw [c', Bool.true_and]; exact c2), List.append_nil] at st
        exact ⟨_, rfl, s1.trans s2, by rw [show row.length - (k + 1) = row.length - 1 - k by omega]; exact st.symm⟩
    · have c' : ¬ (!decide (x ∈ stay)) = true := c
      rw [if_neg (by intro z; exact c' ((Bool.and_eq_true _ _ ▸ z).1)), List.append_nil] at st
      exact ⟨_, rfl, s1, by rw [show row.length - (k + 1) = row.length - 1 - k by omega]; exact st.symm⟩
  · rintro σ H1 ⟨y3, rfl, s1, g1⟩
    refine q _ H1 s1 ?_
    rw [← g1, show row.length - ((row.length : Int) - 1 - -1).toNat = 0 by omega]
    rfl
abbrev sStayed : Stmt := topS 21
abbrev nStayed : List Str := ["known", "row", "but", "left", "gone", "place"]
theorem scStayed : FnScope nStayed ["known", "row", "but"] (defScope sStayed) := ⟨rfl, rfl, rfl, by decide +kernel, rfl, by decide +kernel, by decide +kernel⟩
theorem ok_stayed {f : Addr} {fd : FuncData} (B : Blt mg) (CH : Cal P w K mg base 3 "hindmost_loose" ["known", "row", "but"] (spHind K)) (F : Fun K "gone_and_stayed" "gone_and_stayed" sStayed f fd) : FnOk P w K mg base CX0 4 f fd ["known", "row", "but"] (spStayed K) := by
  refine fok F scStayed (fun vs H Q E h => ?_) (fun cdv A outer s H vs Q E hr h => ?_)
  · obtain ⟨a, r, p, ps, row, stay, rfl, _⟩ := h
    rfl
  obtain ⟨d, r, p, ps, row, stay, rfl, k1, hrow, hd, hn, hb, q⟩ := h
  have h1 : Room 1 _ := hr.mono (by decide)
  refine ⟨_, (pss_cons (ps_set (i := 3) scStayed.nd rfl (.inl rfl) (pe_callTy call_list_of (by rfl) B.list (by decide +kernel) (pa_cons (pv 1) pa_nil)))
    (pss_cons (ps_set (i := 4) scStayed.nd rfl (.inl rfl) (pe_lst pa_nil))
    (pss_cons (ps_set (i := 5) scStayed.nd rfl (.inl rfl) (pe_cal CH hr (pa_cons (pv 0) (pa_cons (pv 3) (pa_cons (pv 2) pa_nil)))))
    (pss_cons (ps_while PassesOwn.never (pt_cmp (pc_notN (pv 5)))
      (pss_cons (ps_expr (pe_bm PySem.F.plainAttrs_list PySem.F.slot_list_append PySem.F.type_list_append mt_append (pv 4) (pa_cons (pe_bm PySem.F.plainAttrs_list PySem.F.slot_list_pop PySem.F.type_list_pop mt_popAt (pv 3) (pa_cons (pv 5) pa_nil)) pa_nil)))
      (pss_one (ps_set (i := 5) scStayed.nd rfl (.inl rfl) (pe_cal CH hr (pa_cons (pv 0) (pa_cons (pv 3) (pa_cons (pv 2) pa_nil))))))))
    (pss_one (ps_ret (pe_tup (pa_cons (pv 4) (pa_cons (pe_callTy call_tupleF (by rfl) B.tuple (by decide +kernel) (pa_cons (pv 3) pa_nil)) pa_nil))))))))), ?_⟩
  have sq : SqL K H r (row.map V.str) ∨ SqT K H r (row.map V.str) := hrow.elim (fun e => .inr e.sq) (fun e => .inl (.inl (.inl e)))
  refine ⟨.ref r, rfl, r, _, rfl, sq, fun le hle => ?_⟩
  have s2 := same_upd (o := .lst (row.map V.str)) hle
  refine ⟨(by show 0 ≤ sizeLine; decide), fun go hgo => ?_⟩
  have s3 := same_upd (o := .lst []) hgo
  have ngl : le ≠ go := fun z => by rw [← z, upd_same] at hgo; cases hgo
  have hle0 : H le = none := hle
  have hgo0 : H go = none := s2.free hgo
  have l3 : upd (upd H le (.lst (row.map V.str))) go (.lst []) le = some (.lst (row.map V.str)) := s3 _ _ upd_same
  have s03 := s2.trans s3
  refine ⟨_, rfl, _, rfl, _, rfl, d, le, p, ps, row, stay, rfl, (k1.same s2).same s3, l3, hn, (fun H' s => hb H' (s03.trans s)), fun v H4 s4 hv => ?_⟩
  refine while_by (fun σ H' => ∃ (acc cur : List Str) (v : V), σ = [some (.ref d), some (.ref r), some (.ref p), some (.ref le), some (.ref go), some v] ∧ Same H H' ∧ KnAt H' d ps ∧ H' le = some (.lst (cur.map V.str)) ∧ H' go = some (.lst (acc.map V.str)) ∧ cur.Nodup ∧ acc.length + cur.length = row.length ∧ hindV cur (someL ps stay cur).getLast? v ∧ acc ++ goneO ps stay cur = goneO ps stay row ∧ goneR ps stay cur = goneR ps stay row)
    (fun σ H' => match H' le with | some (.lst xs) => xs.length | _ => 0) ?_ ?_ ?_
  · exact ⟨[], row, v, rfl, s03.trans s4, ((k1.same s2).same s3).same s4, s4 _ _ l3, s4 _ _ upd_same, hd, Nat.zero_add _, hv, rfl, rfl⟩
  · rintro σ H5 ⟨acc, cur, v, rfl, s5, k5, l5, g5, d5, n5, v5, a5, r5⟩
    refine ⟨_, rfl, ?_⟩
    cases e : (someL ps stay cur).getLast? with
    | none =>
      rw [e] at v5
      have v5' : v = .non := v5
      subst v5'
      refine ⟨_, rfl, ?_⟩
      have en := List.getLast?_eq_none_iff.mp e
      obtain ⟨z1, z2⟩ := gone_none en
      rw [z1, List.append_nil] at a5
      rw [z2] at r5
      refine ⟨.ref go, rfl, .ref le, rfl, le, _, rfl, .inl ⟨.inl (.inl l5), fun t H6 s6 n6 t6 => ?_⟩⟩
      refine ⟨(by show 2 ≤ sizeLine; decide), fun T hT => ?_⟩
      have s7 := same_upd (o := .tup [.ref go, .ref t]) hT
      refine q T go t _ ((s5.trans s6).trans s7) hgo0 upd_same ?_ ?_
      · rw [← a5]
        exact s7 _ _ (s6 _ _ g5)
      · rw [← r5]
        exact t6.same s7
    | some x =>
      rw [e] at v5
      obtain ⟨i, rfl, hx⟩ := v5
      have hi : i < cur.length := (List.getElem?_eq_some_iff.mp hx).1
      obtain ⟨z1, z2⟩ := gone_some d5 e
      have rl := rem_len d5 (List.mem_of_getElem? hx)
      refine ⟨_, rfl, ?_⟩
      have ngl' : go ≠ le := Ne.symm ngl
      refine ⟨.ref go, rfl, .inl ⟨rfl, _, .inl (.inl g5)⟩, .ref le, rfl, .inl ⟨rfl, _, .inl (.inl l5)⟩, _, rfl, le, _, i, i, .str x, rfl, rfl, l5, by omega, by omega, ?_, ix_map hx, ?_⟩
      · rw [List.length_map]
        exact PyProof.Rows.seqIndex_at (by omega) (by omega)
      rw [erase_map, erase_rem d5 hx]
      have g6 : upd H5 le (.lst ((rem cur x).map V.str)) go = some (.lst (acc.map V.str)) := (upd_ne ngl').trans g5
      refine ⟨go, _, _, rfl, rfl, g6, ?_, ?_⟩
      · rw [List.length_map]
        exact small1000 (by omega)
      have l7 : upd (upd H5 le (.lst ((rem cur x).map V.str))) go (.lst (acc.map V.str ++ [.str x])) le = some (.lst ((rem cur x).map V.str)) := (upd_ne ngl).trans upd_same
      have s7 : Same H (upd (upd H5 le (.lst ((rem cur x).map V.str))) go (.lst (acc.map V.str ++ [.str x]))) := fun b o z => by
        rw [upd_ne (ne_of_none z hgo0), upd_ne (ne_of_none z hle0)]
        exact s5 _ _ z
      have k7 : KnAt (upd (upd H5 le (.lst ((rem cur x).map V.str))) go (.lst (acc.map V.str ++ [.str x]))) d ps := by
        obtain ⟨kvs, w1, w2⟩ := k5
        exact ⟨kvs, (upd_ne (ne_of w1 g5 (fun z => nomatch z))).trans ((upd_ne (ne_of w1 l5 (fun z => nomatch z))).trans w1), w2⟩
      refine ⟨_, rfl, _, rfl, _, rfl, d, le, p, ps, rem cur x, stay, rfl, k7, l7, by omega, (fun H' s => hb H' (s7.trans s)), fun v8 H8 s8 hv8 => ?_⟩
      refine ⟨⟨acc ++ [x], rem cur x, v8, rfl, s7.trans s8, k7.same s8, s8 _ _ l7, ?_, rem_nodup d5, ?_, hv8, ?_, ?_⟩, ?_⟩
      · rw [List.map_append]
        exact s8 _ _ upd_same
      · rw [List.length_append]
        show acc.length + 1 + _ = _
        omega
      · rw [List.append_assoc]
        show acc ++ (x :: goneO ps stay (rem cur x)) = _
        rw [← z1]
        exact a5
      · rw [← z2]
        exact r5
      · rw [s8 _ _ l7, l5]
        show ((rem cur x).map V.str).length < (cur.map V.str).length
        rw [List.length_map, List.length_map]
        omega
  · rintro σ H5 Q1 Q2 hQ ⟨y, hy, c, hc, z⟩
    exact ⟨y, hy, c, hc, hQ _ _ z⟩
abbrev sGone : Stmt := topS 22
abbrev nGone : List Str := ["friends", "row", "but"]
theorem scGone : FnScope nGone nGone (defScope sGone) := ⟨rfl, rfl, rfl, by decide +kernel, rfl, by decide +kernel, by decide +kernel⟩
theorem ok_gone {f : Addr} {fd : FuncData} (CB : Cal P w K mg base 1 "both_ways" ["friends"] spBoth) (CS : Cal P w K mg base 4 "gone_and_stayed" ["known", "row", "but"] (spStayed K)) (F : Fun K "gone_and_left" "gone_and_left" sGone f fd) : FnOk P w K mg base CX0 5 f fd ["friends", "row", "but"] (spGone K) := by
  refine fok F scGone (fun vs H Q E h => ?_) (fun cdv A outer s H vs Q E hr h => ?_)
  · obtain ⟨a, r, p, ps, row, stay, rfl, _⟩ := h
    rfl
  obtain ⟨a, r, p, ps, row, stay, rfl, ha, hp, hrow, hd, hn, hb, q⟩ := h
  refine ⟨_, pss_one (ps_ret (pe_cal CS hr (pa_cons (pe_cal CB hr (pa_cons (pv 0) pa_nil)) (pa_cons (pv 1) (pa_cons (pv 2) pa_nil))))), ?_⟩
  refine ⟨_, rfl, a, ps, rfl, ha, hp, fun d H1 s1 nd1 k1 => ?_⟩
  refine ⟨_, rfl, _, rfl, d, r, p, ps, row, stay, rfl, k1, hrow.same s1, hd, hn, (fun H' s => hb H' (s1.trans s)), fun T g t H2 s2 n2 eT eg et => ?_⟩
  exact q T g t H2 (s1.trans s2) (s1.free n2) eT eg et
/-! ### next_barred, ring_among, order_of -/
abbrev sNextB : Stmt := topS 30
abbrev nNextB : List Str := ["known", "row", "who", "left", "barred", "other", "word"]
abbrev pNextB : List Str := ["known", "row", "who", "left"]
theorem scNextB : FnScope nNextB pNextB (defScope sNextB) := ⟨rfl, rfl, rfl, by decide +kernel, rfl, by decide +kernel, by decide +kernel⟩
theorem ok_nextB {f : Addr} {fd : FuncData} (CB : Cal P w K mg base 2 "bar_words" ["known", "row", "one", "other"] spBarW) (F : Fun K "next_barred" "next_barred" sNextB f fd) : FnOk P w K mg base CX0 3 f fd pNextB spNextB := by
  refine fok F scNextB (fun vs H Q E h => ?_) (fun cdv A outer s H vs Q E hr h => ?_)
  · obtain ⟨d, r, lf, ps, row, left, who, rfl, _⟩ := h
    rfl
  obtain ⟨d, r, lf, ps, row, left, who, rfl, hd, hrow, hn, ndr, hlf, hll, hsub, hw, hne, q⟩ := h
  obtain ⟨iw, hiw⟩ := List.mem_iff_getElem?.mp hw
  refine ⟨_, pss_cons (ps_setLc2 (i := 4) (own := [("other", 5), ("word", 6)]) (vs1 := [6]) (g := gName 5) (tt := tYes) (wi1 := iList K (tCall spBarW [] E0 (tCons (tVar 0) (tCons (tVar 1) (tCons (tVar 2) (tCons (tVar 5) tNil)))))) (g1 := gName 6) (tt1 := tYes) (te := tTup (tCons (tVar 5) (tCons (tVar 6) tNil))) rfl scNextB.nd rfl rfl (sw_true rfl rfl rfl (by decide +kernel)) (pi_tup (pv 3)) (blkOk_by (N := nNextB) (sc := defScope sNextB) (by decide +kernel)) (by decide)
        (fun _ _ _ _ _ => pg_name (i := 5) scNextB.nd rfl (Or.inl rfl)) (fun _ _ _ _ _ => pts_nil)
        (fun _ _ _ _ _ => pi_list (pe_cal CB hr (pa_cons (pv 0) (pa_cons (pv 1) (pa_cons (pv 2) (pa_cons (pv 5) pa_nil))))))
        (fun _ _ _ _ _ => pg_name (i := 6) scNextB.nd rfl (Or.inl rfl)) (fun _ _ _ _ _ => pts_nil) (fun _ _ _ _ _ => pe_tup (pa_cons (pv 5) (pa_cons (pv 6) pa_nil))))
    (pss_one (ps_ret (pe_ix ix_list (pv 4) pe_int (fun _ _ => rfl)))), ?_⟩
  refine ⟨.ref lf, rfl, lf, rfl, ⟨_, hlf.sq⟩, fun D hD => ?_⟩
  refine lc2_it (walk_tup (xs := left.map V.str)) (fun i H' => ∃ bs : List B3, Same H H' ∧ H' D = some (.lst (refs bs)) ∧ PairsAt H' bs ∧ bs.length ≤ 3 * i ∧ bs.map (·.2) = barredTo ps row left who i) ?_ ?_ ?_ ?_
  · exact ⟨[], same_upd hD, upd_same, (fun _ h => nomatch h), Nat.zero_le _, rfl⟩
  · rintro i H' _ ⟨bs, s1, _⟩
    exact (hlf.same s1).sq
  · rintro i v H2 H1 hi ⟨bs, s1, d1, p1, l1, m1⟩ ⟨rfl, e2⟩
    obtain ⟨o, ho, rfl⟩ := at_map e2
    rw [List.length_map] at hi
    obtain ⟨j, hj⟩ := List.mem_iff_getElem?.mp (hsub o (List.mem_of_getElem? ho))
    refine ⟨rfl, ?_⟩
    refine ⟨_, rfl, _, rfl, _, rfl, _, rfl, d, r, ps, row, who, o, iw, j, rfl, hd.same s1, hrow.same s1, hn, ndr, hiw, hj, fun lw H3 s3 n3 e3 => ?_⟩
    have ew : wordsOf ps row who o iw j = wordsAt ps row who o := by
      unfold wordsAt
      rw [idx_at ndr hiw, idx_at ndr hj]
    rw [ew] at e3
    have wl : (wordsAt ps row who o).length ≤ 3 := words_len _ _ _ _ _ _
    have nlD : lw ≠ D := fun z => by rw [z, d1] at n3; cases n3
    refine ⟨lw, rfl, ⟨_, .inl (.inl e3)⟩, ?_⟩
    refine lc1_it (walk_list (xs := (wordsAt ps row who o).map V.str)) (fun k H' => ∃ bs' : List B3, Same H H' ∧ H' D = some (.lst (refs bs')) ∧ PairsAt H' bs' ∧ H' lw = some (.lst ((wordsAt ps row who o).map V.str)) ∧ bs'.length ≤ 3 * i + k ∧ bs'.map (·.2) = barredTo ps row left who i ++ ((wordsAt ps row who o).take k).map fun w => (o, w)) ?_ ?_ ?_ ?_
    · exact ⟨bs, s1.trans s3, s3 _ _ d1, p1.same s3, e3, by omega, by rw [m1]; simp⟩
    · rintro k H' _ ⟨bs', _, _, _, e, _⟩
      exact .inl (.inl e)
    · rintro k v H5 H4 hk ⟨bs', s4, d4, p4, w4, l4, m4⟩ ⟨rfl, ex⟩
      obtain ⟨wd, hwd, rfl⟩ := at_map ex
      rw [List.length_map] at hk
      refine ⟨rfl, ?_⟩
      refine ⟨_, rfl, _, rfl, (by show 2 ≤ sizeLine; decide), fun pt hpt => ?_⟩
      have s5 := same_upd (o := .tup [.str o, .str wd]) hpt
      have npD : pt ≠ D := fun z => by rw [z, d4] at hpt; cases hpt
      refine ⟨_, s5 _ _ d4, ?_, bs' ++ [(pt, o, wd)], fun b o' e => ?_, ?_, ?_, ?_, ?_, ?_⟩
      · show (bs'.map _).length < sizeLine
        rw [List.length_map]
        exact small1000 (by omega)
      · rw [upd_ne (ne_of_none e hD)]
        exact s5 _ _ (s4 _ _ e)
      · rw [upd_same]
        show some (HO.lst (refs bs' ++ [.ref pt])) = some (.lst (refs (bs' ++ [_])))
        unfold refs
        rw [List.map_append]
        rfl
      · intro c hc
        rcases List.mem_append.mp hc with z | z
        · have := s5 _ _ (p4 c z)
          exact (upd_ne (ne_of this (s5 _ _ d4) (fun z => nomatch z))).trans this
        · rw [List.mem_singleton.mp z]
          exact (upd_ne npD).trans upd_same
      · rw [upd_ne nlD]
        exact s5 _ _ w4
      · rw [List.length_append]
        show bs'.length + 1 ≤ _
        omega
      · rw [List.map_append, m4, List.take_add_one, hwd, List.map_append, List.append_assoc]
        rfl
    · rintro H4 ⟨bs', s4, d4, p4, w4, l4, m4⟩
      rw [List.length_map] at l4 m4
      rw [List.take_of_length_le (Nat.le_refl _)] at m4
      exact ⟨bs', s4, d4, p4, by omega, by rw [m4, barredTo_step ho]⟩
  · rintro H1 ⟨bs, s1, d1, p1, l1, m1⟩
    rw [List.length_map, barredTo_all] at m1
    cases bs with
    | nil => exact absurd m1.symm hne
    | cons c bs =>
      refine ⟨.ref D, rfl, D, _, 0, .ref c.1, rfl, rfl, .inl (.inl d1), atI_nat (j := 0) rfl, q c.1 H1 s1 ?_⟩
      have en : nextB ps row left who = c.2 := by
        unfold nextB
        rw [← m1]
        rfl
      rw [en]
      exact p1 c (List.mem_cons_self ..)
abbrev sRingA : Stmt := topS 31
abbrev nRingA : List Str := ["friends", "row", "left", "known", "path", "places", "who", "other", "word"]
theorem scRingA : FnScope nRingA ["friends", "row", "left"] (defScope sRingA) := ⟨rfl, rfl, rfl, by decide +kernel, rfl, by decide +kernel, by decide +kernel⟩
theorem ok_ringA {f : Addr} {fd : FuncData} (B : Blt mg) (CB : Cal P w K mg base 1 "both_ways" ["friends"] spBoth) (CN : Cal P w K mg base 3 "next_barred" ["known", "row", "who", "left"] spNextB) (F : Fun K "ring_among" "ring_among" sRingA f fd) : FnOk P w K mg base CX0 4 f fd ["friends", "row", "left"] spRingA := by
  refine fok F scRingA (fun vs H Q E h => ?_) (fun cdv A outer s H vs Q E hr h => ?_)
  · obtain ⟨a, r, lf, ps, row, left, rfl, _⟩ := h
    rfl
  obtain ⟨a, r, lf, ps, row, left, rfl, ha, hp, hrow, hn, ndr, hlf, ndl, hne, hsub, hbar, q⟩ := h
  have h1 : Room 1 _ := hr.mono (by decide)
  have hu := hu_of hr
  have hll : left.length ≤ 100 := Nat.le_trans (nd_len left row ndl hsub) hn
  refine ⟨_, pss_cons (ps_set (i := 3) scRingA.nd rfl (.inl rfl) (pe_cal CB h1 (pa_cons (pv 0) pa_nil)))
    (pss_cons (ps_set (i := 4) scRingA.nd rfl (.inl rfl) (pe_lst pa_nil))
    (pss_cons (ps_set (i := 5) scRingA.nd rfl (.inl rfl) pe_dnewK)
    (pss_cons (ps_set (i := 6) scRingA.nd rfl (.inl rfl) (pe_ix ix_tup (pv 2) pe_int (fun _ _ => rfl)))
    (pss_cons (ps_while PassesOwn.never (pt_cmp (pc_dnotin hu (pv 6) (pv 5)))
      (pss_cons (ps_dput hu (pv 5) (pv 6) (pe_callB call_len_seq (by rfl) B.len PySem.boot_len (pa_cons (pv 4) pa_nil)) rfl)
      (pss_cons (ps_asg (pe_cal CN hr (pa_cons (pv 3) (pa_cons (pv 1) (pa_cons (pv 6) (pa_cons (pv 2) pa_nil))))) (pg_tup rfl (pgs_cons (pg_name (i := 7) scRingA.nd rfl (.inl rfl)) (pgs_cons (pg_name (i := 8) scRingA.nd rfl (.inl rfl)) pgs_nil))))
      (pss_cons (ps_expr (pe_bm PySem.F.plainAttrs_list PySem.F.slot_list_append PySem.F.type_list_append mt_append (pv 4) (pa_cons (pe_tup (pa_cons (pv 6) (pa_cons (pv 8) pa_nil))) pa_nil)))
      (pss_one (ps_set (i := 6) scRingA.nd rfl (.inl rfl) (pv 7)))))))
    (pss_one (ps_ret (pe_slice sl_list (pv 4) (po_some (pe_dget hu (pv 5) (pv 6) (fun _ _ => rfl))) po_none))))))), ?_⟩
  refine ⟨_, rfl, a, ps, rfl, ha, hp, fun d H1 s1 nd1 k1 => ?_⟩
  refine ⟨(by show 0 ≤ sizeLine; decide), fun pa hpa => ?_⟩
  have s2 := same_upd (o := .lst []) hpa
  have npa : H pa = none := s1.free hpa
  refine fun pl hpl => ?_
  have s3 := same_upd (o := .dK []) hpl
  have npl : H pl = none := (s1.trans s2).free hpl
  have nap : pa ≠ pl := fun z => by rw [← z, upd_same] at hpl; cases hpl
  have s03 := (s1.trans s2).trans s3
  obtain ⟨x0, rest, el⟩ : ∃ x0 rest, left = x0 :: rest := by
    cases left with
    | nil => exact absurd rfl hne
    | cons x0 rest => exact ⟨x0, rest, rfl⟩
  have hlf3 := hlf.same s03
  refine ⟨.ref lf, rfl, lf, _, 0, .str x0, rfl, rfl, hlf3.sq, by rw [el]; exact atI_nat (j := 0) rfl, ?_⟩
  refine while_by (fun σ H' => ∃ (bs : List B3) (kvs : List (Key × V)) (who : Str) (m : Nat) (y7 y8 : Option V), σ = [some (.ref a), some (.ref r), some (.ref lf), some (.ref d), some (.ref pa), some (.ref pl), some (.str who), y7, y8] ∧ Same H H' ∧ KnAt H' d ps ∧ H' pa = some (.lst (refs bs)) ∧ PairsAt H' bs ∧ H' pl = some (.dK kvs) ∧ kvs.length ≤ bs.length ∧ who ∈ left ∧ ((bs.map (·.2)).map (·.1)).Nodup ∧ (∀ x ∈ (bs.map (·.2)).map (·.1), x ∈ left) ∧ m + bs.length = left.length + 1 ∧
      (∀ x, valV kvs (.inr x) = if x ∈ (bs.map (·.2)).map (·.1) then some (.int (((bs.map (·.2)).map (·.1)).idxOf x : Nat)) else none) ∧ ringN ps row left m (bs.map (·.2)) who = ringOf ps row left)
    (fun σ H' => match H' pa with | some (.lst xs) => left.length + 1 - xs.length | _ => 0) ?_ ?_ ?_
  · refine ⟨[], [], x0, left.length + 1, _, _, rfl, s03, (k1.same s2).same s3, s3 _ _ upd_same, (fun _ h => nomatch h), upd_same, Nat.le_refl _, by rw [el]; exact List.mem_cons_self .., List.nodup_nil, (fun _ h => nomatch h), rfl, fun x => rfl, ?_⟩
    unfold ringOf
    rw [el]
    rfl
  · rintro σ H5 ⟨bs, kvs, who, m, y7, y8, rfl, s5, k5, a5, p5, l5, z5, w5, n5, b5, m5, v5, r5⟩
    refine ⟨.str who, rfl, .ref pl, rfl, pl, _, rfl, DGet.k (k := .inr who) l5, _, rfl, ?_⟩
    rw [v5]
    by_cases c : who ∈ (bs.map (·.2)).map (·.1)
    · rw [if_pos c]
      have g := DGet.k (k := .inr who) l5
      rw [v5, if_pos c] at g
      refine ⟨.ref pa, rfl, .ref pl, rfl, .str who, rfl, pl, _, rfl, g, _, rfl, pa, _, rfl, .inl (.inl a5), fun p hp6 => ?_⟩
      unfold refs
      rw [cutV_map, cutL_from]
      have s6 := same_upd (o := .lst ((bs.drop (((bs.map (·.2)).map (·.1)).idxOf who)).map fun b => V.ref b.1)) hp6
      refine q p (bs.drop (((bs.map (·.2)).map (·.1)).idxOf who)) _ (s5.trans s6) (s5.free hp6) upd_same (fun c hc => s6 _ _ (p5 c (List.mem_of_mem_drop hc))) ?_
      rw [← r5, List.map_drop]
      match m, m5 with
      | 0, m5 =>
        have := nd_len _ _ n5 b5
        rw [List.length_map, List.length_map] at this
        omega
      | m + 1, _ =>
        unfold ringN
        rw [if_pos c]
    · rw [if_neg c]
      have bl1 : bs.length + 1 ≤ left.length := by
        have := nd_len (who :: (bs.map (·.2)).map (·.1)) left (List.nodup_cons.mpr ⟨c, n5⟩) (fun x hx => by
          rcases List.mem_cons.mp hx with z | z
          · rw [z]
            exact w5
          · exact b5 x z)
        rw [List.length_cons, List.length_map, List.length_map] at this
        exact this
      have bl : bs.length ≤ 100 := by omega
      have dp : DPut H5 pl (.str who) (.int (refs bs).length) (upd H5 pl (.dK (putK kvs (.inr who) (.int (refs bs).length)))) := DPut.k (k := .inr who) l5 (small9 (by omega))
      refine ⟨.ref pa, rfl, pa, _, rfl, .inl (.inl (.inl a5)), .ref pl, rfl, .str who, rfl, pl, _, rfl, dp, ?_⟩
      have ne1 : pa ≠ pl := nap
      have a6 : upd H5 pl (.dK (putK kvs (.inr who) (.int (refs bs).length))) pa = some (.lst (refs bs)) := (upd_ne ne1).trans a5
      have k6 : KnAt (upd H5 pl (.dK (putK kvs (.inr who) (.int (refs bs).length)))) d ps := by
        obtain ⟨kk, w1, w2⟩ := k5
        exact ⟨kk, (upd_ne (ne_of w1 l5 (fun z => nomatch z))).trans w1, w2⟩
      have s6 : Same H (upd H5 pl (.dK (putK kvs (.inr who) (.int (refs bs).length)))) := fun b o e => by
        rw [upd_ne (ne_of_none e npl)]
        exact s5 _ _ e
      have p6 : PairsAt (upd H5 pl (.dK (putK kvs (.inr who) (.int (refs bs).length)))) bs := fun c hc => (upd_ne (ne_of (p5 c hc) l5 (fun z => nomatch z))).trans (p5 c hc)
      refine ⟨_, rfl, _, rfl, _, rfl, _, rfl, d, r, lf, ps, row, left, who, rfl, k6, hrow.same s6, hn, ndr, hlf.same s6, hll, hsub, hsub who w5, hbar who w5, fun T H7 s7 e7 => ?_⟩
      refine ⟨T, _, rfl, .inl (.inl e7), rfl, _, _, rfl, _, _, rfl, rfl, ?_⟩
      have a7 := s7 _ _ a6
      refine ⟨.ref pa, rfl, .inl ⟨rfl, _, .inl (.inl a7)⟩, _, rfl, _, rfl, (by show 2 ≤ sizeLine; decide), fun pt hpt => ?_⟩
      have s8 := same_upd (o := .tup [.str who, .str (nextB ps row left who).2]) hpt
      have npt : pt ≠ pa := fun z => by rw [z, a7] at hpt; cases hpt
      have a8 := s8 _ _ a7
      refine ⟨pa, _, _, rfl, rfl, a8, ?_, ?_⟩
      · show (bs.map _).length < sizeLine
        rw [List.length_map]
        exact small1000 (by omega)
      have l8 := s8 _ _ (s7 _ _ (upd_same (H := H5) (a := pl) (o := .dK (putK kvs (.inr who) (.int (refs bs).length)))))
      have nx := barred_mem.mp (next_mem (hbar who w5))
      refine ⟨_, rfl, ⟨bs ++ [(pt, who, (nextB ps row left who).2)], putK kvs (.inr who) (.int (refs bs).length), (nextB ps row left who).1, m - 1, _, _, rfl, fun b o e => ?_, ?_, ?_, ?_, ?_, ?_, nx.1, ?_, ?_, ?_, fun x => ?_, ?_⟩, ?_⟩
      · rw [upd_ne (ne_of_none e npa)]
        exact s8 _ _ (s7 _ _ (s6 _ _ e))
      · obtain ⟨kk, w1, w2⟩ := (k6.same s7).same s8
        exact ⟨kk, (upd_ne (ne_of w1 a8 (fun z => nomatch z))).trans w1, w2⟩
      · rw [upd_same]
        show some (HO.lst (refs bs ++ [.ref pt])) = some (.lst (refs (bs ++ [_])))
        unfold refs
        rw [List.map_append]
        rfl
      · intro c' hc
        rcases List.mem_append.mp hc with z | z
        · have := s8 _ _ (s7 _ _ (p6 c' z))
          exact (upd_ne (ne_of this a8 (fun z => nomatch z))).trans this
        · rw [List.mem_singleton.mp z]
          exact (upd_ne npt).trans upd_same
      · rw [upd_ne (Ne.symm nap)]
        exact l8
      · have := putK_lenK (kvs := kvs) (k := .inr who) (v := V.int (refs bs).length)
        rw [List.length_append]
        show _ ≤ bs.length + 1
        omega
      · rw [List.map_append, List.map_append]
        refine List.nodup_append.mpr ⟨n5, by simp, ?_⟩
        intro x hx y hy
        have ey : y = who := by simpa using hy
        rw [ey]
        exact fun z => c (z ▸ hx)
      · intro x hx
        rw [List.map_append, List.map_append] at hx
        rcases List.mem_append.mp hx with z | z
        · exact b5 x z
        · have : x = who := by simpa using z
          rw [this]
          exact w5
      · rw [List.length_append]
        show m - 1 + (bs.length + 1) = _
        omega
      · rw [valV_put, List.map_append, List.map_append]
        show _ = if x ∈ (bs.map (·.2)).map (·.1) ++ [who] then some (V.int (((bs.map (·.2)).map (·.1) ++ [who]).idxOf x : Nat)) else none
        by_cases cx : x = who
        · subst cx
          rw [if_pos rfl, if_pos (by simp), List.idxOf_append, if_neg c]
          have : (refs bs).length = ((bs.map (·.2)).map (·.1)).length := by
            unfold refs
            rw [List.length_map, List.length_map, List.length_map]
          rw [this]
          simp
        · rw [if_neg (fun z => cx (Sum.inr.inj z)), v5]
          by_cases cy : x ∈ (bs.map (·.2)).map (·.1)
          · rw [if_pos cy, if_pos (List.mem_append_left _ cy), List.idxOf_append, if_pos cy]
          · rw [if_neg cy, if_neg (by
              intro z
              rcases List.mem_append.mp z with z | z
              · exact cy z
              · exact cx (by simpa using z))]
      · rw [← r5, List.map_append]
        match m, m5 with
        | 0, m5 => omega
        | m + 1, _ =>
          show ringN ps row left m _ _ = ringN ps row left (m + 1) _ _
          conv => rhs; unfold ringN
          rw [if_neg c]
          rfl
      · rw [upd_same, a5]
        show left.length + 1 - (refs bs ++ [V.ref pt]).length < left.length + 1 - (refs bs).length
        have : (refs bs).length = bs.length := by unfold refs; rw [List.length_map]
        rw [List.length_append, this]
        show left.length + 1 - (bs.length + 1) < _
        omega
  · rintro σ H5 Q1 Q2 hQ ⟨y, hy, x, hx, a', o', e1, e2, c', hc', z⟩
    exact ⟨y, hy, x, hx, a', o', e1, e2, c', hc', hQ _ _ z⟩
abbrev sOrderOf : Stmt := topS 32
abbrev nOrderOf : List Str := ["friends", "row", "gone", "left"]
theorem scOrderOf : FnScope nOrderOf ["friends", "row"] (defScope sOrderOf) := ⟨rfl, rfl, rfl, by decide +kernel, rfl, by decide +kernel, by decide +kernel⟩
theorem ok_orderOf {f : Addr} {fd : FuncData} (CG : Cal P w K mg base 5 "gone_and_left" ["friends", "row", "but"] (spGone K)) (CR : Cal P w K mg base 4 "ring_among" ["friends", "row", "left"] spRingA) (F : Fun K "order_of" "order_of" sOrderOf f fd) : FnOk P w K mg base CX0 6 f fd ["friends", "row"] spOrderOf := by
  refine fok F scOrderOf (fun vs H Q E h => ?_) (fun cdv A outer s H vs Q E hr h => ?_)
  · obtain ⟨a, r, ps, row, rfl, _⟩ := h
    rfl
  obtain ⟨a, r, ps, row, rfl, ha, hp, irr, hrow, hd, hn, q⟩ := h
  refine ⟨_, pss_cons (ps_asg (pe_cal CG hr (pa_cons (pv 0) (pa_cons (pv 1) (pa_cons (pe_tupF pa_nil) pa_nil)))) (pg_tup rfl (pgs_cons (pg_name (i := 2) scOrderOf.nd rfl (.inl rfl)) (pgs_cons (pg_name (i := 3) scOrderOf.nd rfl (.inl rfl)) pgs_nil))))
    (pss_cons (ps_if (pt_truth (pv 3) (by intro _; rfl)) (pss_one (ps_ret (pe_tup (pa_cons pe_str (pa_cons (pe_cal CR hr (pa_cons (pv 0) (pa_cons (pv 1) (pa_cons (pv 3) pa_nil)))) pa_nil))))) pss_nil)
    (pss_one (ps_ret (pe_tup (pa_cons pe_str (pa_cons (pe_revL (pv 2)) pa_nil)))))), ?_⟩
  refine ⟨_, rfl, _, rfl, (by show 0 ≤ sizeLine; decide), fun p0 H0 s0 n0 t0 => ?_⟩
  obtain ⟨gr1, gr2, gr3⟩ := gone_red (stay := []) irr row.length row rfl hd
  have gl := gr1.len
  refine ⟨a, r, p0, ps, row, [], rfl, ha.same s0, hp, hrow.same s0, hd, hn, (fun H' s => .inr (t0.same s).sq), fun T g t H1 s1 ng eT eg et => ?_⟩
  refine ⟨T, _, rfl, .inl (.inl eT), rfl, _, _, rfl, _, _, rfl, rfl, ?_⟩
  have s01 := s0.trans s1
  refine ⟨.ref t, rfl, _, .inr (.inl ⟨_, et.sq, rfl⟩), ite2 (fun c => ?_) (fun c => ?_)⟩
  · have ne : goneR ps [] row ≠ [] := fun z => by rw [z] at c; cases c
    refine ⟨_, rfl, _, rfl, _, rfl, a, r, t, ps, row, goneR ps [] row, rfl, ha.same s01, hp, hrow.same s01, hn, hd, et, gr1.nodup hd, ne, gr1.sub, (fun x hx => barred_ne hd gr1 gr2 hx), fun p bs H2 s2 n2 e2 p2 m2 => ?_⟩
    refine ⟨(by show 2 ≤ sizeLine; decide), fun T2 hT2 => ?_⟩
    have s3 := same_upd (o := .tup [.str "ring", .ref p]) hT2
    exact q T2 p "ring" _ ((s01.trans s2).trans s3) (s01.free n2) upd_same (.inr ⟨ne, rfl, bs, s3 _ _ e2, p2.same s3, m2⟩)
  · have e0 : goneR ps [] row = [] := by
      cases e : goneR ps [] row with
      | nil => rfl
      | cons x l => rw [e] at c; exact absurd rfl c
    refine ⟨.ref g, rfl, g, _, rfl, .inl (.inl eg), fun p hp2 => ?_⟩
    have s2 := same_upd (o := .lst ((goneO ps [] row).map V.str).reverse) hp2
    refine ⟨(by show 2 ≤ sizeLine; decide), fun T2 hT2 => ?_⟩
    have s3 := same_upd (o := .tup [.str "order", .ref p]) hT2
    refine q T2 p "order" _ ((s01.trans s2).trans s3) (s01.free hp2) upd_same (.inl ⟨e0, rfl, ?_⟩)
    rw [List.map_reverse]
    exact s3 _ _ upd_same
abbrev sLeft : Stmt := topS 23
abbrev nLeft : List Str := ["friends", "row", "but", "gone", "left"]
theorem scLeft : FnScope nLeft ["friends", "row", "but"] (defScope sLeft) := ⟨rfl, rfl, rfl, by decide +kernel, rfl, by decide +kernel, by decide +kernel⟩
theorem ok_left_over {f : Addr} {fd : FuncData} (CG : Cal P w K mg base 5 "gone_and_left" ["friends", "row", "but"] (spGone K)) (F : Fun K "left_over" "left_over" sLeft f fd) : FnOk P w K mg base CX0 6 f fd ["friends", "row", "but"] (spLeft K) := by
  refine fok F scLeft (fun vs H Q E h => ?_) (fun cdv A outer s H vs Q E hr h => ?_)
  · obtain ⟨a, r, p, ps, row, stay, rfl, _⟩ := h
    rfl
  obtain ⟨a, r, p, ps, row, stay, rfl, ha, hp, hrow, hd, hn, hb, q⟩ := h
  refine ⟨_, pss_cons (ps_asg (pe_cal CG hr (pa_cons (pv 0) (pa_cons (pv 1) (pa_cons (pv 2) pa_nil)))) (pg_tup rfl (pgs_cons (pg_name (i := 3) scLeft.nd rfl (.inl rfl)) (pgs_cons (pg_name (i := 4) scLeft.nd rfl (.inl rfl)) pgs_nil))))
    (pss_one (ps_ret (pv 4))), ?_⟩
  refine ⟨_, rfl, _, rfl, _, rfl, a, r, p, ps, row, stay, rfl, ha, hp, hrow, hd, hn, hb, fun T g t H1 s1 ng eT eg et => ?_⟩
  refine ⟨T, _, rfl, .inl (.inl eT), rfl, _, _, rfl, _, _, rfl, rfl, .ref t, rfl, ?_⟩
  exact q t H1 s1 et
theorem cal_left_over {f D E : Addr} {oc : Value} {od an ed : Option Addr} {osl es : Array (Option Value)} {doc pm cdv ct : Value} {en : Nat}
    (l : K.lookup f = some ⟨oc, od, .func (PySem.W.fnOf "left_over" "left_over" (defArgs sLeft) (defBody sLeft) (defScope sLeft) .none (.ref D) doc pm an cdv ct), osl⟩) (c : PySem.W.codeIn K cdv "left_over" = true) (kp : PySem.W.keepIn K (.ref f) = true) (n : PySem.W.nsIn K D "but" = some (some (.ref E)))
    (e : K.lookup E = some ⟨.type "tuple", ed, .seq #[] en, es⟩) (hm : mg "left_over" = some (.ref f)) (CG : Cal P w K mg base 5 "gone_and_left" ["friends", "row", "but"] (spGone K)) : Cal3 P w K mg base 6 "left_over" (spLeft K) E :=
  cal3_mk l c kp n e hm (ok_left_over CG (fun_mk l c kp)) (fun _ _ _ _ _ _ us ws h1 h2 => match us, ws, h1, h2 with | [_, _], [_], _, _ => rfl) (fun _ _ _ _ _ _ ws h => match ws, h with | [_, _, _], _ => rfl)
    (fun _ _ _ _ _ _ us ks h1 h2 => match us, ks, h1, h2 with | [_, _], [_], _, _ => ⟨_, _, _, _, _, _, rfl, rfl, rfl⟩) (fun _ _ _ _ _ _ mv ws h1 h2 => match mv, ws, h1, h2 with | [_], [_, _], _, _ => ⟨_, _, _, _, _, _, rfl, rfl, rfl⟩)
/-! ### host_place, stood_in, let_in -/
abbrev sHostP : Stmt := topS 8
abbrev nHostP : List Str := ["known", "row", "who"]
theorem scHostP : FnScope nHostP nHostP (defScope sHostP) := ⟨rfl, rfl, rfl, by decide +kernel, rfl, by decide +kernel, by decide +kernel⟩
theorem ok_hostP {f : Addr} {fd : FuncData} (CL : Cal P w K mg base 1 "last_friend_place" ["known", "row", "who"] spLfp) (F : Fun K "host_place" "host_place" sHostP f fd) : FnOk P w K mg base CX0 2 f fd nHostP spHostP := by
  refine fok F scHostP (fun vs H Q E h => ?_) (fun cdv A outer s H vs Q E hr h => ?_)
  · obtain ⟨a, r, ps, row, who, rfl, _⟩ := h
    rfl
  obtain ⟨d, r, ps, row, who, rfl, hd, hrow, hn, nw, q⟩ := h
  refine ⟨_, pss_cons (ps_if (pt_cmpR op_in_seq (pv 2) (pv 1) (by rfl)) (pss_one ps_never) pss_nil)
    (pss_one (ps_ret (pe_cal CL hr (pa_cons (pv 0) (pa_cons (pv 1) (pa_cons (pv 2) pa_nil)))))), ?_⟩
  have sq : SqL K H r (row.map V.str) ∨ SqT K H r (row.map V.str) := hrow.elim (fun e => .inr e.sq) (fun e => .inl (.inl (.inl e)))
  refine ⟨_, rfl, .ref r, rfl, r, _, rfl, sq, rfl, flat_strs row, _, rfl, ?_⟩
  rw [inV_strs, decide_eq_false nw]
  exact ⟨_, rfl, _, rfl, _, rfl, d, r, ps, row, who, rfl, hd, hrow, hn, fun H2 s2 => q H2 s2⟩
def spComingP : Sp := fun vs H Q _ => ∃ (d r : Addr) (ps : List (Str × Str)) (row : List Str) (who : Str), vs = [.ref d, .ref r, .str who] ∧ KnAt H d ps ∧ RowAt H r row ∧ row.length ≤ 100 ∧ who ∉ row ∧
  ∀ H', Same H H' → Q (.int (spotOf ps row who : Nat)) H'
theorem spot_le (ps : List (Str × Str)) (row : List Str) (who : Str) : spotOf ps row who ≤ row.length := by
  unfold spotOf
  split
  · rename_i k ek
    exact lastP_lt ek
  · exact Nat.le_refl _
abbrev sComingP : Stmt := topS 9
abbrev nComingP : List Str := ["known", "row", "who", "place"]
theorem scComingP : FnScope nComingP nHostP (defScope sComingP) := ⟨rfl, rfl, rfl, by decide +kernel, rfl, by decide +kernel, by decide +kernel⟩
theorem ok_comingP {f : Addr} {fd : FuncData} (B : Blt mg) (CH : Cal P w K mg base 2 "host_place" nHostP spHostP) (F : Fun K "coming_place" "coming_place" sComingP f fd) : FnOk P w K mg base CX0 3 f fd nHostP spComingP := by
  refine fok F scComingP (fun vs H Q E h => ?_) (fun cdv A outer s H vs Q E hr h => ?_)
  · obtain ⟨a, r, ps, row, who, rfl, _⟩ := h
    rfl
  obtain ⟨a, r, ps, row, who, rfl, ha, hrow, hn, nw, q⟩ := h
  refine ⟨_, pss_cons (ps_set (i := 3) scComingP.nd rfl (.inl rfl) (pe_cal CH hr (pa_cons (pv 0) (pa_cons (pv 1) (pa_cons (pv 2) pa_nil)))))
    (pss_one (ps_ret (pe_ifExp (pt_cmp (pc_isN (pv 3))) (pe_callB call_len_seq (by rfl) B.len PySem.boot_len (pa_cons (pv 1) pa_nil)) (pe_op op_add (pv 3) pe_int)))), ?_⟩
  refine ⟨_, rfl, _, rfl, _, rfl, a, r, ps, row, who, rfl, ha, hrow, hn, nw, fun H1 s1 => ?_⟩
  have row1 := hrow.same s1
  refine ⟨_, rfl, _, rfl, ?_⟩
  have q1 := q H1 s1
  unfold spotOf at q1
  cases e : lastP (frd ps who) row with
  | none =>
    have sq : SqL K H1 r (row.map V.str) ∨ SqT K H1 r (row.map V.str) := row1.elim (fun e => .inr e.sq) (fun e => .inl (.inl (.inl e)))
    refine ⟨.ref r, rfl, r, _, rfl, sq, ?_⟩
    rw [List.length_map]
    rw [e] at q1
    exact q1
  | some k =>
    rw [e] at q1
    exact ⟨_, rfl, _, _, rfl, rfl, q1⟩
abbrev sStood : Stmt := topS 10
abbrev nStood : List Str := ["known", "row", "who", "at"]
theorem scStood : FnScope nStood nHostP (defScope sStood) := ⟨rfl, rfl, rfl, by decide +kernel, rfl, by decide +kernel, by decide +kernel⟩
theorem ok_stood {f : Addr} {fd : FuncData} (B : Blt mg) (CH : Cal P w K mg base 3 "coming_place" nHostP spComingP) (F : Fun K "stood_in" "stood_in" sStood f fd) : FnOk P w K mg base CX0 4 f fd nHostP spStood := by
  refine fok F scStood (fun vs H Q E h => ?_) (fun cdv A outer s H vs Q E hr h => ?_)
  · obtain ⟨a, r, ps, row, who, rfl, _⟩ := h
    rfl
  obtain ⟨a, r, ps, row, who, rfl, ha, hrow, hn, nw, q⟩ := h
  refine ⟨_, pss_cons (ps_set (i := 3) scStood.nd rfl (.inl rfl) (pe_cal CH hr (pa_cons (pv 0) (pa_cons (pv 1) (pa_cons (pv 2) pa_nil)))))
    (pss_one (ps_ret (pe_op op_catM (pe_op op_catM (pe_mid (pe_callTy call_tupleF (by rfl) B.tuple (by decide +kernel) (pa_cons (pe_slice (sl_or2 sl_list sl_tupM) (pv 1) po_none (po_some (pv 3))) pa_nil))) (pe_tupF (pa_cons (pv 2) pa_nil))) (pe_mid (pe_callTy call_tupleF (by rfl) B.tuple (by decide +kernel) (pa_cons (pe_slice (sl_or2 sl_list sl_tupM) (pv 1) (po_some (pv 3)) po_none) pa_nil)))))), ?_⟩
  refine ⟨_, rfl, _, rfl, _, rfl, a, r, ps, row, who, rfl, ha, hrow, hn, nw, fun H1 s1 => ?_⟩
  have row1 := hrow.same s1
  have hspot := spot_le ps row who
  refine ⟨fun v H2 => ∃ t, v = .ref t ∧ Same H1 H2 ∧ TupAt H2 t ((row.take (spotOf ps row who)).map V.str), ?_, ?_⟩
  · rcases row1 with e | e
    · refine ⟨.ref r, rfl, _, rfl, _, rfl, .inr ⟨r, _, rfl, e, fun t H2 s2 e2 => ?_⟩⟩
      rw [cutV_map, cutL_to] at e2
      exact ⟨t, _, rfl, .inr ⟨e2.sq, t, rfl, s2, e2⟩⟩
    · refine ⟨.ref r, rfl, _, rfl, _, rfl, .inl ⟨r, _, rfl, .inl (.inl e), fun p hp => ?_⟩⟩
      rw [cutV_map, cutL_to]
      exact ⟨p, _, rfl, .inl ⟨.inl (.inl upd_same), fun t H2 s2 n2 t2 => ⟨t, rfl, (same_upd hp).trans s2, t2⟩⟩⟩
  rintro v H2 ⟨t1, rfl, s2, e2⟩
  refine ⟨_, rfl, (by show 1 ≤ sizeLine; decide), fun p H3 s3 hp3 t3 => ?_⟩
  refine ⟨t1, p, _, _, rfl, rfl, e2.same s3, t3, ?_, fun t4 H4 s4 e4 => ?_⟩
  · rw [List.length_map, List.length_take]
    exact small_le (by show _ + 1 ≤ 1000; omega)
  have s24 := (s2.trans s3).trans s4
  have row4 := row1.same s24
  refine ⟨fun v H5 => ∃ t, v = .ref t ∧ Same H4 H5 ∧ TupAt H5 t ((row.drop (spotOf ps row who)).map V.str), ?_, ?_⟩
  · rcases row4 with e | e
    · refine ⟨.ref r, rfl, _, rfl, _, rfl, .inr ⟨r, _, rfl, e, fun t H5 s5 e5 => ?_⟩⟩
      rw [cutV_map, cutL_from] at e5
      exact ⟨t, _, rfl, .inr ⟨e5.sq, t, rfl, s5, e5⟩⟩
    · refine ⟨.ref r, rfl, _, rfl, _, rfl, .inl ⟨r, _, rfl, .inl (.inl e), fun p hp => ?_⟩⟩
      rw [cutV_map, cutL_from]
      exact ⟨p, _, rfl, .inl ⟨.inl (.inl upd_same), fun t H2 s2 n2 t2 => ⟨t, rfl, (same_upd hp).trans s2, t2⟩⟩⟩
  rintro v H5 ⟨t5, rfl, s5, e5⟩
  refine ⟨t4, t5, _, _, rfl, rfl, e4.same s5, e5, ?_, fun t6 H6 s6 e6 => ?_⟩
  · rw [List.length_append, List.length_map, List.length_map, List.length_take, List.length_drop]
    exact small_le (by show _ + 1 + _ ≤ 1000; omega)
  refine q t6 H6 ((s1.trans s24).trans (s5.trans s6)) ?_
  unfold comeTo
  rw [List.map_append, List.map_append]
  exact e6
abbrev sLetIn : Stmt := topS 11
abbrev nLetIn : List Str := ["friends", "row", "who"]
theorem scLetIn : FnScope nLetIn nLetIn (defScope sLetIn) := ⟨rfl, rfl, rfl, by decide +kernel, rfl, by decide +kernel, by decide +kernel⟩
theorem ok_letIn {f : Addr} {fd : FuncData} (CB : Cal P w K mg base 1 "both_ways" ["friends"] spBoth) (CS : Cal P w K mg base 4 "stood_in" ["known", "row", "who"] spStood) (F : Fun K "let_in" "let_in" sLetIn f fd) : FnOk P w K mg base CX0 5 f fd nLetIn spLetIn := by
  refine fok F scLetIn (fun vs H Q E h => ?_) (fun cdv A outer s H vs Q E hr h => ?_)
  · obtain ⟨a, r, ps, row, who, rfl, _⟩ := h
    rfl
  obtain ⟨a, r, ps, row, who, rfl, ha, hp, hrow, hn, nw, q⟩ := h
  refine ⟨_, pss_one (ps_ret (pe_cal CS hr (pa_cons (pe_cal CB hr (pa_cons (pv 0) pa_nil)) (pa_cons (pv 1) (pa_cons (pv 2) pa_nil))))), ?_⟩
  refine ⟨_, rfl, a, ps, rfl, ha, hp, fun d H1 s1 nd1 k1 => ?_⟩
  exact ⟨_, rfl, _, rfl, d, r, ps, row, who, rfl, k1, hrow.same s1, hn, nw, fun t H2 s2 e2 => q t H2 (s1.trans s2) e2⟩
/-! ### row_of, put_back -/
abbrev sRowOf : Stmt := topS 12
abbrev nRowOf : List Str := ["friends", "order", "known", "row", "who"]
theorem scRowOf : FnScope nRowOf ["friends", "order"] (defScope sRowOf) := ⟨rfl, rfl, rfl, by decide +kernel, rfl, by decide +kernel, by decide +kernel⟩
theorem ok_rowOf {f : Addr} {fd : FuncData} (CB : Cal P w K mg base 1 "both_ways" ["friends"] spBoth) (CE : Cal P w K mg base 4 "stood_in" ["known", "row", "who"] spStood) (F : Fun K "row_of" "row_of" sRowOf f fd) : FnOk P w K mg base CX0 5 f fd ["friends", "order"] spRowOf := by
  refine fok F scRowOf (fun vs H Q E h => ?_) (fun cdv A outer s H vs Q E hr h => ?_)
  · obtain ⟨a, o, ps, order, rfl, _⟩ := h
    rfl
  obtain ⟨a, o, ps, order, rfl, ha, hp, ho, hd, hn, q⟩ := h
  refine ⟨_, pss_cons (ps_set (i := 2) scRowOf.nd rfl (.inl rfl) (pe_cal CB hr (pa_cons (pv 0) pa_nil)))
    (pss_cons (ps_set (i := 3) scRowOf.nd rfl (.inl rfl) (pe_tupF pa_nil))
    (pss_cons (ps_for PassesOwn.never rfl (pi_or2 (pi_list (pv 1)) (pi_tup (pv 1))) (pg_name (i := 4) scRowOf.nd rfl (.inl rfl))
      (pss_one (ps_set (i := 3) scRowOf.nd rfl (.inl rfl) (pe_cal CE hr (pa_cons (pv 2) (pa_cons (pv 3) (pa_cons (pv 4) pa_nil)))))))
    (pss_one (ps_ret (pv 3))))), ?_⟩
  refine ⟨_, rfl, a, ps, rfl, ha, hp, fun dd Hk sk ndk kk => ?_⟩
  refine ⟨(by show 0 ≤ sizeLine; decide), fun p H0 s0' hp0 t0 => ?_⟩
  have s0 := sk.trans s0'
  have turn : ∀ (i : Nat) (x : Str) (σ : L2.St) (H1 : Hp), order[i]? = some x → (∃ (t : Addr) (y3 : Option V), σ = [some (.ref a), some (.ref o), some (.ref dd), some (.ref t), y3] ∧ Same H H1 ∧ KnAt H1 dd ps ∧ TupAt H1 t ((standOf ps (order.take i)).map V.str)) → ∀ (D : Ends), D.nx = (fun σ H1 => ∃ (t : Addr) (y3 : Option V), σ = [some (.ref a), some (.ref o), some (.ref dd), some (.ref t), y3] ∧ Same H H1 ∧ KnAt H1 dd ps ∧ TupAt H1 t ((standOf ps (order.take (i + 1))).map V.str)) →
      (tAsg (tCall spStood [] E0 (tCons (tVar 2) (tCons (tVar 3) (tCons (tVar 4) tNil)))) (gName 3)) D (σ.set 4 (some (.str x))) H1 := by
    rintro i x σ H1 hx ⟨t, y3, rfl, s1, k1, e1⟩ D hD
    have pm := stand_perm ps (order.take i)
    have nx : x ∉ standOf ps (order.take i) := fun z => by
      have z := pm.mem_iff.mp z
      obtain ⟨j, hj⟩ := List.mem_iff_getElem?.mp z
      rw [List.getElem?_take] at hj
      split at hj
      · rename_i c
        have := nd_ix hd hj hx
        omega
      · cases hj
    refine ⟨_, rfl, _, rfl, _, rfl, dd, t, ps, _, x, rfl, k1, .inl e1, ?_, nx, fun t' H3 s3 e3 => ?_⟩
    · rw [pm.length_eq, List.length_take]
      omega
    · rw [hD]
      refine ⟨t', _, rfl, s1.trans s3, k1.same s3, ?_⟩
      rw [List.take_add_one, hx]
      show TupAt H3 t' ((standOf ps (order.take i ++ [x])).map V.str)
      rw [standOf_app]
      exact e3
  have fin : ∀ (σ : L2.St) (H1 : Hp), (∃ (t : Addr) (y3 : Option V), σ = [some (.ref a), some (.ref o), some (.ref dd), some (.ref t), y3] ∧ Same H H1 ∧ KnAt H1 dd ps ∧ TupAt H1 t ((standOf ps (order.take (order.map V.str).length)).map V.str)) → ∃ v, σ[3]? = some (some v) ∧ Q v H1 := by
    rintro σ H1 ⟨t, y3, rfl, s1, _, e1⟩
    rw [List.length_map, List.take_of_length_le (Nat.le_refl _)] at e1
    exact ⟨.ref t, rfl, q t H1 s1 e1⟩
  rcases ho with e | e
  · refine .inr ⟨.ref o, rfl, o, rfl, ⟨_, (e.same s0).sq⟩, ?_⟩
    refine for_it (walk_tup (xs := order.map V.str)) (fun i σ H1 => ∃ (t : Addr) (y3 : Option V), σ = [some (.ref a), some (.ref o), some (.ref dd), some (.ref t), y3] ∧ Same H H1 ∧ KnAt H1 dd ps ∧ TupAt H1 t ((standOf ps (order.take i)).map V.str)) ?_ ?_ ?_ ?_
    · exact ⟨p, _, rfl, s0, kk.same s0', t0⟩
    · rintro i σ H1 _ ⟨t, y3, _, s1, _, _⟩
      exact (e.same s1).sq
    · rintro i v σ H2 H1 hi pv ⟨rfl, e2⟩
      obtain ⟨x, hx, rfl⟩ := at_map e2
      exact turn i x σ _ hx pv _ rfl
    · exact fin
  · refine .inl ⟨.ref o, rfl, o, rfl, ⟨_, .inl (.inl (s0 _ _ e))⟩, ?_⟩
    refine for_it (walk_list (xs := order.map V.str)) (fun i σ H1 => ∃ (t : Addr) (y3 : Option V), σ = [some (.ref a), some (.ref o), some (.ref dd), some (.ref t), y3] ∧ Same H H1 ∧ KnAt H1 dd ps ∧ TupAt H1 t ((standOf ps (order.take i)).map V.str)) ?_ ?_ ?_ ?_
    · exact ⟨p, _, rfl, s0, kk.same s0', t0⟩
    · rintro i σ H1 _ ⟨t, y3, _, s1, _, _⟩
      exact .inl (.inl (s1 _ _ e))
    · rintro i v σ H2 H1 hi pv ⟨rfl, e2⟩
      obtain ⟨x, hx, rfl⟩ := at_map e2
      exact turn i x σ _ hx pv _ rfl
    · exact fin
abbrev sPutBack : Stmt := topS 13
abbrev nPutBack : List Str := ["friends", "order", "row", "came", "told", "place", "who", "later", "at", "other"]
theorem scPutBack : FnScope nPutBack ["friends", "order"] (defScope sPutBack) := ⟨rfl, rfl, rfl, by decide +kernel, rfl, by decide +kernel, by decide +kernel⟩
theorem ok_putBack {f : Addr} {fd : FuncData} (B : Blt mg) (CR : Cal P w K mg base 5 "row_of" ["friends", "order"] spRowOf) (F : Fun K "put_back" "put_back" sPutBack f fd) : FnOk P w K mg base CX0 6 f fd ["friends", "order"] spPutBack := by
  refine fok F scPutBack (fun vs H Q E h => ?_) (fun cdv A outer s H vs Q E hr h => ?_)
  · obtain ⟨a, o, ps, order, rfl, _⟩ := h
    rfl
  obtain ⟨a, o, ps, order, rfl, ha, hp, ho, hd, hn, q⟩ := h
  have hu := hu_of hr
  refine ⟨_, pss_cons (ps_set (i := 2) scPutBack.nd rfl (.inl rfl) (pe_cal CR hr (pa_cons (pv 0) (pa_cons (pv 1) pa_nil))))
    (pss_cons (ps_set (i := 3) scPutBack.nd rfl (.inr rfl) (pe_mid (pe_dc (own := [("at", 8), ("who", 6)]) (g := gTup K 2 (gCons (gName 8) (gCons (gName 6) gNil))) (tt := tYes) (tk := tVar 6) (tv := tVar 8) rfl scPutBack.nd (pi_or2 (pi_enum (by rfl) B.enumerate (pa_cons (pv 1) pa_nil)) (pi_enumT (by rfl) B.enumerate (pa_cons (pv 1) pa_nil))) (blkOk_by (N := nPutBack) (sc := defScope sPutBack) (by decide +kernel))
        (fun _ _ _ _ _ => pg_tup rfl (pgs_cons (pg_name (i := 8) scPutBack.nd rfl (Or.inl rfl)) (pgs_cons (pg_name (i := 6) scPutBack.nd rfl (Or.inl rfl)) pgs_nil))) (fun _ _ _ _ _ => pts_nil) (fun _ _ _ _ _ => pv 6) (fun _ _ _ _ _ => pv 8))))
    (pss_cons (ps_set (i := 4) scPutBack.nd rfl (.inl rfl) (pe_lst pa_nil))
    (pss_cons (ps_for PassesOwn.never rfl (pi_enumT (by rfl) B.enumerate (pa_cons (pv 2) pa_nil)) (pg_tup rfl (pgs_cons (pg_name (i := 5) scPutBack.nd rfl (.inl rfl)) (pgs_cons (pg_name (i := 6) scPutBack.nd rfl (.inr rfl)) pgs_nil)))
      (pss_cons (ps_setLc (i := 7) (own := [("other", 9)]) (g := gName 9) (tt := tTest (tOp (rI0 fun i j => .bl (decide (j < i))) (tDGet (tVar 3) (tVar 9)) (tDGet (tVar 3) (tVar 6)))) rfl scPutBack.nd rfl rfl (sw_true rfl rfl rfl (by decide +kernel)) (pi_tup (pe_slice sl_tupM (pv 2) po_none (po_some (pv 5)))) (blkOk_by (N := nPutBack) (sc := defScope sPutBack) (by decide +kernel)) (fun _ _ _ _ _ => pg_name (i := 9) scPutBack.nd rfl (Or.inl rfl))
          (fun _ _ _ _ _ => pts_one (pt_cmpR op_gt (pe_dget hu (pv 3) (pv 9) (fun _ _ => rfl)) (pe_dget hu (pv 3) (pv 6) (fun _ _ => rfl)) (nomark _))) (fun _ _ _ _ _ => pv 9))
      (pss_one (ps_expr (pe_bm PySem.F.plainAttrs_list PySem.F.slot_list_append PySem.F.type_list_append mt_append (pv 4) (pa_cons (pe_tup (pa_cons (pv 6) (pa_cons (pe_callB call_len_seq (by rfl) B.len PySem.boot_len (pa_cons (pv 7) pa_nil)) pa_nil))) pa_nil))))))
    (pss_one (ps_ret (pv 4)))))), ?_⟩
  -- row
  refine ⟨_, rfl, _, rfl, a, o, ps, order, rfl, ha, hp, ho, hd, hn, fun t H1 s1 t1 => ?_⟩
  have o1 := ho.same s1
  have pm := stand_perm ps order
  have ndr : (standOf ps order).Nodup := pm.nodup_iff.mpr hd
  have ln : (standOf ps order).length = order.length := pm.length_eq
  have sub : ∀ y ∈ standOf ps order, y ∈ order := fun y hy => pm.mem_iff.mp hy
  generalize standOf ps order = row at t1 pm ndr ln sub q
  -- came
  refine ⟨fun v H2 => ∃ D kvs, v = .ref D ∧ Same H1 H2 ∧ H2 D = some (.dK kvs) ∧ CameTo order order.length kvs, ?_, ?_⟩
  · have key : ∀ (J : It) (G : Hp → Prop), Walk J (order.map V.str).length G (YPair (fun i => some (.int (i : Nat))) (fun i => (order.map V.str)[i]?)) → (∀ H', Same H1 H' → G H') → ∀ D, H1 D = none →
        ∃ W : Nat → Nat → Hp → Prop, (∃ m, W 0 m (upd H1 D (.dK []))) ∧ ∀ i m H, W i m H →
        (J.stop i H ∧ ∃ D' kvs, V.ref D = .ref D' ∧ Same H1 H ∧ H D' = some (.dK kvs) ∧ CameTo order order.length kvs) ∨ (J.go i H ∧ ∃ Nx : Hp → Prop, (∀ H', Nx H' → ∃ m', m' < m ∧ W (i + 1) m' H') ∧ ∀ x H', J.yld i H x H' → (gTup K 2 (gCons (gName 8) (gCons (gName 6) gNil))) x (wipe [some (.ref a), some (.ref o), some (.ref t), none, none, none, none, none, none, none] [8, 6]) H' fun σ2 H2 => wipe σ2 [8, 6] = wipe [some (.ref a), some (.ref o), some (.ref t), none, none, none, none, none, none, none] [8, 6] ∧ tYes σ2 H2 fun b H3 =>
          if b = true then (tVar 6) σ2 H3 fun y H4 => (tVar 8) σ2 H4 fun z H5 => ∃ kvs k, y = kV k ∧ H5 D = some (.dK kvs) ∧ kvs.length < sizeLine ∧ Nx (upd H5 D (.dK (putK kvs k z))) else Nx H3) := by
      intro J G wk hG D hD
      refine dc_it wk (fun i H' => ∃ kvs, Same H1 H' ∧ H' D = some (.dK kvs) ∧ CameTo order i kvs) ?_ ?_ ?_ ?_
      · exact ⟨[], same_upd hD, upd_same, Nat.le_refl _, fun x hx => nomatch hx⟩
      · rintro i H' _ ⟨kvs, s2, _⟩
        exact hG H' s2
      · rintro i v H2 H3 hi ⟨kvs, s2, d2, c2⟩ ⟨T, x1, x2, rfl, nT, rfl, e1, e2⟩
        cases e1
        obtain ⟨z, hz, rfl⟩ := at_map e2
        rw [List.length_map] at hi
        have sT := same_upd (o := .tup [.int (i : Nat), .str z]) nT
        refine ⟨T, _, rfl, .inl (.inl upd_same), rfl, _, _, rfl, _, _, rfl, rfl, rfl, ?_⟩
        refine ⟨_, rfl, _, rfl, kvs, .inr z, rfl, sT _ _ d2, small1000 (by have := c2.1; omega), _, fun b o' e => ?_, upd_same, came_step hd hz c2⟩
        rw [upd_ne (ne_of_none e hD)]
        exact sT _ _ (s2 _ _ e)
      · rintro H2 ⟨kvs, s2, d2, c2⟩
        rw [List.length_map] at c2
        exact ⟨D, kvs, rfl, s2, d2, c2⟩
    rcases o1 with e | e
    · exact .inr ⟨.ref o, rfl, o, _, rfl, e.sq, fun D hD => key _ _ walk_enumT (fun H' s => (e.same s).sq) D hD⟩
    · exact .inl ⟨.ref o, rfl, o, _, rfl, .inl (.inl e), fun D hD => key _ _ walk_enum (fun H' s => .inl (.inl (s _ _ e))) D hD⟩
  rintro v H2 ⟨D, kvs, rfl, s2, d2, c2⟩
  have came : ∀ y ∈ order, valV kvs (.inr y) = some (.int (order.idxOf y : Nat)) := fun y hy => c2.2 y (by rw [List.take_of_length_le (Nat.le_refl _)]; exact hy)
  -- told
  refine ⟨(by show 0 ≤ sizeLine; decide), fun to hto => ?_⟩
  have s3 := same_upd (o := .lst []) hto
  have nto : H to = none := (s1.trans s2).free hto
  have t3 := (t1.same s2).same s3
  refine ⟨.ref t, rfl, t, _, rfl, t3.sq, ?_⟩
  refine for_it (walk_enumT (xs := row.map V.str)) (fun i σ H' => ∃ (qs : List B3N) (y5 y6 y7 y8 y9 : Option V), σ = [some (.ref a), some (.ref o), some (.ref t), some (.ref D), some (.ref to), y5, y6, y7, y8, y9] ∧ Same H H' ∧ TupAt H' t (row.map V.str) ∧ H' D = some (.dK kvs) ∧ H' to = some (.lst (refsN qs)) ∧ PairsN H' qs ∧ qs.map (·.2) = backTo_ order row i) ?_ ?_ ?_ ?_
  · exact ⟨[], _, _, _, _, _, rfl, (s1.trans s2).trans s3, t3, s3 _ _ d2, upd_same, (fun _ h => nomatch h), rfl⟩
  · rintro i σ H' _ ⟨qs, y5, y6, y7, y8, y9, _, _, e, _⟩
    exact e.sq
  · rintro i v σ H4 H5 hi ⟨qs, y5, y6, y7, y8, y9, rfl, s4, t4, d4, e4, p4, m4⟩ ⟨T, x1, x2, rfl, nT, rfl, e1, e2⟩
    cases e1
    obtain ⟨z, hz, rfl⟩ := at_map e2
    rw [List.length_map] at hi
    have sT := same_upd (o := .tup [.int (i : Nat), .str z]) nT
    refine ⟨T, _, rfl, .inl (.inl upd_same), rfl, _, _, rfl, _, _, rfl, rfl, ?_⟩
    have t5 := t4.same sT
    refine ⟨.ref t, rfl, _, rfl, _, rfl, t, _, rfl, t5, fun tl H6 s6 e6 => ?_⟩
    rw [cutV_map, cutL_to] at e6
    refine ⟨tl, rfl, ⟨_, e6.sq⟩, fun L hL => ?_⟩
    have d6 := s6 _ _ (sT _ _ d4)
    have mz : z ∈ order := sub z (List.mem_of_getElem? hz)
    refine lc_it (walk_tup (xs := (row.take i).map V.str)) (fun k H' => Same H6 H' ∧ H' L = some (.lst ((((row.take i).take k).filter (laterB order z)).map V.str))) ?_ ?_ ?_ ?_
    · exact ⟨same_upd hL, upd_same⟩
    · rintro k H' _ ⟨s, _⟩
      exact (e6.same s).sq
    · rintro k x H8 H7 hk ⟨s7, d7⟩ ⟨rfl, ex⟩
      obtain ⟨y, hy, rfl⟩ := at_map ex
      rw [List.length_map, List.length_take] at hk
      have my : y ∈ order := sub y (List.mem_of_mem_take (List.mem_of_getElem? hy))
      have dd := s7 _ _ d6
      have ft : (((row.take i).take (k + 1)).filter (laterB order z)) = (((row.take i).take k).filter (laterB order z)) ++ if laterB order z y = true then [y] else [] := by
        rw [List.take_add_one, hy, List.filter_append]
        show _ ++ List.filter (laterB order z) [y] = _
        rw [List.filter_cons, List.filter_nil]
      have g1 := DGet.k (k := .inr y) dd
      rw [came y my] at g1
      have g2 := DGet.k (k := .inr z) dd
      rw [came z mz] at g2
      have el : decide (((order.idxOf z : Nat) : Int) < ((order.idxOf y : Nat) : Int)) = laterB order z y := decide_eq_decide.mpr (by omega)
      refine ⟨rfl, .ref D, rfl, .str y, rfl, D, _, rfl, g1, .ref D, rfl, .str z, rfl, D, _, rfl, g2, _, _, rfl, rfl, _, rfl, ?_⟩
      rw [el]
      refine ite2 (fun c => ?_) (fun c => ?_)
      · rw [if_pos c] at ft
        refine ⟨_, rfl, _, d7, ?_, fun b o' e => ?_, ?_⟩
        · rw [List.length_map]
          exact small1000 (Nat.le_trans (List.length_filter_le _ _) (by rw [List.length_take, List.length_take]; omega))
        · rw [upd_ne (ne_of_none e hL)]
          exact s7 _ _ e
        · rw [upd_same, ft, List.map_append]
          rfl
      · rw [if_neg c, List.append_nil] at ft
        exact ⟨s7, by rw [ft]; exact d7⟩
    rintro H7 ⟨s7, d7⟩
    rw [List.length_map, List.take_of_length_le (Nat.le_refl _)] at d7
    have s47 := (sT.trans s6).trans s7
    have e7 := s47 _ _ e4
    refine ⟨.ref to, rfl, .inl ⟨rfl, _, .inl (.inl e7)⟩, .str z, rfl, .ref L, rfl, L, _, rfl, .inl (.inl (.inl d7)), (by show 2 ≤ sizeLine; decide), fun pr hpr => ?_⟩
    have s8 := same_upd (o := .tup [.str z, .int (((row.take i).filter (laterB order z)).map V.str).length]) hpr
    have npr : to ≠ pr := ne_of_none e7 hpr
    have ml : qs.length ≤ 100 := by
      have := congrArg List.length m4
      rw [List.length_map] at this
      rw [this]
      unfold backTo_
      rw [List.length_map, List.length_take]
      omega
    refine ⟨to, _, _, rfl, rfl, s8 _ _ e7, ?_, ?_⟩
    · show (qs.map _).length < sizeLine
      rw [List.length_map]
      exact small1000 (by omega)
    have s48 := s47.trans s8
    have e8 := s8 _ _ e7
    refine ⟨qs ++ [(pr, z, ((row.take i).filter (laterB order z)).length)], _, _, _, _, _, rfl, fun b o' e => ?_, ?_, ?_, ?_, ?_, ?_⟩
    · rw [upd_ne (ne_of_none e nto)]
      exact s48 _ _ (s4 _ _ e)
    · exact (t4.same s48).upd_ e8
    · rw [upd_ne (ne_of (s48 _ _ d4) e8 (fun z => nomatch z))]
      exact s48 _ _ d4
    · rw [upd_same]
      show some (HO.lst (refsN qs ++ [.ref pr])) = some (.lst (refsN (qs ++ [_])))
      unfold refsN
      rw [List.map_append]
      rfl
    · intro c hc
      rcases List.mem_append.mp hc with k | k
      · exact ((p4.same s48).upd_ e8) c k
      · rw [List.mem_singleton.mp k, upd_ne (Ne.symm npr), upd_same, List.length_map]
    · rw [backTo_step hz, List.map_append, m4]
      rfl
  · rintro σ H4 ⟨qs, y5, y6, y7, y8, y9, rfl, s4, t4, d4, e4, p4, m4⟩
    rw [List.length_map, ln] at m4
    exact ⟨.ref to, rfl, q to qs H4 s4 nto e4 p4 m4⟩

/-! ### _law_pairs -/
abbrev sPrs : Stmt := topS 39
abbrev nPrs : List Str := ["_law_some", "_law_mine", "_law_its"]
abbrev pPrs : List Str := ["_law_some"]
theorem scPrs : FnScope nPrs pPrs (defScope sPrs) := ⟨rfl, rfl, rfl, by decide +kernel, rfl, by decide +kernel, by decide +kernel⟩
-- slots: 0:some 1:mine 2:its
theorem ok_prs {f : Addr} {fd : FuncData} (B : Blt mg) (F : Fun K "_law_pairs" "_law_pairs" sPrs f fd) : FnOk P w K mg base CX0 1 f fd pPrs spPrs := by
  refine fok F scPrs (fun vs H Q E h => ?_) (fun cdv A outer s H vs Q E hr h => ?_)
  · obtain ⟨l, bs, rfl, _⟩ := h
    rfl
  have hu := hu_of hr
  refine ⟨_, pss_one (ps_ret (pe_callTy call_tuple_of (by rfl) B.tuple (by decide +kernel) (pa_cons (pe_callB (cr_sortedTT hr.units) (by rfl) B.sorted (by decide +kernel) (pa_cons (pe_lc (own := [("_law_mine", 1), ("_law_its", 2)]) (g := gTup K 2 (gCons (gName 1) (gCons (gName 2) gNil))) (tt := tYes) rfl scPrs.nd (pi_list (pv 0)) (blkOk_by (N := nPrs) (sc := defScope sPrs) (by decide +kernel)) (fun _ _ _ _ _ => pg_tup rfl (pgs_cons (pg_name (i := 1) scPrs.nd rfl (Or.inl rfl)) (pgs_cons (pg_name (i := 2) scPrs.nd rfl (Or.inl rfl)) pgs_nil))) (fun _ _ _ _ _ => pts_nil) (fun _ _ _ _ _ => pe_tup (pa_cons (pe_callB (call_minS rfl) (by rfl) B.min (by decide +kernel) (pa_cons (pv 1) (pa_cons (pv 2) pa_nil))) (pa_cons (pe_callB (call_maxS rfl) (by rfl) B.max (by decide +kernel) (pa_cons (pv 1) (pa_cons (pv 2) pa_nil))) pa_nil)))) pa_nil)) pa_nil))), ?_⟩
  obtain ⟨l, bs, rfl, hl, hb, hz, q⟩ := h
  refine ⟨_, rfl, l, rfl, ⟨_, .inl (.inl hl)⟩, fun L hL => ?_⟩
  have rl : (refs bs).length = bs.length := by unfold refs; rw [List.length_map]
  refine lc_it (walk_list (xs := refs bs)) (fun i H' => Same H H' ∧ ∃ cs : List B3, H' L = some (.lst (refs cs)) ∧ PairsAt H' cs ∧ cs.map (·.2) = (bs.take i).map fun b => mk2 b.2.1 b.2.2) ?_ ?_ ?_ ?_
  · exact ⟨same_upd hL, [], upd_same, (fun _ h => nomatch h), rfl⟩
  · rintro i H' _ ⟨s2, _⟩
    exact .inl (.inl (s2 _ _ hl))
  · rintro i x H2' H2 hi ⟨s2, cs, f2, p2, m2⟩ ⟨rfl, ex⟩
    obtain ⟨c, hc, rfl⟩ := at_map (show (bs.map fun b => V.ref b.1)[i]? = some x from ex)
    rw [rl] at hi
    have mc : c ∈ bs := List.mem_of_getElem? hc
    have hc2 := s2 _ _ (hb c mc)
    refine ⟨c.1, _, rfl, .inl (.inl hc2), rfl, _, _, rfl, _, _, rfl, rfl, rfl, ?_⟩
    refine ⟨_, rfl, _, rfl, _, _, rfl, _, rfl, _, rfl, _, _, rfl, (by show 2 ≤ sizeLine; decide), fun T hT => ?_⟩
    have sT := same_upd (o := .tup [.str (lmin c.2.1 c.2.2), .str (lmax c.2.1 c.2.2)]) hT
    have nTL : T ≠ L := fun z => by
      rw [z, f2] at hT
      cases hT
    have lcs : cs.length ≤ i := by
      have h1 := congrArg List.length m2
      rw [List.length_map, List.length_map, List.length_take] at h1
      omega
    refine ⟨_, sT _ _ f2, ?_, fun b' o z => ?_, cs ++ [(T, mk2 c.2.1 c.2.2)], ?_, fun d hd => ?_, ?_⟩
    · show (cs.map _).length < sizeLine
      rw [List.length_map]
      exact small1000 (by omega)
    · rw [upd_ne (ne_of_none z hL)]
      exact sT _ _ (s2 _ _ z)
    · rw [upd_same]
      show _ = some (HO.lst ((cs ++ [_]).map _))
      rw [List.map_append]
      rfl
    · rcases List.mem_append.mp hd with u | u
      · rw [upd_ne (ne_of (p2 d u) f2 (fun z => nomatch z))]
        exact sT _ _ (p2 d u)
      · rw [List.mem_singleton.mp u, upd_ne nTL]
        exact upd_same
    · rw [List.map_append, m2, List.take_add_one, hc, List.map_append]
      rfl
  rintro H2 ⟨s2, cs, f2, p2, m2⟩
  rw [rl, List.take_of_length_le (Nat.le_refl _)] at m2
  refine ⟨L, cs, rfl, .inl (.inl f2), p2, fun p hp => ?_⟩
  have s3 := same_upd (o := .lst ((cs.mergeSort (PySem.W.dataLe false encP)).map fun b => V.ref b.1)) hp
  refine ⟨p, _, rfl, .inl ⟨.inl (.inl upd_same), fun a ha => ?_⟩⟩
  have s4 := s3.trans (same_upd (o := .tup ((cs.mergeSort (PySem.W.dataLe false encP)).map fun b => V.ref b.1)) ha)
  have pmb := List.mergeSort_perm cs (PySem.W.dataLe false encP)
  refine q a ((cs.mergeSort (PySem.W.dataLe false encP)).map (·.2)) _ (s2.trans s4) ⟨cs.mergeSort (PySem.W.dataLe false encP), .inl upd_same, fun c hc => s4 _ _ (p2 c (pmb.mem_iff.mp hc)), rfl⟩ ?_
  rw [← m2]
  exact pmb.map _
/-! ### _law_three_right -/
abbrev sThr : Stmt := topS 40
abbrev nThr : List Str := ["_law_a", "_law_b", "_law_c", "_law_pals", "_law_told", "_law_mine", "_law_its", "_law_ring"]
abbrev pThr : List Str := ["_law_a", "_law_b", "_law_c"]
theorem scThr : FnScope nThr pThr (defScope sThr) := ⟨rfl, rfl, rfl, by decide +kernel, rfl, by decide +kernel, by decide +kernel⟩
-- slots: 0:a* 1:b* 2:c* 3:pals* 4:told 5:mine 6:its 7:ring
theorem ok_thr {f EL : Addr} {fd : FuncData} (B : Blt mg) (CPr : Cal P w K mg base 1 "_law_pairs" ["_law_some"] spPrs) (CSa : Cal P w K mg base 5 "_law_same" ["_law_found", "_law_due"] (spSame 5)) (CBa : Cal P w K mg base 3 "bars" ["friends", "row", "one", "other"] spBars) (LO : Cal3 P w K mg base 6 "left_over" (spLeft K) EL) (CLi : Cal P w K mg base 3 "loose_in" ["friends", "row"] spLooseIn) (COo : Cal P w K mg base 6 "order_of" ["friends", "row"] spOrderOf) (CRo : Cal P w K mg base 5 "row_of" ["friends", "order"] spRowOf) (CSr : Cal P w K mg base 4 "shows_ring" ["friends", "row", "thing"] spShowsRD) (F : Fun K "_law_three_right" "_law_three_right" sThr f fd) : FnOk P w K mg base CX0 7 f fd pThr spThr := by
  refine fok F scThr (fun vs H Q E h => ?_) (fun cdv A outer s H vs Q E hr h => ?_)
  · obtain ⟨a, b, c, rfl, _⟩ := h
    rfl
  have hu := hu_of hr
  refine ⟨_, pss_cons (ps_set (i := 3) scThr.nd rfl (.inr rfl) (pe_cal CPr hr (pa_cons (pe_lst (pa_cons (pe_tup (pa_cons (pv 0) (pa_cons (pv 2) pa_nil))) pa_nil)) pa_nil)))
    (pss_cons (ps_set (i := 4) scThr.nd rfl (.inl rfl) (pe_lst (pa_cons (pe_cal CRo hr (pa_cons (pv 3) (pa_cons (pe_lst (pa_cons (pv 0) (pa_cons (pv 1) (pa_cons (pv 2) pa_nil)))) pa_nil))) (pa_cons (pe_cal CRo hr (pa_cons (pv 3) (pa_cons (pe_lst (pa_cons (pv 0) (pa_cons (pv 2) (pa_cons (pv 1) pa_nil)))) pa_nil))) (pa_cons (pe_cal CRo hr (pa_cons (pv 3) (pa_cons (pe_lst (pa_cons (pv 1) (pa_cons (pv 0) (pa_cons (pv 2) pa_nil)))) pa_nil))) pa_nil)))))
    (pss_cons (ps_if (pt_not (pt_val (pe_cal CSa hr (pa_cons (pv 4) (pa_cons (pe_lst (pa_cons (pe_tupF (pa_cons (pv 0) (pa_cons (pv 2) (pa_cons (pv 1) pa_nil)))) (pa_cons (pe_tupF (pa_cons (pv 0) (pa_cons (pv 2) (pa_cons (pv 1) pa_nil)))) (pa_cons (pe_tupF (pa_cons (pv 1) (pa_cons (pv 0) (pa_cons (pv 2) pa_nil)))) pa_nil)))) pa_nil)))))
      (pss_one (ps_ret pe_bl))
      pss_nil)
    (pss_cons (ps_set (i := 4) scThr.nd rfl (.inl rfl) (pe_lst (pa_cons (pe_cal CLi hr (pa_cons (pv 3) (pa_cons (pe_tupF (pa_cons (pv 0) (pa_cons (pv 2) (pa_cons (pv 1) pa_nil)))) pa_nil))) (pa_cons (pe_cal CLi hr (pa_cons (pv 3) (pa_cons (pe_tupF (pa_cons (pv 0) (pa_cons (pv 1) (pa_cons (pv 2) pa_nil)))) pa_nil))) pa_nil))))
    (pss_cons (ps_if (pt_not (pt_val (pe_cal CSa hr (pa_cons (pe_op op_cat (pv 4) (pe_lst (pa_cons (pe_cal3 LO hr (pa_cons (pv 3) (pa_cons (pe_tupF (pa_cons (pv 0) (pa_cons (pv 1) (pa_cons (pv 2) pa_nil)))) pa_nil))) (pa_cons (pe_cal3 LO hr (pa_cons (pv 3) (pa_cons (pe_tupF (pa_cons (pv 1) (pa_cons (pv 0) (pa_cons (pv 2) pa_nil)))) pa_nil))) pa_nil)))) (pa_cons (pe_lst (pa_cons (pe_lst (pa_cons (pv 2) (pa_cons (pv 1) pa_nil))) (pa_cons (pe_lst pa_nil) (pa_cons (pe_tupF (pa_cons (pv 0) (pa_cons (pv 1) (pa_cons (pv 2) pa_nil)))) (pa_cons (pe_tupF pa_nil) pa_nil))))) pa_nil)))))
      (pss_one (ps_ret pe_bl))
      pss_nil)
    (pss_cons (ps_setLc (i := 4) (own := [("_law_mine", 5), ("_law_its", 6)]) (g := gTup K 2 (gCons (gName 5) (gCons (gName 6) gNil))) (tt := tYes) (te := tCall spBars [] E0 (tCons (tVar 3) (tCons (tTupF (tCons (tVar 0) (tCons (tVar 1) (tCons (tVar 2) tNil)))) (tCons (tVar 5) (tCons (tVar 6) tNil))))) rfl scThr.nd rfl rfl (sw_true rfl rfl rfl (by decide +kernel)) (pi_tup (pe_tup (pa_cons (pe_tup (pa_cons (pv 0) (pa_cons (pv 1) pa_nil))) (pa_cons (pe_tup (pa_cons (pv 0) (pa_cons (pv 2) pa_nil))) (pa_cons (pe_tup (pa_cons (pv 2) (pa_cons (pv 1) pa_nil))) (pa_cons (pe_tup (pa_cons (pv 1) (pa_cons (pv 2) pa_nil))) pa_nil)))))) (blkOk_by (N := nThr) (sc := defScope sThr) (by decide +kernel)) (fun _ _ _ _ _ => pg_tup rfl (pgs_cons (pg_name (i := 5) scThr.nd rfl (Or.inl rfl)) (pgs_cons (pg_name (i := 6) scThr.nd rfl (Or.inl rfl)) pgs_nil))) (fun _ _ _ _ _ => pts_nil) (fun _ _ _ _ _ => pe_cal CBa hr (pa_cons (pv 3) (pa_cons (pe_tupF (pa_cons (pv 0) (pa_cons (pv 1) (pa_cons (pv 2) pa_nil)))) (pa_cons (pv 5) (pa_cons (pv 6) pa_nil))))))
    (pss_cons (ps_if (pt_not (pt_val (pe_cal CSa hr (pa_cons (pv 4) (pa_cons (pe_lst (pa_cons (pe_lst (pa_cons pe_str pa_nil)) (pa_cons (pe_lst (pa_cons pe_str (pa_cons pe_str pa_nil))) (pa_cons (pe_lst (pa_cons pe_str pa_nil)) (pa_cons (pe_lst (pa_cons pe_str pa_nil)) pa_nil))))) pa_nil)))))
      (pss_one (ps_ret pe_bl))
      pss_nil)
    (pss_cons (ps_set (i := 7) scThr.nd rfl (.inl rfl) (pe_lst (pa_cons (pe_tup (pa_cons (pv 1) (pa_cons pe_str pa_nil))) (pa_cons (pe_tup (pa_cons (pv 2) (pa_cons pe_str pa_nil))) pa_nil))))
    (pss_cons (ps_if (PW.pt (pw_or (pt_cmpR op_notBl (pe_cal CSr hr (pa_cons (pv 3) (pa_cons (pe_tupF (pa_cons (pv 0) (pa_cons (pv 1) (pa_cons (pv 2) pa_nil)))) (pa_cons (pv 7) pa_nil)))) pe_bl (nomark _)) (pw_or1 (pt_cmpR op_notBl (pe_cal CSr hr (pa_cons (pv 3) (pa_cons (pe_tupF (pa_cons (pv 0) (pa_cons (pv 2) (pa_cons (pv 1) pa_nil)))) (pa_cons (pv 7) pa_nil)))) pe_bl (nomark _)))))
      (pss_one (ps_ret pe_bl))
      pss_nil)
    (pss_one (ps_ret (pe_and (pe_cmpR op_eq (pe_ix ix_tup (pe_cal COo hr (pa_cons (pv 3) (pa_cons (pe_tupF (pa_cons (pv 0) (pa_cons (pv 1) (pa_cons (pv 2) pa_nil)))) pa_nil))) pe_int (fun _ _ => rfl)) pe_str (nomark _)) (pe_one (pe_cmpR op_eq (pe_ix ix_tup (pe_cal COo hr (pa_cons (pv 3) (pa_cons (pe_tupF (pa_cons (pv 2) (pa_cons (pv 0) (pa_cons (pv 1) pa_nil)))) pa_nil))) pe_int (fun _ _ => rfl)) pe_str (nomark _)))))))))))))), ?_⟩

  obtain ⟨a, b, c, rfl, nd, ok, q⟩ := h
  have kn := kn_three
  obtain ⟨k1, k2, k3, k4, k5, k6, k7, k8⟩ := kn
  obtain ⟨kw1, kw2, kw3, kw4, kw5⟩ := kn_words
  -- pals
  refine ⟨_, rfl, _, rfl, (by show 2 ≤ sizeLine; decide), fun T hT => ?_⟩
  have s1 := same_upd (o := .tup [.str a, .str c]) hT
  refine ⟨(by show 1 ≤ sizeLine; decide), fun l hl => ?_⟩
  have s2 := same_upd (o := .lst [.ref T]) hl
  refine ⟨l, [(T, a, c)], rfl, upd_same, fun x hx => ?_, (by show 1 ≤ 200; decide), fun p0 ps H3 s3 hf pm => ?_⟩
  · rw [List.mem_singleton.mp hx]
    exact s2 _ _ upd_same
  obtain ⟨f, ef⟩ : ∃ f, f = fOf [a, b, c] := ⟨_, rfl⟩
  have f0 : f 0 = a := by rw [ef]; rfl
  have f1 : f 1 = b := by rw [ef]; rfl
  have f2 : f 2 = c := by rw [ef]; rfl
  have inj : ∀ i j, i < 3 → j < 3 → f i = f j → i = j := by
    rw [ef]
    exact fOf_inj nd
  have pm' : ps.Perm (mkE f [(0, 2)]) := by
    show ps.Perm [mk2 (f 0) (f 2)]
    rw [f0, f2]
    exact pm
  have K0 : Num ps f (frOf [(0, 2)]) 3 := kn_of inj pm' (by decide)
  have irr : Irr ps := irr_of inj pm' (by decide)
  have hpl : ps.length ≤ 1000 := by rw [pm.length_eq]; show 1 ≤ 1000; decide
  have mp : ∀ i j k, [i, j, k].map f = [f i, f j, f k] := fun _ _ _ => rfl
  have ndp : ∀ {l : List Nat}, (∀ y ∈ l, y < 3) → l.Nodup → (l.map f).Nodup := fun h1 h2 => K0.nodup h1 h2
  have st1 : standOf ps [a, b, c] = [a, c, b] := by
    have := K0.stand (o := [0, 1, 2]) (by decide)
    rw [k1, mp, mp, f0, f1, f2] at this
    exact this
  have st2 : standOf ps [a, c, b] = [a, c, b] := by
    have := K0.stand (o := [0, 2, 1]) (by decide)
    rw [k2, mp, f0, f1, f2] at this
    exact this
  have st3 : standOf ps [b, a, c] = [b, a, c] := by
    have := K0.stand (o := [1, 0, 2]) (by decide)
    rw [k3, mp, f0, f1, f2] at this
    exact this
  have lo1 : looseL ps [a, c, b] = [c, b] := by
    have := K0.loose (l := [0, 2, 1]) (by decide)
    rw [k4, mp, f0, f1, f2, show [2, 1].map f = [f 2, f 1] from rfl, f1, f2] at this
    exact this
  have lo2 : looseL ps [a, b, c] = [] := by
    have := K0.loose (l := [0, 1, 2]) (by decide)
    rw [k5, mp, f0, f1, f2] at this
    exact this
  have go1 : goneR ps [] [a, b, c] = [a, b, c] := by
    have := (K0.gone (l := [0, 1, 2]) (by decide)).2
    rw [show [0, 1, 2].length = 3 from rfl, k6, mp, f0, f1, f2] at this
    exact this
  have go2 : goneR ps [] [b, a, c] = [] := by
    have := (K0.gone (l := [1, 0, 2]) (by decide)).2
    rw [show [1, 0, 2].length = 3 from rfl, k7, mp, f0, f1, f2] at this
    exact this
  have go3 : goneR ps [] [c, a, b] = [] := by
    have := (K0.gone (l := [2, 0, 1]) (by decide)).2
    rw [show [2, 0, 1].length = 3 from rfl, k8, mp, f0, f1, f2] at this
    exact this
  have nd2 : [a, c, b].Nodup := by
    have := ndp (l := [0, 2, 1]) (by decide) (by decide)
    rwa [mp, f0, f1, f2] at this
  have nd3 : [b, a, c].Nodup := by
    have := ndp (l := [1, 0, 2]) (by decide) (by decide)
    rwa [mp, f0, f1, f2] at this
  have nd4 : [c, a, b].Nodup := by
    have := ndp (l := [2, 0, 1]) (by decide) (by decide)
    rwa [mp, f0, f1, f2] at this
  have wd : ∀ i j, i < 3 → j < 3 → wordsOf ps [a, b, c] (f i) (f j) i j = gWords (frOf [(0, 2)]) [0, 1, 2] i j i j := fun i j hi hj => by
    have := K0.words (l := [0, 1, 2]) (i := i) (j := j) (by decide) hi hj
    rw [mp, f0, f1, f2] at this
    exact this
  -- rows
  refine ⟨_, rfl, _, rfl, _, rfl, _, rfl, (by show 3 ≤ sizeLine; decide), fun a1 ha1 => ?_⟩
  have s4 := same_upd (o := .lst [.str a, .str b, .str c]) ha1
  refine ⟨p0, a1, ps, [a, b, c], rfl, hf.same s4, hpl, .inr upd_same, nd, (by show 3 ≤ 100; decide), fun t1 H5 s5 e5 => ?_⟩
  rw [st1] at e5
  refine ⟨_, rfl, _, rfl, _, rfl, _, rfl, (by show 3 ≤ sizeLine; decide), fun a2 ha2 => ?_⟩
  have s6 := same_upd (o := .lst [.str a, .str c, .str b]) ha2
  refine ⟨p0, a2, ps, [a, c, b], rfl, ((hf.same s4).same s5).same s6, hpl, .inr upd_same, nd2, (by show 3 ≤ 100; decide), fun t2 H7 s7 e7 => ?_⟩
  rw [st2] at e7
  refine ⟨_, rfl, _, rfl, _, rfl, _, rfl, (by show 3 ≤ sizeLine; decide), fun a3 ha3 => ?_⟩
  have s8 := same_upd (o := .lst [.str b, .str a, .str c]) ha3
  have s48 := (((s4.trans s5).trans s6).trans s7).trans s8
  refine ⟨p0, a3, ps, [b, a, c], rfl, hf.same s48, hpl, .inr upd_same, nd3, (by show 3 ≤ 100; decide), fun t3 H9 s9 e9 => ?_⟩
  rw [st3] at e9
  refine ⟨(by show 3 ≤ sizeLine; decide), fun L hL => ?_⟩
  have s10 := same_upd (o := .lst [.ref t1, .ref t2, .ref t3]) hL
  refine ⟨_, rfl, _, rfl, _, rfl, _, rfl, (by show 3 ≤ sizeLine; decide), fun d1 H11 s11 _ e11 => ?_⟩
  refine ⟨_, rfl, _, rfl, _, rfl, (by show 3 ≤ sizeLine; decide), fun d2 H12 s12 _ e12 => ?_⟩
  refine ⟨_, rfl, _, rfl, _, rfl, (by show 3 ≤ sizeLine; decide), fun d3 H13 s13 _ e13 => ?_⟩
  refine ⟨(by show 3 ≤ sizeLine; decide), fun D hD => ?_⟩
  have s14 := same_upd (o := .lst [.ref d1, .ref d2, .ref d3]) hD
  have s1014 := ((s11.trans s12).trans s13).trans s14
  have s914 := s10.trans s1014
  have alk3 : ∀ {n : Nat} {H : Hp} {u v : Addr} {x y z : Str}, TupAt H u [.str x, .str y, .str z] → TupAt H v [.str x, .str y, .str z] → Alk H (n + 2) (.ref u) (.ref v) := fun {n H u v x y z} h1 h2 => alk_strsT (xs := [x, y, z]) (.inr h1) (.inr h2) (by show 3 ≤ 1000; decide)
  refine ⟨.ref L, .ref D, rfl, alk_lstF (n := 4) (s1014 _ _ upd_same) upd_same (.cons (alk3 (n := 2) ((e5.same (((s6.trans s7).trans s8).trans s9)).same s914) (e11.same ((s12.trans s13).trans s14))) (.cons (alk3 (n := 2) ((e7.same (s8.trans s9)).same s914) (e12.same (s13.trans s14))) (.cons (alk3 (n := 2) (e9.same s914) (e13.same s14)) .nil))) (by show 3 ≤ 1000; decide), fun H15 s15 => ⟨true, rfl, ?_⟩⟩
  have s315 := (s48.trans s9).trans (s914.trans s15)
  -- who can have come last; who is left
  refine ⟨_, rfl, _, rfl, _, rfl, _, rfl, (by show 3 ≤ sizeLine; decide), fun r1 H16 s16 _ e16 => ?_⟩
  have hf16 := (hf.same s315).same s16
  refine ⟨p0, r1, ps, [a, c, b], rfl, hf16, hpl, .inl e16, (by show 3 ≤ 100; decide), fun l1 H17 s17 _ e17 => ?_⟩
  rw [lo1] at e17
  refine ⟨_, rfl, _, rfl, _, rfl, _, rfl, (by show 3 ≤ sizeLine; decide), fun r2 H18 s18 _ e18 => ?_⟩
  refine ⟨p0, r2, ps, [a, b, c], rfl, (hf16.same s17).same s18, hpl, .inl e18, (by show 3 ≤ 100; decide), fun l2 H19 s19 _ e19 => ?_⟩
  rw [lo2] at e19
  have s1719 := (s17.trans s18).trans s19
  refine ⟨(by show 2 ≤ sizeLine; decide), fun L2 hL2 => ?_⟩
  have s20 := same_upd (o := .lst [.ref l1, .ref l2]) hL2
  have s1720 := s1719.trans s20
  refine ⟨_, rfl, _, rfl, _, rfl, _, rfl, _, rfl, (by show 3 ≤ sizeLine; decide), fun r3 H21 s21 _ e21 => ?_⟩
  have hf21 := (hf16.same s1720).same s21
  refine ⟨p0, r3, EL, ps, [a, b, c], [], rfl, hf21, hpl, .inl e21, nd, (by show 3 ≤ 100; decide), (fun H' _ => LO.but H'), fun g1 H22 s22 e22 => ?_⟩
  rw [go1] at e22
  refine ⟨_, rfl, _, rfl, _, rfl, _, rfl, (by show 3 ≤ sizeLine; decide), fun r4 H23 s23 _ e23 => ?_⟩
  refine ⟨p0, r4, EL, ps, [b, a, c], [], rfl, (hf21.same s22).same s23, hpl, .inl e23, nd3, (by show 3 ≤ 100; decide), (fun H' _ => LO.but H'), fun g2 H24 s24 e24 => ?_⟩
  rw [go2] at e24
  refine ⟨(by show 2 ≤ sizeLine; decide), fun L3 hL3 => ?_⟩
  have s25 := same_upd (o := .lst [.ref g1, .ref g2]) hL3
  have s2125 := (((s21.trans s22).trans s23).trans s24).trans s25
  refine ⟨L2, L3, _, _, rfl, rfl, s2125 _ _ upd_same, upd_same, small_le (by show 4 ≤ 1000; decide), fun L4 hL4 => ?_⟩
  have s26 := same_upd (o := .lst ([.ref l1, .ref l2] ++ [.ref g1, .ref g2])) hL4
  refine ⟨_, rfl, _, rfl, (by show 2 ≤ sizeLine; decide), fun d4 hd4 => ?_⟩
  have s27 := same_upd (o := .lst [.str c, .str b]) hd4
  refine ⟨(by show 0 ≤ sizeLine; decide), fun d5 hd5 => ?_⟩
  have s28 := same_upd (o := .lst []) hd5
  refine ⟨_, rfl, _, rfl, _, rfl, (by show 3 ≤ sizeLine; decide), fun d6 H29 s29 _ e29 => ?_⟩
  refine ⟨(by show 0 ≤ sizeLine; decide), fun d7 H30 s30 _ e30 => ?_⟩
  refine ⟨(by show 4 ≤ sizeLine; decide), fun D2 hD2 => ?_⟩
  have s31 := same_upd (o := .lst [.ref d4, .ref d5, .ref d6, .ref d7]) hD2
  have s2931 := (s29.trans s30).trans s31
  have s2731 := (s27.trans s28).trans s2931
  have s2631 := s26.trans s2731
  have s2031 := (s20.trans s2125).trans s2631
  have s1931 := s2031
  refine ⟨.ref L4, .ref D2, rfl, alk_lstF (n := 4) (s2731 _ _ upd_same) upd_same (.cons (alk_strsL (n := 2) (xs := [c, b]) (s2031 _ _ ((s18.trans s19) _ _ e17)) (s2931 _ _ (s28 _ _ upd_same)) (by show 2 ≤ 1000; decide)) (.cons (alk_strsL (n := 2) (xs := []) (s2031 _ _ e19) (s2931 _ _ upd_same) (by show 0 ≤ 1000; decide)) (.cons (alk3 (n := 2) (e22.same (((s23.trans s24).trans s25).trans s2631)) (e29.same (s30.trans s31))) (.cons (alk_strsT (n := 2) (xs := []) (.inr (e24.same (s25.trans s2631))) (.inr (e30.same s31)) (by show 0 ≤ 1000; decide)) .nil)))) (by show 4 ≤ 1000; decide), fun H32 s32 => ⟨true, rfl, ?_⟩⟩
  have s332 := (s315.trans s16).trans (s1719.trans (s2031.trans s32))
  -- the words
  refine ⟨_, rfl, _, rfl, (by show 2 ≤ sizeLine; decide), fun x1 h1 => ?_⟩
  have s33 := same_upd (o := .tup [.str a, .str b]) h1
  refine ⟨_, rfl, _, rfl, (by show 2 ≤ sizeLine; decide), fun x2 h2 => ?_⟩
  have s34 := same_upd (o := .tup [.str a, .str c]) h2
  refine ⟨_, rfl, _, rfl, (by show 2 ≤ sizeLine; decide), fun x3 h3 => ?_⟩
  have s35 := same_upd (o := .tup [.str c, .str b]) h3
  refine ⟨_, rfl, _, rfl, (by show 2 ≤ sizeLine; decide), fun x4 h4 => ?_⟩
  have s36 := same_upd (o := .tup [.str b, .str c]) h4
  refine ⟨(by show 4 ≤ sizeLine; decide), fun O hO => ?_⟩
  have s37 := same_upd (o := .tup [.ref x1, .ref x2, .ref x3, .ref x4]) hO
  have s337 := (((s33.trans s34).trans s35).trans s36).trans s37
  have all4 : ∀ (i : Nat) (v : V), [V.ref x1, .ref x2, .ref x3, .ref x4][i]? = some v → ∃ x u z, v = .ref x ∧ upd (upd (upd (upd (upd H32 x1 (.tup [.str a, .str b])) x2 (.tup [.str a, .str c])) x3 (.tup [.str c, .str b])) x4 (.tup [.str b, .str c])) O (.tup [.ref x1, .ref x2, .ref x3, .ref x4]) x = some (.tup [.str (f u), .str (f z)]) ∧ u < 3 ∧ z < 3 ∧ [[("behind" : Str)], [("behind" : Str), ("friend" : Str)], [("between" : Str)], [("behind" : Str)]][i]? = some (gWords (frOf [(0, 2)]) [0, 1, 2] u z u z) := by
    intro i v hv
    match i, hv with
    | 0, hv => exact ⟨x1, 0, 1, (Option.some.inj hv).symm, by rw [f0, f1]; exact (((s34.trans s35).trans s36).trans s37) _ _ upd_same, by decide, by decide, by rw [kw1]; rfl⟩
    | 1, hv => exact ⟨x2, 0, 2, (Option.some.inj hv).symm, by rw [f0, f2]; exact ((s35.trans s36).trans s37) _ _ upd_same, by decide, by decide, by rw [kw2]; rfl⟩
    | 2, hv => exact ⟨x3, 2, 1, (Option.some.inj hv).symm, by rw [f2, f1]; exact (s36.trans s37) _ _ upd_same, by decide, by decide, by rw [kw3]; rfl⟩
    | 3, hv => exact ⟨x4, 1, 2, (Option.some.inj hv).symm, by rw [f1, f2]; exact s37 _ _ upd_same, by decide, by decide, by rw [kw4]; rfl⟩
  have hO' : upd (upd (upd (upd (upd H32 x1 (.tup [.str a, .str b])) x2 (.tup [.str a, .str c])) x3 (.tup [.str c, .str b])) x4 (.tup [.str b, .str c])) O (.tup [.ref x1, .ref x2, .ref x3, .ref x4]) O = some (.tup [.ref x1, .ref x2, .ref x3, .ref x4]) := upd_same
  generalize upd (upd (upd (upd (upd H32 x1 (.tup [.str a, .str b])) x2 (.tup [.str a, .str c])) x3 (.tup [.str c, .str b])) x4 (.tup [.str b, .str c])) O (.tup [.ref x1, .ref x2, .ref x3, .ref x4]) = H37 at all4 hO' s337 ⊢
  have s3337 := s332.trans s337
  have hf37 := hf.same s3337
  refine ⟨O, rfl, ⟨_, .inl (.inl hO')⟩, fun M hM => ?_⟩
  refine lc_rel (walk_tup (K := K) (xs := [V.ref x1, .ref x2, .ref x3, .ref x4])) (fun i H' y => ∃ a ws, y = .ref a ∧ [[("behind" : Str)], [("behind" : Str), ("friend" : Str)], [("between" : Str)], [("behind" : Str)]][i]? = some ws ∧ H' a = some (.lst (ws.map V.str))) (by show 4 ≤ 1000; decide) hM (fun H' s => .inl (.inl (s _ _ hO'))) ?_ ?_ ?_
  · rintro j G G' y ny _ o ⟨u, ws, rfl, e1, e2⟩
    exact ⟨u, ws, rfl, e1, o _ _ (fun z => ny (by rw [z])) e2⟩
  · rintro i v G G' k hi s38 ⟨acc, hacc⟩ ⟨rfl, ev⟩ hk
    obtain ⟨x, u, z, rfl, hx, hu3, hz3, ew⟩ := all4 i v ev
    have hx2 := s38 _ _ hx
    refine ⟨x, _, rfl, .inl (.inl hx2), rfl, _, _, rfl, _, _, rfl, rfl, rfl, ?_⟩
    refine ⟨_, rfl, _, rfl, _, rfl, _, rfl, (by show 3 ≤ sizeLine; decide), fun r5 H39 s39 _ e39 => ?_⟩
    have ix3 : ∀ j, j < 3 → [a, b, c][j]? = some (f j) := fun j hj => by
      match j, hj with
      | 0, _ => rw [f0]; rfl
      | 1, _ => rw [f1]; rfl
      | 2, _ => rw [f2]; rfl
    refine ⟨_, rfl, _, rfl, p0, r5, ps, [a, b, c], f u, f z, u, z, rfl, (hf37.same s38).same s39, hpl, .inl e39, (by show 3 ≤ 100; decide), nd, ix3 u hu3, ix3 z hz3, fun W5 H40 s40 n40 e40 => ?_⟩
    rw [wd u z hu3 hz3] at e40
    refine hk _ H40 (s39.trans s40) (fun e => ?_) ⟨W5, _, rfl, ew, e40⟩
    cases e
    rw [s39 _ _ hacc] at n40
    cases n40
  intro H38 ys s38 d38 l38 r38
  have s3338 := s3337.trans s38
  refine ⟨_, rfl, (by show 1 ≤ sizeLine; decide), fun y1 hy1 => ?_⟩
  have s39 := same_upd (o := .lst [.str "behind"]) hy1
  refine ⟨(by show 2 ≤ sizeLine; decide), fun y2 hy2 => ?_⟩
  have s40 := same_upd (o := .lst [.str "behind", .str "friend"]) hy2
  refine ⟨(by show 1 ≤ sizeLine; decide), fun y3 hy3 => ?_⟩
  have s41 := same_upd (o := .lst [.str "between"]) hy3
  refine ⟨(by show 1 ≤ sizeLine; decide), fun y4 hy4 => ?_⟩
  have s42 := same_upd (o := .lst [.str "behind"]) hy4
  refine ⟨(by show 4 ≤ sizeLine; decide), fun D3 hD3 => ?_⟩
  have s43 := same_upd (o := .lst [.ref y1, .ref y2, .ref y3, .ref y4]) hD3
  have s3943 := (((s39.trans s40).trans s41).trans s42).trans s43
  have alkW : ∀ (i : Nat) (u v : V), ys[i]? = some u → [V.ref y1, .ref y2, .ref y3, .ref y4][i]? = some v → Alk (upd (upd (upd (upd (upd H38 y1 (.lst [.str "behind"])) y2 (.lst [.str "behind", .str "friend"])) y3 (.lst [.str "between"])) y4 (.lst [.str "behind"])) D3 (.lst [.ref y1, .ref y2, .ref y3, .ref y4])) 4 u v := by
    intro i u v hu hv
    obtain ⟨w5, ws, rfl, ew, e5⟩ := r38 i u hu
    have e6 := s3943 _ _ e5
    match i, hv, ew with
    | 0, hv, ew =>
      cases hv
      cases ew
      exact alk_strsL (n := 2) e6 ((((s40.trans s41).trans s42).trans s43) _ _ upd_same) (by show 1 ≤ 1000; decide)
    | 1, hv, ew =>
      cases hv
      cases ew
      exact alk_strsL (n := 2) e6 (((s41.trans s42).trans s43) _ _ upd_same) (by show 2 ≤ 1000; decide)
    | 2, hv, ew =>
      cases hv
      cases ew
      exact alk_strsL (n := 2) e6 ((s42.trans s43) _ _ upd_same) (by show 1 ≤ 1000; decide)
    | 3, hv, ew =>
      cases hv
      cases ew
      exact alk_strsL (n := 2) e6 (s43 _ _ upd_same) (by show 1 ≤ 1000; decide)
  refine ⟨.ref M, .ref D3, rfl, .inr (.inl ⟨M, D3, ys, _, rfl, rfl, s3943 _ _ d38, upd_same, l38, by rw [l38]; show 4 ≤ 1000; decide, alkW⟩), fun H44 s44 => ⟨true, rfl, ?_⟩⟩
  have s344 := (s3338.trans s3943).trans s44
  -- the ring
  refine ⟨_, rfl, (by show 2 ≤ sizeLine; decide), fun z1 hz1 => ?_⟩
  have s45 := same_upd (o := .tup [.str b, .str "behind"]) hz1
  refine ⟨_, rfl, (by show 2 ≤ sizeLine; decide), fun z2 hz2 => ?_⟩
  have s46 := same_upd (o := .tup [.str c, .str "between"]) hz2
  refine ⟨(by show 2 ≤ sizeLine; decide), fun R hR => ?_⟩
  have s47 := same_upd (o := .lst [.ref z1, .ref z2]) hR
  have s4547 := (s45.trans s46).trans s47
  have hz1' := (s46.trans s47) _ _ (upd_same (H := H44) (a := z1) (o := .tup [.str b, .str "behind"]))
  have hz2' := s47 _ _ (upd_same (H := upd H44 z1 (.tup [.str b, .str "behind"])) (a := z2) (o := .tup [.str c, .str "between"]))
  have hR' : upd (upd (upd H44 z1 (.tup [.str b, .str "behind"])) z2 (.tup [.str c, .str "between"])) R (.lst [.ref z1, .ref z2]) R = some (.lst [.ref z1, .ref z2]) := upd_same
  generalize upd (upd (upd H44 z1 (.tup [.str b, .str "behind"])) z2 (.tup [.str c, .str "between"])) R (.lst [.ref z1, .ref z2]) = H47 at s4547 hz1' hz2' hR' ⊢
  have s347 := s344.trans s4547
  have wA : ∀ {l : List Nat} {x y : Nat}, (∀ z ∈ l, z < 3) → x < 3 → y < 3 → wordsAt ps (l.map f) (f x) (f y) = gWords (frOf [(0, 2)]) l x y (l.idxOf x) (l.idxOf y) := fun {l x y} hl hx hy => by
    unfold wordsAt
    rw [K0.words hl hx hy, K0.idx hl hx, K0.idx hl hy]
  have nbc : b ≠ c := fun e => by
    have := inj 1 2 (by decide) (by decide) (by rw [f1, f2, e])
    cases this
  have pr47 : ∀ {H' : Hp}, Same H47 H' → PairsAt H' [(z1, b, ("behind" : Str)), (z2, c, ("between" : Str))] := fun {H'} s x hx => by
    rcases List.mem_cons.mp hx with rfl | hx
    · exact s _ _ hz1'
    · rw [List.mem_singleton.mp hx]
      exact s _ _ hz2'
  have w1 : wordsAt ps [a, b, c] b c = [("behind" : Str)] := by
    have := wA (l := [0, 1, 2]) (x := 1) (y := 2) (by decide) (by decide) (by decide)
    rw [mp, f0, f1, f2] at this
    exact this.trans kw4
  have w2 : wordsAt ps [a, b, c] c b = [("between" : Str)] := by
    have := wA (l := [0, 1, 2]) (x := 2) (y := 1) (by decide) (by decide) (by decide)
    rw [mp, f0, f1, f2] at this
    exact this.trans kw3
  have w3 : wordsAt ps [a, c, b] b c = [] := by
    have := wA (l := [0, 2, 1]) (x := 1) (y := 2) (by decide) (by decide) (by decide)
    rw [mp, f0, f1, f2] at this
    exact this.trans kw5
  refine ⟨_, rfl, _, rfl, _, rfl, _, rfl, (by show 3 ≤ sizeLine; decide), fun q1 H48 s48 _ e48 => ?_⟩
  refine ⟨_, rfl, p0, q1, R, ps, [a, b, c], (z1, b, "behind"), (z2, c, "between"), true, rfl, (hf.same s347).same s48, hpl, .inl e48, nd, (by show 3 ≤ 100; decide), ok, s48 _ _ hR', pr47 s48, by simp, by simp, nbc, ?_, fun H49 s49 => ?_⟩
  · rw [w1, w2]
    show true = (decide (("behind" : Str) ∈ [("behind" : Str)]) && decide (("between" : Str) ∈ [("between" : Str)]))
    decide +kernel
  have s4749 := s48.trans s49
  refine ⟨_, _, rfl, rfl, false, rfl, ite2 (fun c => absurd c (by simp)) fun _ => ?_⟩
  have ok2 : ∀ x ∈ [a, c, b], NameOk x := fun x hx => ok x (by
    simp only [List.mem_cons, List.not_mem_nil, or_false] at hx ⊢
    rcases hx with h | h | h
    · exact .inl h
    · exact .inr (.inr h)
    · exact .inr (.inl h))
  refine ⟨_, rfl, _, rfl, _, rfl, _, rfl, (by show 3 ≤ sizeLine; decide), fun q2 H50 s50 _ e50 => ?_⟩
  have s4750 := s4749.trans s50
  refine ⟨_, rfl, p0, q2, R, ps, [a, c, b], (z1, b, "behind"), (z2, c, "between"), false, rfl, (hf.same s347).same s4750, hpl, .inl e50, nd2, (by show 3 ≤ 100; decide), ok2, s4750 _ _ hR', pr47 s4750, by simp, by simp, nbc, ?_, fun H51 s51 => ?_⟩
  · rw [w3]
    rfl
  have s351 := (s347.trans s4750).trans s51
  refine ⟨_, _, rfl, rfl, false, rfl, ite2 (fun c => absurd c (by simp)) fun _ => ?_⟩
  -- an order or a ring
  refine ⟨_, rfl, _, rfl, _, rfl, _, rfl, (by show 3 ≤ sizeLine; decide), fun q3 H52 s52 _ e52 => ?_⟩
  refine ⟨p0, q3, ps, [a, b, c], rfl, (hf.same s351).same s52, hpl, irr, .inl e52, nd, (by show 3 ≤ 100; decide), fun T1 po wd1 H53 s53 _ e53 oa1 => ?_⟩
  have ew1 : wd1 = "ring" := by
    rcases oa1 with ⟨z, _⟩ | ⟨_, z, _⟩
    · rw [go1] at z
      cases z
    · exact z
  subst ew1
  refine ⟨T1, _, 0, _, rfl, rfl, .inl (.inl e53), atI_nat (j := 0) rfl, ?_⟩
  refine ⟨rfl, _, rfl, ite2 (fun _ => ?_) fun c => absurd (decide_eq_true rfl) c⟩
  refine ⟨_, rfl, _, rfl, _, rfl, _, rfl, (by show 3 ≤ sizeLine; decide), fun q4 H54 s54 _ e54 => ?_⟩
  have s5254 := (s52.trans s53).trans s54
  refine ⟨p0, q4, ps, [c, a, b], rfl, (hf.same s351).same s5254, hpl, irr, .inl e54, nd4, (by show 3 ≤ 100; decide), fun T2 po2 wd2 H55 s55 _ e55 oa2 => ?_⟩
  have ew2 : wd2 = "order" := by
    rcases oa2 with ⟨_, z, _⟩ | ⟨z, _⟩
    · exact z
    · exact absurd go3 z
  subst ew2
  refine ⟨T2, _, 0, _, rfl, rfl, .inl (.inl e55), atI_nat (j := 0) rfl, ?_⟩
  refine ⟨rfl, ?_⟩
  rw [decide_eq_true (show V.str "order" = V.str "order" from rfl)]
  exact q _ (((s1.trans s2).trans s3).trans (s351.trans (s5254.trans s55)))
/-! ### _law_all_right -/
abbrev sAllR : Stmt := topS 41
abbrev nAllR : List Str := ["_law_pool", "_law_every", "_law_first", "_law_rest", "_law_k", "_law_mine", "_law_its", "_law_star", "_law_told", "_law_name"]
abbrev pAllR : List Str := ["_law_pool"]
theorem scAllR : FnScope nAllR pAllR (defScope sAllR) := ⟨rfl, rfl, rfl, by decide +kernel, rfl, by decide +kernel, by decide +kernel⟩
-- slots: 0:pool 1:every 2:first* 3:rest 4:k 5:mine* 6:its 7:star 8:told 9:name
theorem ok_allR {fa EL : Addr} {fd : FuncData} (B : Blt mg) (CPr : Cal P w K mg base 1 "_law_pairs" ["_law_some"] spPrs) (CSa : Cal P w K mg base 5 "_law_same" ["_law_found", "_law_due"] (spSame 5)) (LO : Cal3 P w K mg base 6 "left_over" (spLeft K) EL) (CLi : Cal P w K mg base 3 "loose_in" ["friends", "row"] spLooseIn) (COo : Cal P w K mg base 6 "order_of" ["friends", "row"] spOrderOf) (CPb : Cal P w K mg base 6 "put_back" ["friends", "order"] spPutBack) (CRo : Cal P w K mg base 5 "row_of" ["friends", "order"] spRowOf) (F : Fun K "_law_all_right" "_law_all_right" sAllR fa fd) : FnOk P w K mg base CX0 7 fa fd pAllR spPool9 := by
  refine fok F scAllR (fun vs H Q E h => ?_) (fun cdv A outer s H vs Q E hr h => ?_)
  · obtain ⟨l, pool, rfl, _⟩ := h
    rfl
  have hu := hu_of hr
  refine ⟨_, pss_cons (ps_asg (pe_tup (pa_cons (pe_lst pa_nil) (pa_cons (pe_ix ix_list (pv 0) pe_int (fun _ _ => rfl)) (pa_cons (pe_slice sl_list (pv 0) (po_some pe_int) po_none) pa_nil)))) (pg_tup rfl (pgs_cons (pg_name (i := 1) scAllR.nd rfl (.inl rfl)) (pgs_cons (pg_name (i := 2) scAllR.nd rfl (.inr rfl)) (pgs_cons (pg_name (i := 3) scAllR.nd rfl (.inl rfl)) pgs_nil)))))
    (pss_cons (ps_for PassesOwn.never rfl (pi_enum (by rfl) B.enumerate (pa_cons (pv 0) pa_nil)) (pg_tup rfl (pgs_cons (pg_name (i := 4) scAllR.nd rfl (.inl rfl)) (pgs_cons (pg_name (i := 5) scAllR.nd rfl (.inr rfl)) pgs_nil)))
      (pss_one (ps_set (i := 1) scAllR.nd rfl (.inl rfl) (pe_op op_cat (pv 1) (pe_lc (own := [("_law_its", 6)]) (g := gName 6) (tt := tYes) (te := tTup (tCons (tVar 5) (tCons (tVar 6) tNil))) rfl scAllR.nd (pi_list (pe_slice sl_list (pv 0) po_none (po_some (pv 4)))) (blkOk_by (N := nAllR) (sc := defScope sAllR) (by decide +kernel)) (fun _ _ _ _ _ => pg_name (i := 6) scAllR.nd rfl (Or.inl rfl)) (fun _ _ _ _ _ => pts_nil) (fun _ _ _ _ _ => pe_tup (pa_cons (pv 5) (pa_cons (pv 6) pa_nil))))))))
    (pss_cons (ps_set (i := 1) scAllR.nd rfl (.inl rfl) (pe_cal CPr hr (pa_cons (pv 1) pa_nil)))
    (pss_cons (ps_set (i := 7) scAllR.nd rfl (.inl rfl) (pe_cal CPr hr (pa_cons (pe_lc (own := [("_law_its", 6)]) (g := gName 6) (tt := tYes) (te := tTup (tCons (tVar 2) (tCons (tVar 6) tNil))) rfl scAllR.nd (pi_list (pv 3)) (blkOk_by (N := nAllR) (sc := defScope sAllR) (by decide +kernel)) (fun _ _ _ _ _ => pg_name (i := 6) scAllR.nd rfl (Or.inl rfl)) (fun _ _ _ _ _ => pts_nil) (fun _ _ _ _ _ => pe_tup (pa_cons (pv 2) (pa_cons (pv 6) pa_nil)))) pa_nil)))
    (pss_cons (ps_set (i := 8) scAllR.nd rfl (.inl rfl) (pe_lst (pa_cons (pe_cal CRo hr (pa_cons (pe_tup pa_nil) (pa_cons (pv 0) pa_nil))) (pa_cons (pe_cal CRo hr (pa_cons (pv 1) (pa_cons (pv 0) pa_nil))) (pa_cons (pe_cal CRo hr (pa_cons (pv 7) (pa_cons (pv 0) pa_nil))) (pa_cons (pe_cal CRo hr (pa_cons (pv 7) (pa_cons (pe_op op_cat (pv 3) (pe_lst (pa_cons (pv 2) pa_nil))) pa_nil))) pa_nil))))))
    (pss_cons (ps_if (pt_not (pt_val (pe_cal CSa hr (pa_cons (pv 8) (pa_cons (pe_lst (pa_cons (pe_callTy call_tupleF (by rfl) B.tuple (by decide +kernel) (pa_cons (pv 0) pa_nil)) (pa_cons (pe_callTy call_tupleF (by rfl) B.tuple (by decide +kernel) (pa_cons (pv 0) pa_nil)) (pa_cons (pe_callTy call_tupleF (by rfl) B.tuple (by decide +kernel) (pa_cons (pe_op op_cat (pe_lst (pa_cons (pv 2) pa_nil)) (pe_revL (pv 3))) pa_nil)) (pa_cons (pe_callTy call_tupleF (by rfl) B.tuple (by decide +kernel) (pa_cons (pe_op op_cat (pv 3) (pe_lst (pa_cons (pv 2) pa_nil))) pa_nil)) pa_nil))))) pa_nil)))))
      (pss_one (ps_ret pe_bl))
      pss_nil)
    (pss_cons (ps_if (pt_not (pt_val (pe_cal CSa hr (pa_cons (pe_cal CPb hr (pa_cons (pv 7) (pa_cons (pv 0) pa_nil))) (pa_cons (pe_op op_cat (pe_lst (pa_cons (pe_tup (pa_cons (pv 2) (pa_cons pe_int pa_nil))) pa_nil)) (pe_lc (own := [("_law_k", 4), ("_law_name", 9)]) (g := gTup K 2 (gCons (gName 4) (gCons (gName 9) gNil))) (tt := tYes) (te := tTup (tCons (tVar 9) (tCons (tVar 4) tNil))) rfl scAllR.nd (pi_enum (by rfl) B.enumerate (pa_cons (pe_revL (pv 3)) pa_nil)) (blkOk_by (N := nAllR) (sc := defScope sAllR) (by decide +kernel)) (fun _ _ _ _ _ => pg_tup rfl (pgs_cons (pg_name (i := 4) scAllR.nd rfl (Or.inl rfl)) (pgs_cons (pg_name (i := 9) scAllR.nd rfl (Or.inl rfl)) pgs_nil))) (fun _ _ _ _ _ => pts_nil) (fun _ _ _ _ _ => pe_tup (pa_cons (pv 9) (pa_cons (pv 4) pa_nil))))) pa_nil)))))
      (pss_one (ps_ret pe_bl))
      pss_nil)
    (pss_cons (ps_set (i := 8) scAllR.nd rfl (.inl rfl) (pe_lst (pa_cons (pe_cal COo hr (pa_cons (pe_tup pa_nil) (pa_cons (pe_callTy call_tupleF (by rfl) B.tuple (by decide +kernel) (pa_cons (pv 0) pa_nil)) pa_nil))) (pa_cons (pe_cal COo hr (pa_cons (pv 1) (pa_cons (pe_callTy call_tupleF (by rfl) B.tuple (by decide +kernel) (pa_cons (pv 0) pa_nil)) pa_nil))) (pa_cons (pe_cal COo hr (pa_cons (pv 7) (pa_cons (pe_callTy call_tupleF (by rfl) B.tuple (by decide +kernel) (pa_cons (pe_op op_cat (pe_lst (pa_cons (pv 2) pa_nil)) (pv 3)) pa_nil)) pa_nil))) pa_nil)))))
    (pss_cons (ps_if (pt_not (pt_val (pe_cal CSa hr (pa_cons (pv 8) (pa_cons (pe_lst (pa_cons (pe_tupF (pa_cons pe_str (pa_cons (pv 0) pa_nil))) (pa_cons (pe_tupF (pa_cons pe_str (pa_cons (pv 0) pa_nil))) (pa_cons (pe_tupF (pa_cons pe_str (pa_cons (pe_op op_cat (pe_lst (pa_cons (pv 2) pa_nil)) (pe_revL (pv 3))) pa_nil))) pa_nil)))) pa_nil)))))
      (pss_one (ps_ret pe_bl))
      pss_nil)
    (pss_cons (ps_if (pt_not (pt_val (pe_cal CSa hr (pa_cons (pe_cal3 LO hr (pa_cons (pv 7) (pa_cons (pe_callTy call_tupleF (by rfl) B.tuple (by decide +kernel) (pa_cons (pe_op op_cat (pv 3) (pe_lst (pa_cons (pv 2) pa_nil))) pa_nil)) pa_nil))) (pa_cons (pe_tupF pa_nil) pa_nil)))))
      (pss_one (ps_ret pe_bl))
      pss_nil)
    (pss_one (ps_ret (pe_cal CSa hr (pa_cons (pe_lst (pa_cons (pe_cal CLi hr (pa_cons (pe_tup pa_nil) (pa_cons (pe_callTy call_tupleF (by rfl) B.tuple (by decide +kernel) (pa_cons (pv 0) pa_nil)) pa_nil))) (pa_cons (pe_cal CLi hr (pa_cons (pv 1) (pa_cons (pe_callTy call_tupleF (by rfl) B.tuple (by decide +kernel) (pa_cons (pv 0) pa_nil)) pa_nil))) pa_nil))) (pa_cons (pe_lst (pa_cons (pe_slice sl_list (pv 0) (po_some (pe_un un_neg pe_int)) po_none) (pa_cons (pe_slice sl_list (pv 0) (po_some (pe_un un_neg pe_int)) po_none) pa_nil))) pa_nil)))))))))))))), ?_⟩

  obtain ⟨l, pool, rfl, hl, nd, ok, n2, n9, q⟩ := h
  obtain ⟨f, ef⟩ : ∃ f, f = fOf pool := ⟨_, rfl⟩
  obtain ⟨n, en⟩ : ∃ n, n = pool.length := ⟨_, rfl⟩
  have ep : pool = (up n).map f := by
    rw [ef, en]
    exact (map_fOf pool).symm
  have inj : ∀ i j, i < n → j < n → f i = f j → i = j := by
    rw [ef, en]
    exact fOf_inj nd
  have atp : ∀ i, i < n → pool[i]? = some (f i) := fun i hi => by
    rw [ep, List.getElem?_map]
    unfold up
    rw [List.getElem?_range hi]
    rfl
  refine ⟨(by show 0 ≤ sizeLine; decide), fun e1 he1 => ?_⟩
  have s1 := same_upd (o := .lst []) he1
  refine ⟨_, rfl, l, _, 0, _, rfl, rfl, .inl (.inl (s1 _ _ hl)), atI_nat (j := 0) (ix_map (atp 0 (by omega))), ?_⟩
  have er : cutV (pool.map V.str) (some 1) none = ((rest n).map f).map V.str := by
    rw [cutV_map, show (1 : Int) = ((1 : Nat) : Int) from rfl, cutL_from]
    congr 1
    rw [ep, ← List.map_drop, rest_drop]
  refine ⟨_, rfl, _, rfl, l, _, rfl, .inl (.inl (s1 _ _ hl)), fun rs hrs => ?_⟩
  rw [er]
  have s2 := same_upd (o := .lst (((rest n).map f).map V.str)) hrs
  refine ⟨(by show 3 ≤ sizeLine; decide), fun T hT => ?_⟩
  have s3 := same_upd (o := .tup [.ref e1, .str (f 0), .ref rs]) hT
  have s23 := s2.trans s3
  have s13 := s1.trans s23
  refine ⟨T, _, rfl, .inl (.inl upd_same), rfl, _, _, rfl, _, _, rfl, _, _, rfl, rfl, ?_⟩
  have e3 := s23 _ _ (upd_same (H := H) (a := e1) (o := .lst []))
  have rs3 := s3 _ _ (upd_same (H := upd H e1 (.lst [])) (a := rs) (o := .lst (((rest n).map f).map V.str)))
  generalize upd (upd (upd H e1 (.lst [])) rs (.lst (((rest n).map f).map V.str))) T (.tup [.ref e1, .str (f 0), .ref rs]) = H3 at s13 e3 rs3 ⊢
  have l3 := s13 _ _ hl
  have lp : (pool.map V.str).length = n := by rw [List.length_map, en]
  -- all are friends
  refine ⟨_, rfl, l, _, rfl, .inl (.inl l3), ?_⟩
  refine for_it (walk_enum (xs := pool.map V.str)) (fun i σ H' => ∃ (ev : Addr) (bs : List B3) (y4 y5 y6 y7 y8 y9 : Option V), σ = [some (.ref l), some (.ref ev), some (.str (f 0)), some (.ref rs), y4, y5, y6, y7, y8, y9] ∧ Same H3 H' ∧ H' ev = some (.lst (refs bs)) ∧ PairsAt H' bs ∧ bs.map (·.2) = (evE i).map fun e => (f e.1, f e.2)) ?_ ?_ ?_ ?_
  · exact ⟨e1, [], _, _, _, _, _, _, rfl, Same.refl _, e3, (fun _ h => nomatch h), rfl⟩
  · rintro i σ H' _ ⟨ev, bs, y4, y5, y6, y7, y8, y9, _, s4, _⟩
    exact .inl (.inl (s4 _ _ l3))
  · rintro i x σ H4 H5 hi ⟨ev, bs, y4, y5, y6, y7, y8, y9, rfl, s4, f4, p4, m4⟩ ⟨U, x1, x2, rfl, nU, rfl, q1, q2⟩
    rw [lp] at hi
    cases q1
    obtain ⟨mine, hm, rfl⟩ := at_map q2
    have em : mine = f i := Option.some.inj (hm.symm.trans (atp i hi))
    subst em
    have sU := same_upd (o := .tup [.int (i : Nat), .str (f i)]) nU
    refine ⟨U, _, rfl, .inl (.inl upd_same), rfl, _, _, rfl, _, _, rfl, rfl, ?_⟩
    have f5 := sU _ _ f4
    have l5 := sU _ _ (s4 _ _ l3)
    refine ⟨_, rfl, _, rfl, _, rfl, _, rfl, l, _, rfl, .inl (.inl l5), fun sl hsl => ?_⟩
    have ec : cutV (pool.map V.str) none (some (i : Nat)) = ((pool.take i).map V.str) := by rw [cutV_map, cutL_to]
    rw [ec]
    have s6 := same_upd (o := .lst ((pool.take i).map V.str)) hsl
    refine ⟨sl, rfl, ⟨_, .inl (.inl upd_same)⟩, fun D hD => ?_⟩
    refine lc_rel (walk_list (xs := (pool.take i).map V.str)) (fun j H' y => ∃ A, y = .ref A ∧ H' A = some (.tup [.str (f i), .str (f j)])) (by rw [List.length_map, List.length_take]; omega) hD (fun H' s => .inl (.inl (s _ _ upd_same))) ?_ ?_ ?_
    · rintro j G G' y ny _ o ⟨A, rfl, e⟩
      exact ⟨A, rfl, o _ _ (fun z => ny (by rw [z])) e⟩
    · rintro j v G G' k hj s7 ⟨acc, hacc⟩ ⟨rfl, ev2⟩ hk
      obtain ⟨its, hi2, rfl⟩ := at_map ev2
      rw [List.length_map, List.length_take] at hj
      have eit : its = f j := by
        rw [List.getElem?_take, if_pos (by omega), atp j (by omega)] at hi2
        exact (Option.some.inj hi2).symm
      subst eit
      refine ⟨rfl, _, rfl, _, rfl, (by show 2 ≤ sizeLine; decide), fun A hA => ?_⟩
      refine hk _ _ (same_upd hA) (fun e => ?_) ⟨A, rfl, upd_same⟩
      cases e
      rw [hacc] at hA
      cases hA
    intro H7 ys s7 d7 l7 r7
    obtain ⟨cs, rfl, p7, m7⟩ := pairs_of (g := fun j => (f i, f j)) r7
    have li : (List.range (refs cs).length).map (fun j => (f i, f j)) = ((List.range i).map fun j => (i, j)).map fun e => (f e.1, f e.2) := by
      rw [l7, List.length_map, List.length_take, Nat.min_eq_left (by omega), List.map_map]
      rfl
    rw [li] at m7
    have s57 := (same_upd (o := .lst ((pool.take i).map V.str)) hsl).trans s7
    have f7 := s57 _ _ f5
    have lbs : bs.length ≤ 45 := by
      have h1 := congrArg List.length m4
      rw [List.length_map, List.length_map] at h1
      have := evE_len i (by omega)
      omega
    have lcs : cs.length ≤ 10 := by
      have h1 := congrArg List.length m7
      rw [List.length_map, List.length_map, List.length_map, List.length_range] at h1
      omega
    refine ⟨ev, D, refs bs, refs cs, rfl, rfl, f7, d7, small_le ?_, fun ev2 hev2 => ?_⟩
    · unfold refs
      rw [List.length_map, List.length_map]
      omega
    have s8 := same_upd (o := .lst (refs bs ++ refs cs)) hev2
    have s58 := s57.trans s8
    refine ⟨ev2, bs ++ cs, _, _, _, _, _, _, rfl, (s4.trans sU).trans s58, ?_, fun b hb => ?_, ?_⟩
    · rw [upd_same]
      unfold refs
      rw [List.map_append]
    · rcases List.mem_append.mp hb with z | z
      · exact s58 _ _ (sU _ _ (p4 b z))
      · exact s8 _ _ (p7 b z)
    · rw [List.map_append, m4, m7, evE_succ, List.map_append]
  rintro σ H4 ⟨ev, bs, y4, y5, y6, y7, y8, y9, rfl, s4, f4, p4, m4⟩
  rw [lp] at m4
  have lbs : bs.length ≤ 45 := by
    have h1 := congrArg List.length m4
    rw [List.length_map, List.length_map] at h1
    have := evE_len n (by omega)
    omega
  refine ⟨_, rfl, ev, bs, rfl, f4, p4, by omega, fun p1 ps1 H5 s5 hf1 pm1 => ?_⟩
  rw [pairs_map m4] at pm1
  have s35 := s4.trans s5
  -- one is the friend of all
  have rs5 := s35 _ _ rs3
  refine ⟨_, rfl, rs, rfl, ⟨_, .inl (.inl rs5)⟩, fun D hD => ?_⟩
  have lr : (((rest n).map f).map V.str).length = n - 1 := by
    unfold rest
    rw [List.length_map, List.length_map, List.length_map, List.length_range]
  refine lc_rel (walk_list (xs := ((rest n).map f).map V.str)) (fun j H' y => ∃ A, y = .ref A ∧ H' A = some (.tup [.str (f 0), .str (f (j + 1))])) (by rw [lr]; omega) hD (fun H' s => .inl (.inl (s _ _ rs5))) ?_ ?_ ?_
  · rintro j G G' y ny _ o ⟨A, rfl, e⟩
    exact ⟨A, rfl, o _ _ (fun z => ny (by rw [z])) e⟩
  · rintro j v G G' k hj s7 ⟨acc, hacc⟩ ⟨rfl, ev2⟩ hk
    obtain ⟨its, hi2, rfl⟩ := at_map ev2
    rw [lr] at hj
    have eit : its = f (j + 1) := by
      unfold rest at hi2
      rw [List.getElem?_map, List.getElem?_map, List.getElem?_range (by omega)] at hi2
      exact (Option.some.inj hi2).symm
    subst eit
    refine ⟨rfl, _, rfl, _, rfl, (by show 2 ≤ sizeLine; decide), fun A hA => ?_⟩
    refine hk _ _ (same_upd hA) (fun e => ?_) ⟨A, rfl, upd_same⟩
    cases e
    rw [hacc] at hA
    cases hA
  intro H6 ys s6 d6 l6 r6
  obtain ⟨cs, rfl, p6, m6⟩ := pairs_of (g := fun j => (f 0, f (j + 1))) r6
  have li : (List.range (refs cs).length).map (fun j => (f 0, f (j + 1))) = (stE n).map fun e => (f e.1, f e.2) := by
    rw [l6, lr]
    unfold stE
    rw [List.map_map]
    rfl
  rw [li] at m6
  refine ⟨D, cs, rfl, d6, p6, ?_, fun p2 ps2 H7 s7 hf2 pm2 => ?_⟩
  · have h1 := congrArg List.length m6
    unfold stE at h1
    rw [List.length_map, List.length_map, List.length_map, List.length_range] at h1
    omega
  rw [pairs_map m6] at pm2
  have s37 := (s35.trans s6).trans s7
  have hf1' := (hf1.same s6).same s7
  have he1' : ∀ e ∈ evE n, e.1 < n ∧ e.2 < n ∧ e.1 ≠ e.2 := by
    have h : ∀ n, n < 10 → ∀ e ∈ evE n, e.1 < n ∧ e.2 < n ∧ e.1 ≠ e.2 := by decide +kernel
    exact h n (by omega)
  have he2' : ∀ e ∈ stE n, e.1 < n ∧ e.2 < n ∧ e.1 ≠ e.2 := by
    have h : ∀ n, n < 10 → ∀ e ∈ stE n, e.1 < n ∧ e.2 < n ∧ e.1 ≠ e.2 := by decide +kernel
    exact h n (by omega)
  have K0 : Num [] f (frOf []) n := kn_of inj (List.Perm.refl _) (fun _ h => nomatch h)
  have K1 : Num ps1 f (frOf (evE n)) n := kn_of inj pm1 fun e he => ⟨(he1' e he).1, (he1' e he).2.1⟩
  have K2 : Num ps2 f (frOf (stE n)) n := kn_of inj pm2 fun e he => ⟨(he2' e he).1, (he2' e he).2.1⟩
  have i0 : Irr [] := fun x => rfl
  have i1 : Irr ps1 := irr_of inj pm1 he1'
  have i2 : Irr ps2 := irr_of inj pm2 he2'
  have z1 : ps1.length ≤ 1000 := by
    rw [pm1.length_eq]
    unfold mkE
    rw [List.length_map]
    have := evE_len n (by omega)
    omega
  have z2 : ps2.length ≤ 1000 := by
    rw [pm2.length_eq]
    unfold mkE stE
    rw [List.length_map, List.length_map, List.length_range]
    omega
  obtain ⟨R, eR⟩ : ∃ R, R = (rest n).map f := ⟨_, rfl⟩
  rw [← eR] at rs3 rs5 er lr
  have un : ∀ y ∈ up n, y < n := fun y hy => List.mem_range.mp hy
  have rn : ∀ y ∈ rest n, y < n := fun y hy => by
    unfold rest at hy
    obtain ⟨j, hj, rfl⟩ := List.mem_map.mp hy
    have := List.mem_range.mp hj
    omega
  have r0n : ∀ y ∈ rest n ++ [0], y < n := fun y hy => by
    rcases List.mem_append.mp hy with z | z
    · exact rn y z
    · rw [List.mem_singleton.mp z]
      omega
  have lu : (up n).length = n := List.length_range
  have lr0 : (rest n ++ [0]).length = n := by
    unfold rest
    rw [List.length_append, List.length_map, List.length_range]
    show n - 1 + 1 = n
    omega
  have u0 : up n = 0 :: rest n := by
    have h : ∀ n, n < 10 → 0 < n → up n = 0 :: rest n := by decide +kernel
    exact h n (by omega) (by omega)
  have epR : pool = f 0 :: R := by
    rw [ep, u0, eR]
    rfl
  have eS : (rest n ++ [0]).map f = R ++ [f 0] := by
    rw [List.map_append, eR]
    rfl
  have eP : (0 :: (rest n).reverse).map f = f 0 :: R.reverse := by
    rw [List.map_cons, List.map_reverse, eR]
  obtain ⟨a1, a2, a3, a4⟩ := kn_none n (by omega)
  obtain ⟨b1, b2, b3, b4⟩ := kn_every n (by omega)
  obtain ⟨c1, c2, c3, c4, c5, c6⟩ := kn_star n (by omega) (by omega)
  have t0 : standOf [] pool = pool := by
    have := K0.stand un
    rw [a1, ← ep] at this
    exact this
  have t1 : standOf ps1 pool = pool := by
    have := K1.stand un
    rw [b1, ← ep] at this
    exact this
  have t2 : standOf ps2 pool = f 0 :: R.reverse := by
    have := K2.stand un
    rw [c1, ← ep, eP] at this
    exact this
  have t3 : standOf ps2 (R ++ [f 0]) = R ++ [f 0] := by
    have := K2.stand r0n
    rw [c2, eS] at this
    exact this
  have ndS : (R ++ [f 0]).Nodup := by
    rw [← eS]
    refine K2.nodup r0n ?_
    have h : ∀ n, n < 10 → (rest n ++ [0]).Nodup := by decide +kernel
    exact h n (by omega)
  have ndR : R.length ≤ 8 := by
    rw [List.length_map] at lr
    omega
  have lpl : pool.length ≤ 100 := by omega
  -- their rows
  have l7 := (s13.trans s37) _ _ hl
  have rs7 := s37 _ _ rs3
  refine ⟨(by show 0 ≤ sizeLine; decide), fun o1 ho1 => ?_⟩
  have s8 := same_upd (o := .tup []) ho1
  refine ⟨_, rfl, o1, l, [], pool, rfl, ⟨[], .inl upd_same, (fun _ h => nomatch h), rfl⟩, (by show 0 ≤ 1000; decide), .inr (s8 _ _ l7), nd, lpl, fun w1 H9 s9 e9 => ?_⟩
  rw [t0] at e9
  have s79 := s8.trans s9
  refine ⟨_, rfl, _, rfl, p1, l, ps1, pool, rfl, hf1'.same s79, z1, .inr (s79 _ _ l7), nd, lpl, fun w2 H10 s10 e10 => ?_⟩
  rw [t1] at e10
  have s710 := s79.trans s10
  refine ⟨_, rfl, _, rfl, p2, l, ps2, pool, rfl, hf2.same s710, z2, .inr (s710 _ _ l7), nd, lpl, fun w3 H11 s11 e11 => ?_⟩
  rw [t2] at e11
  have s711 := s710.trans s11
  refine ⟨_, rfl, _, rfl, _, rfl, (by show 1 ≤ sizeLine; decide), fun g1 hg1 => ?_⟩
  have s12 := same_upd (o := .lst [.str (f 0)]) hg1
  have s712 := s711.trans s12
  refine ⟨rs, g1, _, _, rfl, rfl, s712 _ _ rs7, upd_same, small_le (by rw [List.length_map]; show _ + 1 ≤ 1000; omega), fun g2 hg2 => ?_⟩
  have eg : R.map V.str ++ [V.str (f 0)] = (R ++ [f 0]).map V.str := by
    rw [List.map_append]
    rfl
  rw [eg]
  have s13' := same_upd (o := .lst ((R ++ [f 0]).map V.str)) hg2
  have s713 := s712.trans s13'
  refine ⟨p2, g2, ps2, R ++ [f 0], rfl, hf2.same s713, z2, .inr upd_same, ndS, (by rw [List.length_append]; show _ + 1 ≤ 100; omega), fun w4 H14 s14 e14 => ?_⟩
  rw [t3] at e14
  have s714 := s713.trans s14
  refine ⟨(by show 4 ≤ sizeLine; decide), fun L hL => ?_⟩
  have s15 := same_upd (o := .lst [.ref w1, .ref w2, .ref w3, .ref w4]) hL
  have s715 := s714.trans s15
  refine ⟨_, rfl, _, rfl, l, _, rfl, .inl ⟨.inl (.inl (s715 _ _ l7)), fun v1 H16 s16 _ v1e => ?_⟩⟩
  refine ⟨_, rfl, l, _, rfl, .inl ⟨.inl (.inl (s16 _ _ (s715 _ _ l7))), fun v2 H17 s17 _ v2e => ?_⟩⟩
  have s1517 := s16.trans s17
  have s717 := s715.trans s1517
  refine ⟨_, rfl, (by show 1 ≤ sizeLine; decide), fun g3 hg3 => ?_⟩
  have s18 := same_upd (o := .lst [.str (f 0)]) hg3
  have rs18 := s18 _ _ (s717 _ _ rs7)
  refine ⟨_, rfl, rs, _, rfl, .inl (.inl rs18), fun g4 hg4 => ?_⟩
  have s19 := same_upd (o := .lst (R.map V.str).reverse) hg4
  refine ⟨g3, g4, _, _, rfl, rfl, s19 _ _ upd_same, upd_same, small_le (by rw [List.length_reverse, List.length_map]; show 1 + _ ≤ 1000; omega), fun g5 hg5 => ?_⟩
  have eg2 : [V.str (f 0)] ++ (R.map V.str).reverse = (f 0 :: R.reverse).map V.str := by
    rw [List.map_cons, List.map_reverse]
    rfl
  rw [eg2]
  have s20 := same_upd (o := .lst ((f 0 :: R.reverse).map V.str)) hg5
  refine ⟨g5, _, rfl, .inl ⟨.inl (.inl upd_same), fun v3 H21 s21 _ v3e => ?_⟩⟩
  have s1821 := ((s18.trans s19).trans s20).trans s21
  have s721 := s717.trans s1821
  refine ⟨_, rfl, _, rfl, (by show 1 ≤ sizeLine; decide), fun g6 hg6 => ?_⟩
  have s22 := same_upd (o := .lst [.str (f 0)]) hg6
  refine ⟨rs, g6, _, _, rfl, rfl, s22 _ _ (s721 _ _ rs7), upd_same, small_le (by rw [List.length_map]; show _ + 1 ≤ 1000; omega), fun g7 hg7 => ?_⟩
  rw [eg]
  have s23' := same_upd (o := .lst ((R ++ [f 0]).map V.str)) hg7
  refine ⟨g7, _, rfl, .inl ⟨.inl (.inl upd_same), fun v4 H24 s24 _ v4e => ?_⟩⟩
  have s2224 := (s22.trans s23').trans s24
  refine ⟨(by show 4 ≤ sizeLine; decide), fun M hM => ?_⟩
  have s25 := same_upd (o := .lst [.ref v1, .ref v2, .ref v3, .ref v4]) hM
  have s2125 := s2224.trans s25
  have s1725 := s1821.trans s2125
  have s1525 := s1517.trans s1725
  have s1425 := s15.trans s1525
  have s725 := s721.trans s2125
  have alkT : ∀ {m : Nat} {H : Hp} {u v : Addr} {xs : List Str}, TupAt H u (xs.map V.str) → TupAt H v (xs.map V.str) → xs.length ≤ 1000 → Alk H (m + 2) (.ref u) (.ref v) := fun h1 h2 z => alk_strsT (.inr h1) (.inr h2) z
  refine ⟨.ref L, .ref M, rfl, alk_lstF (n := 4) (s1525 _ _ upd_same) upd_same (.cons (alkT (m := 2) (e9.same (((s10.trans s11).trans (s12.trans s13')).trans (s14.trans s1425))) (v1e.same (s17.trans s1725)) (by omega)) (.cons (alkT (m := 2) (e10.same ((s11.trans (s12.trans s13')).trans (s14.trans s1425))) (v2e.same s1725) (by omega)) (.cons (alkT (m := 2) (e11.same ((s12.trans s13').trans (s14.trans s1425))) (v3e.same s2125) (by rw [List.length_cons, List.length_reverse]; omega)) (.cons (alkT (m := 2) (e14.same s1425) (v4e.same s25) (by rw [List.length_append]; show _ + 1 ≤ 1000; omega)) .nil)))) (by show 4 ≤ 1000; decide), fun H26 s26 => ⟨true, rfl, ?_⟩⟩
  have s726 := s725.trans s26
  -- put back
  refine ⟨_, rfl, _, rfl, p2, l, ps2, pool, rfl, hf2.same s726, z2, .inr (s726 _ _ l7), nd, lpl, fun pb qs H27 s27 _ e27 q27 m27 => ?_⟩
  have ebk : backTo_ pool (f 0 :: R.reverse) n = (f 0, 0) :: R.reverse.zipIdx := by
    have h := K2.back (m := n) (o := up n) (r := 0 :: (rest n).reverse) un fun y hy => by
      rcases List.mem_cons.mp hy with rfl | hy
      · omega
      · exact rn y (List.mem_reverse.mp hy)
    rw [c6, eP, ← ep] at h
    rw [h, List.map_cons, eR, ← List.map_reverse, zipIdx_map']
  rw [t2, ← en, ebk] at m27
  have s727 := s726.trans s27
  refine ⟨_, rfl, (by show 2 ≤ sizeLine; decide), fun A1 hA1 => ?_⟩
  have s28 := same_upd (o := .tup [.str (f 0), .int 0]) hA1
  refine ⟨(by show 1 ≤ sizeLine; decide), fun A2 hA2 => ?_⟩
  have s29 := same_upd (o := .lst [.ref A1]) hA2
  have s2829 := s28.trans s29
  refine ⟨_, rfl, rs, _, rfl, .inl (.inl ((s727.trans s2829) _ _ rs7)), fun A3 hA3 => ?_⟩
  rw [← List.map_reverse]
  have s30 := same_upd (o := .lst (R.reverse.map V.str)) hA3
  refine ⟨A3, _, rfl, .inl (.inl upd_same), fun D2 hD2 => ?_⟩
  refine lc_rel (walk_enum (xs := R.reverse.map V.str)) (fun j H' y => ∃ A, y = .ref A ∧ H' A = some (.tup [.str (R.reverse[j]?.getD ""), .int ((j : Nat) : Int)])) (by rw [List.length_map, List.length_reverse]; omega) hD2 (fun H' s => .inl (.inl (s _ _ upd_same))) ?_ ?_ ?_
  · rintro j G G' y ny _ o ⟨A, rfl, e⟩
    exact ⟨A, rfl, o _ _ (fun z => ny (by rw [z])) e⟩
  · rintro j v G G' k hj s31 ⟨acc, hacc⟩ ⟨U, x1, x2, rfl, nU, rfl, q1, q2⟩ hk
    cases q1
    obtain ⟨z, hz, rfl⟩ := at_map q2
    have sU := same_upd (o := .tup [.int (j : Nat), .str z]) nU
    refine ⟨U, _, rfl, .inl (.inl upd_same), rfl, _, _, rfl, _, _, rfl, rfl, rfl, ?_⟩
    refine ⟨_, rfl, _, rfl, (by show 2 ≤ sizeLine; decide), fun A hA => ?_⟩
    refine hk _ _ (sU.trans (same_upd hA)) (fun e => ?_) ⟨A, rfl, ?_⟩
    · cases e
      rw [sU _ _ hacc] at hA
      cases hA
    · rw [hz]
      exact upd_same
  intro H32 ys s32 d32 l32 r32
  obtain ⟨qr, rfl, p32, m32⟩ := pairsN_of (g := fun j => (R.reverse[j]?.getD "", j)) r32
  rw [l32, List.length_map, zip_range] at m32
  have s2832 := (s2829.trans s30).trans s32
  have A1' := ((s29.trans s30).trans s32) _ _ (upd_same (H := H27) (a := A1) (o := .tup [.str (f 0), .int 0]))
  have A2' := (s30.trans s32) _ _ (upd_same (H := upd H27 A1 (.tup [.str (f 0), .int 0])) (a := A2) (o := .lst [.ref A1]))
  have lqr : qr.length ≤ 9 := by
    have h1 := congrArg List.length m32
    rw [List.length_map, List.length_zipIdx, List.length_reverse] at h1
    omega
  refine ⟨A2, D2, _, _, rfl, rfl, A2', d32, small_le (by unfold refsN; rw [List.length_map]; show 1 + _ ≤ 1000; omega), fun A4 hA4 => ?_⟩
  have s33 := same_upd (o := .lst ([V.ref A1] ++ refsN qr)) hA4
  refine ⟨.ref pb, .ref A4, rfl, alk_pairsN (n := 2) (qs := qs) (rs := (A1, f 0, 0) :: qr) ((s2832.trans s33) _ _ e27) upd_same (q27.same (s2832.trans s33)) (fun b hb => ?_) ?_ ?_, fun H34 s34 => ⟨true, rfl, ?_⟩⟩
  · rcases List.mem_cons.mp hb with rfl | hb
    · exact s33 _ _ A1'
    · exact s33 _ _ (p32 b hb)
  · rw [m27, List.map_cons, m32]
  · have h1 := congrArg List.length m27
    rw [List.length_map, List.length_cons, List.length_zipIdx, List.length_reverse] at h1
    omega
  have s734 := ((s727.trans s2832).trans s33).trans s34
  -- the orders
  have ordO : ∀ {H : Hp} {p : Addr} {wd : Str} {ps : List (Str × Str)} {row o : List Str}, OrdAt H p wd ps row → goneR ps [] row = [] → (goneO ps [] row).reverse = o → wd = "order" ∧ H p = some (.lst (o.map V.str)) := fun {H p wd ps row o} oa h1 h2 => by
    rcases oa with ⟨_, z1, z2⟩ | ⟨z, _⟩
    · exact ⟨z1, by rw [← h2]; exact z2⟩
    · exact absurd h1 z
  have g0 := K0.gone un
  rw [lu, ← ep, a2] at g0
  have g1 := K1.gone un
  rw [lu, ← ep, b2] at g1
  have g2' := K2.gone un
  rw [lu, ← ep, c3] at g2'
  have g3' := K2.gone r0n
  rw [lr0, eS, c5] at g3'
  have go0 : (goneO [] [] pool).reverse = pool := by rw [g0.1, ← List.map_reverse, a3, ← ep]
  have go1 : (goneO ps1 [] pool).reverse = pool := by rw [g1.1, ← List.map_reverse, b3, ← ep]
  have go2 : (goneO ps2 [] pool).reverse = f 0 :: R.reverse := by rw [g2'.1, ← List.map_reverse, c4, eP]
  refine ⟨(by show 0 ≤ sizeLine; decide), fun o2 ho2 => ?_⟩
  have s35' := same_upd (o := .tup []) ho2
  have l35 := s35' _ _ (s734 _ _ l7)
  refine ⟨_, rfl, l, _, rfl, .inl ⟨.inl (.inl l35), fun x1 H36 s36 _ x1e => ?_⟩⟩
  refine ⟨o2, x1, [], pool, rfl, ⟨[], .inl (s36 _ _ upd_same), (fun _ h => nomatch h), rfl⟩, (by show 0 ≤ 1000; decide), i0, .inl x1e, nd, lpl, fun T1 q1 wd1 H37 s37' _ T1e oa1 => ?_⟩
  obtain ⟨rfl, q1e⟩ := ordO oa1 g0.2 go0
  have s737 := ((s734.trans s35').trans s36).trans s37'
  refine ⟨_, rfl, _, rfl, l, _, rfl, .inl ⟨.inl (.inl (s737 _ _ l7)), fun x2 H38 s38 _ x2e => ?_⟩⟩
  refine ⟨p1, x2, ps1, pool, rfl, (hf1'.same s737).same s38, z1, i1, .inl x2e, nd, lpl, fun T2 q2 wd2 H39 s39 _ T2e oa2 => ?_⟩
  obtain ⟨rfl, q2e⟩ := ordO oa2 g1.2 go1
  have s739 := (s737.trans s38).trans s39
  refine ⟨_, rfl, _, rfl, (by show 1 ≤ sizeLine; decide), fun y1 hy1 => ?_⟩
  have s40 := same_upd (o := .lst [.str (f 0)]) hy1
  have s740 := s739.trans s40
  refine ⟨_, rfl, y1, rs, _, _, rfl, rfl, upd_same, s740 _ _ rs7, small_le (by rw [List.length_map]; show 1 + _ ≤ 1000; omega), fun y2 hy2 => ?_⟩
  have ey : [V.str (f 0)] ++ R.map V.str = pool.map V.str := by
    rw [epR]
    rfl
  rw [ey]
  have s41 := same_upd (o := .lst (pool.map V.str)) hy2
  refine ⟨y2, _, rfl, .inl ⟨.inl (.inl upd_same), fun x3 H42 s42 _ x3e => ?_⟩⟩
  have s742 := (s740.trans s41).trans s42
  refine ⟨p2, x3, ps2, pool, rfl, hf2.same s742, z2, i2, .inl x3e, nd, lpl, fun T3 q3 wd3 H43 s43 _ T3e oa3 => ?_⟩
  obtain ⟨rfl, q3e⟩ := ordO oa3 g2'.2 go2
  have s743 := s742.trans s43
  have s4043 := ((s40.trans s41).trans s42).trans s43
  have s3743 := (s38.trans s39).trans s4043
  refine ⟨(by show 3 ≤ sizeLine; decide), fun L3 hL3 => ?_⟩
  have s44 := same_upd (o := .lst [.ref T1, .ref T2, .ref T3]) hL3
  have l44 := s44 _ _ (s743 _ _ l7)
  refine ⟨_, rfl, _, rfl, (by show 2 ≤ sizeLine; decide), fun U1 H45 s45 _ U1e => ?_⟩
  refine ⟨_, rfl, (by show 2 ≤ sizeLine; decide), fun U2 H46 s46 _ U2e => ?_⟩
  refine ⟨_, rfl, (by show 1 ≤ sizeLine; decide), fun y3 hy3 => ?_⟩
  have s47 := same_upd (o := .lst [.str (f 0)]) hy3
  have s4447 := ((s44.trans s45).trans s46).trans s47
  have s747 := s743.trans s4447
  refine ⟨_, rfl, rs, _, rfl, .inl (.inl (s747 _ _ rs7)), fun y4 hy4 => ?_⟩
  have s48 := same_upd (o := .lst (R.map V.str).reverse) hy4
  refine ⟨y3, y4, _, _, rfl, rfl, s48 _ _ upd_same, upd_same, small_le (by rw [List.length_reverse, List.length_map]; show 1 + _ ≤ 1000; omega), fun y5 hy5 => ?_⟩
  rw [eg2]
  have s49 := same_upd (o := .lst ((f 0 :: R.reverse).map V.str)) hy5
  refine ⟨(by show 2 ≤ sizeLine; decide), fun U3 H50 s50 _ U3e => ?_⟩
  refine ⟨(by show 3 ≤ sizeLine; decide), fun M3 hM3 => ?_⟩
  have s51 := same_upd (o := .lst [.ref U1, .ref U2, .ref U3]) hM3
  have s4751 := (((s47.trans s48).trans s49).trans s50).trans s51
  have s4651 := s46.trans s4751
  have s4551 := s45.trans s4651
  have s751 := s743.trans (s44.trans s4551)
  have alkO : ∀ {H : Hp} {T U p q : Addr} {xs : List Str}, H T = some (.tup [.str "order", .ref p]) → TupAt H U [.str "order", .ref q] → H p = some (.lst (xs.map V.str)) → H q = some (.lst (xs.map V.str)) → xs.length ≤ 1000 → Alk H 4 (.ref T) (.ref U) := fun h1 h2 h3 h4 h5 => alk_tup2 (n := 3) (.inl h1) (.inr h2) (alk_str _) (alk_strsL (n := 1) h3 h4 h5)
  refine ⟨.ref L3, .ref M3, rfl, alk_lstF (n := 4) (s4551 _ _ upd_same) upd_same (.cons (alkO ((s3743.trans (s44.trans s4551)) _ _ T1e) (U1e.same s4651) ((s3743.trans (s44.trans s4551)) _ _ q1e) (s751 _ _ l7) (by omega)) (.cons (alkO ((s4043.trans (s44.trans s4551)) _ _ T2e) (U2e.same s4751) ((s4043.trans (s44.trans s4551)) _ _ q2e) (s751 _ _ l7) (by omega)) (.cons (alkO ((s44.trans s4551) _ _ T3e) (U3e.same s51) ((s44.trans s4551) _ _ q3e) ((s50.trans s51) _ _ upd_same) (by rw [List.length_cons, List.length_reverse]; omega)) .nil))) (by show 3 ≤ 1000; decide), fun H52 s52 => ⟨true, rfl, ?_⟩⟩
  have s752 := s751.trans s52
  -- who is left
  refine ⟨_, rfl, _, rfl, _, rfl, (by show 1 ≤ sizeLine; decide), fun k1 hk1 => ?_⟩
  have s53 := same_upd (o := .lst [.str (f 0)]) hk1
  have s753 := s752.trans s53
  refine ⟨rs, k1, _, _, rfl, rfl, s753 _ _ rs7, upd_same, small_le (by rw [List.length_map]; show _ + 1 ≤ 1000; omega), fun k2 hk2 => ?_⟩
  rw [eg]
  have s54 := same_upd (o := .lst ((R ++ [f 0]).map V.str)) hk2
  refine ⟨k2, _, rfl, .inl ⟨.inl (.inl upd_same), fun k3 H55 s55 _ k3e => ?_⟩⟩
  have s755 := (s753.trans s54).trans s55
  refine ⟨p2, k3, EL, ps2, R ++ [f 0], [], rfl, hf2.same s755, z2, .inl k3e, ndS, (by rw [List.length_append]; show _ + 1 ≤ 100; omega), (fun H' _ => LO.but H'), fun k4 H56 s56 k4e => ?_⟩
  rw [g3'.2] at k4e
  refine ⟨(by show 0 ≤ sizeLine; decide), fun k5 H57 s57 _ k5e => ?_⟩
  refine ⟨.ref k4, .ref k5, rfl, alk_strsT (n := 3) (xs := []) (.inr (k4e.same s57)) (.inr k5e) (by show 0 ≤ 1000; decide), fun H58 s58 => ⟨true, rfl, ?_⟩⟩
  have s758 := ((s755.trans s56).trans s57).trans s58
  -- who can have come last
  have lo0 : looseL [] pool = pool.drop (n - 1) := by
    have h := K0.loose un
    rw [a4, ← ep] at h
    rw [h, List.map_drop, ← ep]
  have lo1 : looseL ps1 pool = pool.drop (n - 1) := by
    have h := K1.loose un
    rw [b4, ← ep] at h
    rw [h, List.map_drop, ← ep]
  have ela : cutL pool (some (-1)) none = pool.drop (n - 1) := by
    unfold cutL
    rw [HT.sIx_none]
    have h : HT.sIx pool.length 0 (some (-1)) = n - 1 := by
      unfold HT.sIx
      simp
      omega
    rw [h, List.take_of_length_le (by rw [List.length_drop]; omega)]
  refine ⟨(by show 0 ≤ sizeLine; decide), fun o3 ho3 => ?_⟩
  have s59 := same_upd (o := .tup []) ho3
  have l59 := (s758.trans s59) _ _ l7
  refine ⟨_, rfl, l, _, rfl, .inl ⟨.inl (.inl l59), fun h1 H60 s60 _ h1e => ?_⟩⟩
  refine ⟨o3, h1, [], pool, rfl, ⟨[], .inl (s60 _ _ upd_same), (fun _ h => nomatch h), rfl⟩, (by show 0 ≤ 1000; decide), .inl h1e, lpl, fun r1 H61 s61 _ r1e => ?_⟩
  rw [lo0] at r1e
  have s761 := ((s758.trans s59).trans s60).trans s61
  refine ⟨_, rfl, _, rfl, l, _, rfl, .inl ⟨.inl (.inl (s761 _ _ l7)), fun h2 H62 s62 _ h2e => ?_⟩⟩
  refine ⟨p1, h2, ps1, pool, rfl, (hf1'.same s761).same s62, z1, .inl h2e, lpl, fun r2 H63 s63 _ r2e => ?_⟩
  rw [lo1] at r2e
  have s763 := (s761.trans s62).trans s63
  refine ⟨(by show 2 ≤ sizeLine; decide), fun L4 hL4 => ?_⟩
  have s64 := same_upd (o := .lst [.ref r1, .ref r2]) hL4
  have l64 := s64 _ _ (s763 _ _ l7)
  refine ⟨_, rfl, 1, rfl, _, rfl, l, _, rfl, .inl (.inl l64), fun d1 hd1 => ?_⟩
  rw [cutV_map, ela]
  have s65 := same_upd (o := .lst ((pool.drop (n - 1)).map V.str)) hd1
  refine ⟨_, rfl, 1, rfl, _, rfl, l, _, rfl, .inl (.inl (s65 _ _ l64)), fun d2 hd2 => ?_⟩
  rw [cutV_map, ela]
  have s66 := same_upd (o := .lst ((pool.drop (n - 1)).map V.str)) hd2
  refine ⟨(by show 2 ≤ sizeLine; decide), fun M4 hM4 => ?_⟩
  have s67 := same_upd (o := .lst [.ref d1, .ref d2]) hM4
  have s6567 := (s65.trans s66).trans s67
  have lda : (pool.drop (n - 1)).length ≤ 1000 := by
    rw [List.length_drop]
    omega
  refine ⟨.ref L4, .ref M4, rfl, alk_list2 (n := 4) (s6567 _ _ upd_same) upd_same (alk_strsL (n := 2) ((((s62.trans s63).trans s64).trans s6567) _ _ r1e) ((s66.trans s67) _ _ upd_same) lda) (alk_strsL (n := 2) ((s64.trans s6567) _ _ r2e) (s67 _ _ upd_same) lda), fun H68 s68 => ?_⟩
  exact q _ ((s13.trans s37).trans (((s763.trans s64).trans s6567).trans s68))
/-! ### _law_road_right -/
abbrev sRoad : Stmt := topS 42
abbrev nRoad : List Str := ["_law_pool", "_law_road", "_law_mine", "_law_its", "_law_back", "_law_evens", "_law_odds", "_law_due", "_law_k"]
abbrev pRoad : List Str := ["_law_pool"]
theorem scRoad : FnScope nRoad pRoad (defScope sRoad) := ⟨rfl, rfl, rfl, by decide +kernel, rfl, by decide +kernel, by decide +kernel⟩
-- slots: 0:pool 1:road 2:mine 3:its 4:back 5:evens 6:odds 7:due 8:k
theorem ok_road {fa : Addr} {fd : FuncData} (B : Blt mg) (CPr : Cal P w K mg base 1 "_law_pairs" ["_law_some"] spPrs) (CSa : Cal P w K mg base 5 "_law_same" ["_law_found", "_law_due"] (spSame 5)) (CLe : Cal P w K mg base 5 "let_in" ["friends", "row", "who"] spLetIn) (CRo : Cal P w K mg base 5 "row_of" ["friends", "order"] spRowOf) (F : Fun K "_law_road_right" "_law_road_right" sRoad fa fd) : FnOk P w K mg base CX0 6 fa fd pRoad spPool9 := by
  refine fok F scRoad (fun vs H Q E h => ?_) (fun cdv A outer s H vs Q E hr h => ?_)
  · obtain ⟨l, pool, rfl, _⟩ := h
    rfl
  have hu := hu_of hr
  refine ⟨_, pss_cons (ps_set (i := 1) scRoad.nd rfl (.inl rfl) (pe_cal CPr hr (pa_cons (pe_lc (own := [("_law_mine", 2), ("_law_its", 3)]) (g := gTup K 2 (gCons (gName 2) (gCons (gName 3) gNil))) (tt := tYes) (te := tTup (tCons (tVar 2) (tCons (tVar 3) tNil))) rfl scRoad.nd (RZ.pi_zipA (by rfl) B.zip (pa_cons (pv 0) (pa_cons (pe_slice sl_list (pv 0) (po_some pe_int) po_none) pa_nil))) (blkOk_by (N := nRoad) (sc := defScope sRoad) (by decide +kernel)) (fun _ _ _ _ _ => pg_tup rfl (pgs_cons (pg_name (i := 2) scRoad.nd rfl (Or.inl rfl)) (pgs_cons (pg_name (i := 3) scRoad.nd rfl (Or.inl rfl)) pgs_nil))) (fun _ _ _ _ _ => pts_nil) (fun _ _ _ _ _ => pe_tup (pa_cons (pv 2) (pa_cons (pv 3) pa_nil)))) pa_nil)))
    (pss_cons (ps_set (i := 4) scRoad.nd rfl (.inl rfl) (pe_cal CRo hr (pa_cons (pv 1) (pa_cons (pe_revL (pv 0)) pa_nil))))
    (pss_cons (ps_if (pt_not (pt_val (pe_cal CSa hr (pa_cons (pe_lst (pa_cons (pe_cal CRo hr (pa_cons (pv 1) (pa_cons (pv 0) pa_nil))) (pa_cons (pv 4) pa_nil))) (pa_cons (pe_lst (pa_cons (pe_callTy call_tupleF (by rfl) B.tuple (by decide +kernel) (pa_cons (pv 0) pa_nil)) (pa_cons (pe_callTy call_tupleF (by rfl) B.tuple (by decide +kernel) (pa_cons (pe_revL (pv 0)) pa_nil)) pa_nil))) pa_nil)))))
      (pss_one (ps_ret pe_bl))
      pss_nil)
    (pss_cons (ps_par (i := 5) (j := 6) (by rfl) scRoad.nd rfl rfl (by decide) rfl rfl (pa_cons (pe_stepL (pv 0) po_none (po_some pe_int)) (pa_cons (pe_stepL (pv 0) (po_some pe_int) (po_some pe_int)) pa_nil)) (by rfl))
    (pss_cons (ps_set (i := 7) scRoad.nd rfl (.inl rfl) (pe_lst pa_nil))
    (pss_cons (ps_for PassesOwn.never rfl (pi_range3 (by rfl) B.range (pa_cons pe_int (pa_cons (pe_callB call_len_seq (by rfl) B.len PySem.boot_len (pa_cons (pv 0) pa_nil)) (pa_cons pe_int pa_nil)))) (pg_name (i := 8) scRoad.nd rfl (.inl rfl))
      (pss_cons (ps_expr (pe_bm PySem.F.plainAttrs_list PySem.F.slot_list_append PySem.F.type_list_append mt_append (pv 7) (pa_cons (pe_ix ix_list (pv 0) (pv 8) (fun _ _ => rfl)) pa_nil)))
        (pss_cons (ps_mid (ps_if (pt_cmpR op_eq (pe_op op_add (pv 8) pe_int) (pe_callB call_len_seq (by rfl) B.len PySem.boot_len (pa_cons (pv 0) pa_nil)) (nomark _))
          (pss_one (ps_expr (pe_bm PySem.F.plainAttrs_list PySem.F.slot_list_append PySem.F.type_list_append mt_append (pv 7) (pa_cons (pe_ix ix_list (pv 0) (pe_op op_add (pv 8) pe_int) (fun _ _ => rfl)) pa_nil))))
          pss_nil))
        (pss_one (ps_mid (ps_if (pt_cmpR op_gt (pv 8) pe_int (nomark _))
          (pss_one (ps_expr (pe_bm PySem.F.plainAttrs_list PySem.F.slot_list_append PySem.F.type_list_append mt_append (pv 7) (pa_cons (pe_ix ix_list (pv 0) (pe_op op_sub (pv 8) pe_int) (fun _ _ => rfl)) pa_nil))))
          pss_nil))))))
    (pss_one (ps_ret (pe_cal CSa hr (pa_cons (pe_lst (pa_cons (pe_cal CRo hr (pa_cons (pv 1) (pa_cons (pe_op op_cat (pv 5) (pv 6)) pa_nil))) (pa_cons (pe_cal CLe hr (pa_cons (pv 1) (pa_cons (pe_tupF (pa_cons (pe_ix ix_list (pv 0) pe_int (fun _ _ => rfl)) pa_nil)) (pa_cons (pe_ix ix_list (pv 0) pe_int (fun _ _ => rfl)) pa_nil)))) pa_nil))) (pa_cons (pe_lst (pa_cons (pe_callTy call_tupleF (by rfl) B.tuple (by decide +kernel) (pa_cons (pv 7) pa_nil)) (pa_cons (pe_callTy call_tupleF (by rfl) B.tuple (by decide +kernel) (pa_cons (pe_slice sl_list (pv 0) po_none (po_some pe_int)) pa_nil)) pa_nil))) pa_nil)))))))))), ?_⟩

  obtain ⟨l, pool, rfl, hl, nd, ok, n2, n9, q⟩ := h
  obtain ⟨f, ef⟩ : ∃ f, f = fOf pool := ⟨_, rfl⟩
  obtain ⟨n, en⟩ : ∃ n, n = pool.length := ⟨_, rfl⟩
  have ep : pool = (up n).map f := by
    rw [ef, en]
    exact (map_fOf pool).symm
  have inj : ∀ i j, i < n → j < n → f i = f j → i = j := by
    rw [ef, en]
    exact fOf_inj nd
  have atp : ∀ i, i < n → pool[i]? = some (f i) := fun i hi => by
    rw [ep, List.getElem?_map]
    unfold up
    rw [List.getElem?_range hi]
    rfl
  have er : cutV (pool.map V.str) (some 1) none = ((rest n).map f).map V.str := by
    rw [cutV_map, show (1 : Int) = ((1 : Nat) : Int) from rfl, cutL_from]
    congr 1
    rw [ep, ← List.map_drop, rest_drop]
  have lp : (pool.map V.str).length = n := by rw [List.length_map, en]
  have lr : (((rest n).map f).map V.str).length = n - 1 := by
    unfold rest
    rw [List.length_map, List.length_map, List.length_map, List.length_range]
  -- the road
  refine ⟨_, rfl, _, rfl, _, rfl, l, _, rfl, .inl (.inl hl), fun r0 hr0 => ?_⟩
  rw [er]
  have s1 := same_upd (o := .lst (((rest n).map f).map V.str)) hr0
  refine ⟨l, r0, pool.map V.str, ((rest n).map f).map V.str, rfl, .inl ⟨.inl (.inl (s1 _ _ hl)), .inl (.inl upd_same), fun D hD => ?_⟩⟩
  refine lc_rel (walk_zip (xs := pool.map V.str) (ys := ((rest n).map f).map V.str) (n := n - 1) (by rw [lp, lr]; omega)) (fun j H' y => ∃ A, y = .ref A ∧ H' A = some (.tup [.str (f j), .str (f (j + 1))])) (by omega) hD (fun H' s => ⟨.inl (.inl (s _ _ (s1 _ _ hl))), .inl (.inl (s _ _ upd_same))⟩) ?_ ?_ ?_
  · rintro j G G' y ny _ o ⟨A, rfl, e⟩
    exact ⟨A, rfl, o _ _ (fun z => ny (by rw [z])) e⟩
  · rintro j v G G' k hj s2 ⟨acc, hacc⟩ ⟨U, x1, x2, rfl, nU, rfl, q1, q2⟩ hk
    obtain ⟨z1, hz1, rfl⟩ := at_map q1
    obtain ⟨z2, hz2, rfl⟩ := at_map q2
    have e1 : z1 = f j := Option.some.inj (hz1.symm.trans (atp j (by omega)))
    have e2 : z2 = f (j + 1) := by
      unfold rest at hz2
      rw [List.getElem?_map, List.getElem?_map, List.getElem?_range (by omega)] at hz2
      exact (Option.some.inj hz2).symm
    subst e1 e2
    have sU := same_upd (o := .tup [.str (f j), .str (f (j + 1))]) nU
    refine ⟨U, _, rfl, .inl (.inl upd_same), rfl, _, _, rfl, _, _, rfl, rfl, rfl, ?_⟩
    refine ⟨_, rfl, _, rfl, (by show 2 ≤ sizeLine; decide), fun A hA => ?_⟩
    refine hk _ _ (sU.trans (same_upd hA)) (fun e => ?_) ⟨A, rfl, upd_same⟩
    cases e
    rw [sU _ _ hacc] at hA
    cases hA
  intro H2 ys s2 d2 l2 r2
  obtain ⟨bs, rfl, p2, m2⟩ := pairs_of (g := fun j => (f j, f (j + 1))) r2
  have li : (List.range (refs bs).length).map (fun j => (f j, f (j + 1))) = (rdE n).map fun e => (f e.1, f e.2) := by
    rw [l2]
    unfold rdE
    rw [List.map_map]
    rfl
  rw [li] at m2
  refine ⟨D, bs, rfl, d2, p2, ?_, fun p0 ps H3 s3 hf pm => ?_⟩
  · have h1 := congrArg List.length m2
    unfold rdE at h1
    rw [List.length_map, List.length_map, List.length_map, List.length_range] at h1
    omega
  rw [pairs_map m2] at pm
  have s13 := (s1.trans s2).trans s3
  have he' : ∀ e ∈ rdE n, e.1 < n ∧ e.2 < n ∧ e.1 ≠ e.2 := by
    have h : ∀ n, n < 10 → ∀ e ∈ rdE n, e.1 < n ∧ e.2 < n ∧ e.1 ≠ e.2 := by decide +kernel
    exact h n (by omega)
  have K0 : Num ps f (frOf (rdE n)) n := kn_of inj pm fun e he => ⟨(he' e he).1, (he' e he).2.1⟩
  have hpl : ps.length ≤ 1000 := by
    rw [pm.length_eq]
    unfold mkE rdE
    rw [List.length_map, List.length_map, List.length_range]
    omega
  have un : ∀ y ∈ up n, y < n := fun y hy => List.mem_range.mp hy
  have unr : ∀ y ∈ (up n).reverse, y < n := fun y hy => un y (List.mem_reverse.mp hy)
  have eo : ∀ y ∈ evens n ++ odds n, y < n := by
    have h : ∀ n, n < 10 → ∀ y ∈ evens n ++ odds n, y < n := by decide +kernel
    exact h n (by omega)
  have eond : (evens n ++ odds n).Nodup := by
    have h : ∀ n, n < 10 → (evens n ++ odds n).Nodup := by decide +kernel
    exact h n (by omega)
  obtain ⟨k1, k2, k3⟩ := kn_road n (by omega)
  have k4 := kn_road2 n (by omega) (by omega)
  have epr : pool.reverse = (up n).reverse.map f := by rw [ep, List.map_reverse]
  have t1 : standOf ps pool = pool := by
    have h := K0.stand un
    rw [k1, ← ep] at h
    exact h
  have t2 : standOf ps pool.reverse = pool.reverse := by
    have h := K0.stand unr
    rw [k2, ← epr] at h
    exact h
  have t3 : standOf ps ((evens n ++ odds n).map f) = (dueR n).map f := by
    have h := K0.stand eo
    rw [k3] at h
    exact h
  have t4 : comeTo ps [f 0] (f 1) = [f 0, f 1] := by
    have h := K0.come (l := [0]) (x := 1) (fun y hy => by rw [List.mem_singleton.mp hy]; omega) (by omega)
    rw [k4] at h
    exact h
  have ndr : pool.reverse.Nodup := (List.reverse_perm pool).nodup_iff.mpr nd
  have l3 := s13 _ _ hl
  -- there and back
  refine ⟨_, rfl, _, rfl, l, _, rfl, .inl (.inl l3), fun b1 hb1 => ?_⟩
  rw [← List.map_reverse]
  have s4 := same_upd (o := .lst (pool.reverse.map V.str)) hb1
  refine ⟨p0, b1, ps, pool.reverse, rfl, hf.same s4, hpl, .inr upd_same, ndr, (by rw [List.length_reverse]; omega), fun w1 H5 s5 e5 => ?_⟩
  rw [t2] at e5
  have s35 := s4.trans s5
  refine ⟨_, rfl, _, rfl, p0, l, ps, pool, rfl, hf.same s35, hpl, .inr (s35 _ _ l3), nd, by omega, fun w2 H6 s6 e6 => ?_⟩
  rw [t1] at e6
  refine ⟨_, rfl, (by show 2 ≤ sizeLine; decide), fun L hL => ?_⟩
  have s7 := same_upd (o := .lst [.ref w2, .ref w1]) hL
  have s37 := (s35.trans s6).trans s7
  refine ⟨_, rfl, l, _, rfl, .inl ⟨.inl (.inl (s37 _ _ l3)), fun v1 H8 s8 _ v1e => ?_⟩⟩
  refine ⟨_, rfl, l, _, rfl, .inl (.inl (s8 _ _ (s37 _ _ l3))), fun b2 hb2 => ?_⟩
  rw [← List.map_reverse]
  have s9 := same_upd (o := .lst (pool.reverse.map V.str)) hb2
  refine ⟨b2, _, rfl, .inl ⟨.inl (.inl upd_same), fun v2 H10 s10 _ v2e => ?_⟩⟩
  refine ⟨(by show 2 ≤ sizeLine; decide), fun M hM => ?_⟩
  have s11 := same_upd (o := .lst [.ref v1, .ref v2]) hM
  have s911 := (s9.trans s10).trans s11
  have s811 := s8.trans s911
  have alkT : ∀ {m : Nat} {H : Hp} {u v : Addr} {xs : List Str}, TupAt H u (xs.map V.str) → TupAt H v (xs.map V.str) → xs.length ≤ 1000 → Alk H (m + 2) (.ref u) (.ref v) := fun h1 h2 z => alk_strsT (.inr h1) (.inr h2) z
  refine ⟨.ref L, .ref M, rfl, alk_list2 (n := 4) (s811 _ _ upd_same) upd_same (alkT (m := 2) (e6.same (s7.trans s811)) (v1e.same s911) (by omega)) (alkT (m := 2) (e5.same ((s6.trans s7).trans s811)) (v2e.same s11) (by rw [List.length_reverse]; omega)), fun H12 s12 => ⟨true, rfl, ?_⟩⟩
  have s312 := (s37.trans s811).trans s12
  have l12 := s312 _ _ l3
  -- each second one
  obtain ⟨pk1, pk2⟩ := kn_pick n (by omega)
  have epk1 : pickL (pool.map V.str) none (some 2) = ((evens n).map f).map V.str := by rw [pick_map, ep, pick_map, pk1]
  have epk2 : pickL (pool.map V.str) (some 1) (some 2) = ((odds n).map f).map V.str := by rw [pick_map, ep, pick_map, pk2]
  refine ⟨_, rfl, _, rfl, l, _, rfl, .inl (.inl l12), (by decide), fun ev hev => ?_⟩
  rw [epk1]
  have s13' := same_upd (o := .lst (((evens n).map f).map V.str)) hev
  refine ⟨_, rfl, _, rfl, _, rfl, l, _, rfl, .inl (.inl (s13' _ _ l12)), (by decide), fun od hod => ?_⟩
  rw [epk2]
  have s14 := same_upd (o := .lst (((odds n).map f).map V.str)) hod
  refine ⟨_, _, rfl, (by show 0 ≤ sizeLine; decide), fun du hdu => ?_⟩
  have s15 := same_upd (o := .lst []) hdu
  have s315 := ((s312.trans s13').trans s14).trans s15
  have l15 := s315 _ _ l3
  have ev15 := (s14.trans s15) _ _ (upd_same (H := H12) (a := ev) (o := .lst (((evens n).map f).map V.str)))
  have od15 := s15 _ _ (upd_same (H := upd H12 ev (.lst (((evens n).map f).map V.str))) (a := od) (o := .lst (((odds n).map f).map V.str)))
  have du15 : upd (upd (upd H12 ev (.lst (((evens n).map f).map V.str))) od (.lst (((odds n).map f).map V.str))) du (.lst []) du = some (.lst []) := upd_same
  have nlu : l ≠ du := fun z => by
    rw [← z, (s13'.trans s14) _ _ l12] at hdu
    cases hdu
  have s14' := (s312.trans s13').trans s14
  have nu : ∀ {b : Addr} {o : HO}, upd (upd H12 ev (.lst (((evens n).map f).map V.str))) od (.lst (((odds n).map f).map V.str)) b = some o → b ≠ du := fun e z => by
    rw [z, hdu] at e
    cases e
  have nev : ev ≠ du := nu (s14 _ _ upd_same)
  have nod : od ≠ du := nu upd_same
  have nH : ∀ {b : Addr} {o : HO}, H b = some o → b ≠ du := fun e => nu (s14' _ _ (s13 _ _ e))
  have hfO : ∀ {G : Hp}, Oth du (upd (upd (upd H12 ev (.lst (((evens n).map f).map V.str))) od (.lst (((odds n).map f).map V.str))) du (.lst [])) G → FrAt G p0 ps := by
    obtain ⟨bs0, h1, h2, h3⟩ := hf.same s14'
    exact fun {G} o => ⟨bs0, h1.elim (fun e => .inl (o _ _ (nu e) (s15 _ _ e))) (fun e => .inr (o _ _ (nu e) (s15 _ _ e))), fun b hb => o _ _ (nu (h2 b hb)) (s15 _ _ (h2 b hb)), h3⟩
  generalize upd (upd (upd H12 ev (.lst (((evens n).map f).map V.str))) od (.lst (((odds n).map f).map V.str))) du (.lst []) = H15 at s315 l15 ev15 od15 du15 hfO ⊢
  have rg : RgC 0 (n : Int) 2 ((n + 1) / 2) := by
    have h : ∀ n, n < 10 → Builtin.Range.small 0 ((n : Nat) : Int) 2 = true ∧ Builtin.Range.rangeSize 0 ((n : Nat) : Int) 2 = (n + 1) / 2 := by decide +kernel
    exact ⟨by decide, by decide, (h n (by omega)).1, (h n (by omega)).2⟩
  refine ⟨_, rfl, l, _, rfl, .inl (.inl (.inl l15)), 0, _, 2, (n + 1) / 2, rfl, by rw [lp]; exact rg, ?_⟩
  have evI : ∀ i, i < (n + 1) / 2 → (evens n)[i]? = some (2 * i) := by
    have h : ∀ n, n < 10 → ∀ i, i < (n + 1) / 2 → (evens n)[i]? = some (2 * i) := by decide +kernel
    exact h n (by omega)
  have evL : (evens n).length = (n + 1) / 2 := by
    have h : ∀ n, n < 10 → (evens n).length = (n + 1) / 2 := by decide +kernel
    exact h n (by omega)
  obtain ⟨dT, edT⟩ : ∃ dT : Nat → List Nat, dT = fun i => ((evens n).take i).foldl (dueStep n) [] := ⟨_, rfl⟩
  have dT0 : dT 0 = [] := by rw [edT]; rfl
  have dTs : ∀ i, i < (n + 1) / 2 → dT (i + 1) = dueStep n (dT i) (2 * i) := fun i hi => by
    rw [edT]
    show ((evens n).take (i + 1)).foldl (dueStep n) [] = _
    rw [List.take_add_one, evI i hi, List.foldl_append]
    rfl
  have dTn : dT ((n + 1) / 2) = dueR n := by
    rw [edT]
    show ((evens n).take ((n + 1) / 2)).foldl (dueStep n) [] = _
    rw [List.take_of_length_le (by omega)]
    rfl
  have dTl : ∀ i, i ≤ (n + 1) / 2 → (dT i).length ≤ 30 := by
    have h : ∀ n, n < 10 → ∀ i, i ≤ (n + 1) / 2 → (((evens n).take i).foldl (dueStep n) []).length ≤ 30 := by
      have h2 : ∀ n, n < 10 → ∀ i, i < (n + 1) / 2 + 1 → (((evens n).take i).foldl (dueStep n) []).length ≤ 30 := by decide +kernel
      exact fun n h i hi => h2 n h i (by omega)
    rw [edT]
    exact h n (by omega)
  refine for_it (walk_rangeC (lo := 0) (c := 2) (n := (n + 1) / 2)) (fun i σ H' => ∃ (y2 y3 y8 : Option V), σ = [some (.ref l), some (.ref p0), y2, y3, some (.ref w1), some (.ref ev), some (.ref od), some (.ref du), y8] ∧ Oth du H15 H' ∧ H' du = some (.lst (((dT i).map f).map V.str))) ?_ (fun _ _ _ _ _ => trivial) ?_ ?_
  · refine ⟨_, _, _, rfl, Oth.refl _ _, ?_⟩
    rw [dT0]
    exact du15
  · rintro i x σ H16' H16 hi ⟨y2, y3, y8, rfl, o16, e16⟩ ⟨rfl, rfl⟩
    rw [show ((fun i : Nat => V.int (0 + (i : Int) * 2)) i) = V.int ((2 * i : Nat) : Int) from congrArg V.int (by omega)]
    have l16 := o16 _ _ nlu l15
    have ldt := dTl i (by omega)
    have at2 : ∀ j, j < n → atI (pool.map V.str) ((j : Nat) : Int) = some (V.str (f j)) := fun j hj => atI_nat (ix_map (atp j hj))
    have ap : ∀ (xs : List Nat) (j : Nat), ((xs.map f).map V.str) ++ [V.str (f j)] = (((xs ++ [j]).map f).map V.str) := fun xs j => by simp
    have lx : ∀ xs : List Nat, xs.length ≤ 40 → ((xs.map f).map V.str).length < sizeLine := fun xs h => by
      rw [List.length_map, List.length_map]
      exact small1000 (by omega)
    refine ⟨.ref du, rfl, .inl ⟨rfl, _, .inl (.inl e16)⟩, _, rfl, _, rfl, l, _, _, _, rfl, rfl, .inl (.inl l16), at2 (2 * i) (by omega), du, _, _, rfl, rfl, e16, lx _ (by omega), ?_⟩
    rw [ap]
    obtain ⟨H17, eH17⟩ : ∃ H17, H17 = upd H16 du (.lst (((dT i ++ [2 * i]).map f).map V.str)) := ⟨_, rfl⟩
    rw [← eH17]
    have e17 : H17 du = some (.lst (((dT i ++ [2 * i]).map f).map V.str)) := by
      rw [eH17]
      exact upd_same
    have o17 : Oth du H15 H17 := fun b o nb e => by
      rw [eH17, upd_ne nb]
      exact o16 _ _ nb e
    have l17 := o17 _ _ nlu l15
    refine ⟨fun σ' G => σ' = [some (.ref l), some (.ref p0), y2, y3, some (.ref w1), some (.ref ev), some (.ref od), some (.ref du), some (.int ((2 * i : Nat) : Int))] ∧ Oth du H15 G ∧ G du = some (.lst ((((dT i ++ [2 * i]) ++ (if 2 * i + 2 = n then [2 * i + 1] else [])).map f).map V.str)), ?_, ?_⟩
    · refine ⟨_, rfl, _, _, rfl, rfl, _, rfl, l, _, rfl, .inl (.inl (.inl l17)), rfl, ?_⟩
      refine ⟨_, rfl, ite2 (fun c => ?_) fun c => ?_⟩
      · have ec : 2 * i + 2 = n := by
          have z := of_decide_eq_true c
          have z2 := V.int.inj z
          rw [lp] at z2
          omega
        have a1 : atI (pool.map V.str) (((2 * i : Nat) : Int) + 1) = some (V.str (f (2 * i + 1))) := by
          rw [show ((2 * i : Nat) : Int) + 1 = ((2 * i + 1 : Nat) : Int) by omega]
          exact at2 (2 * i + 1) (by omega)
        refine ⟨.ref du, rfl, .inl ⟨rfl, _, .inl (.inl e17)⟩, _, rfl, _, rfl, _, _, rfl, rfl, l, _, _, _, rfl, rfl, .inl (.inl l17), a1, du, _, _, rfl, rfl, e17, lx _ (by rw [List.length_append]; show _ + 1 ≤ 40; omega), ?_⟩
        · rw [ap]
          refine ⟨rfl, fun b o nb e => ?_, ?_⟩
          · rw [upd_ne nb]
            exact o17 _ _ nb e
          · rw [upd_same, if_pos ec]
      · have ec : ¬ 2 * i + 2 = n := fun z => c (decide_eq_true (by rw [lp]; exact congrArg V.int (by omega)))
        refine ⟨rfl, o17, ?_⟩
        rw [if_neg ec, List.append_nil]
        exact e17
    rintro σ' H18 ⟨rfl, o18, e18⟩
    have l18 := o18 _ _ nlu l15
    refine ⟨fun σ' G => σ' = [some (.ref l), some (.ref p0), y2, y3, some (.ref w1), some (.ref ev), some (.ref od), some (.ref du), some (.int ((2 * i : Nat) : Int))] ∧ Oth du H15 G ∧ G du = some (.lst (((dT (i + 1)).map f).map V.str)), ?_, ?_⟩
    · have lL : ((dT i ++ [2 * i]) ++ (if 2 * i + 2 = n then [2 * i + 1] else [])).length ≤ 40 := by
        rw [List.length_append, List.length_append]
        have h1 : (if 2 * i + 2 = n then [2 * i + 1] else []).length ≤ 1 := by split <;> simp
        have h2 : [2 * i].length = 1 := rfl
        omega
      refine ⟨_, rfl, _, _, rfl, rfl, _, rfl, ite2 (fun c => ?_) fun c => ?_⟩
      · have ec : 0 < 2 * i := by
          have z := of_decide_eq_true c
          omega
        have a1 : atI (pool.map V.str) (((2 * i : Nat) : Int) - 1) = some (V.str (f (2 * i - 1))) := by
          rw [show ((2 * i : Nat) : Int) - 1 = ((2 * i - 1 : Nat) : Int) by omega]
          exact at2 (2 * i - 1) (by omega)
        refine ⟨.ref du, rfl, .inl ⟨rfl, _, .inl (.inl e18)⟩, _, rfl, _, rfl, _, _, rfl, rfl, l, _, _, _, rfl, rfl, .inl (.inl l18), a1, du, _, _, rfl, rfl, e18, lx _ lL, ?_⟩
        · rw [ap]
          refine ⟨rfl, fun b o nb e => ?_, ?_⟩
          · rw [upd_ne nb]
            exact o18 _ _ nb e
          · rw [upd_same, dTs i hi]
            unfold dueStep
            rw [if_pos ec]
      · have ec : ¬ 0 < 2 * i := fun z => c (decide_eq_true (by omega))
        refine ⟨rfl, o18, ?_⟩
        rw [dTs i hi]
        unfold dueStep
        rw [if_neg ec, List.append_nil]
        exact e18
    rintro σ' H19 ⟨rfl, o19, e19⟩
    exact ⟨_, _, _, rfl, o19, e19⟩
  rintro σ H16 ⟨y2, y3, y8, rfl, o16, e16⟩
  rw [dTn] at e16
  have l16 := o16 _ _ nlu l15
  have ev16 := o16 _ _ nev ev15
  have od16 := o16 _ _ nod od15
  have hf16 := hfO o16
  have sF : Same H H16 := fun b o e => o16 _ _ (nH e) (s315 _ _ (s13 _ _ e))
  have leo : (evens n).length + (odds n).length ≤ 100 := by
    have h : ∀ n, n < 10 → (evens n).length + (odds n).length ≤ 100 := by decide +kernel
    exact h n (by omega)
  refine ⟨_, rfl, _, rfl, _, rfl, ev, od, _, _, rfl, rfl, ev16, od16, small_le (by rw [List.length_map, List.length_map, List.length_map, List.length_map]; omega), fun c1 hc1 => ?_⟩
  have ecat : ((evens n).map f).map V.str ++ ((odds n).map f).map V.str = (((evens n ++ odds n).map f).map V.str) := by simp
  rw [ecat]
  have s17 := same_upd (o := .lst (((evens n ++ odds n).map f).map V.str)) hc1
  refine ⟨p0, c1, ps, (evens n ++ odds n).map f, rfl, hf16.same s17, hpl, .inr upd_same, K0.nodup eo eond, (by rw [List.length_map, List.length_append]; exact leo), fun r1 H18 s18 r1e => ?_⟩
  rw [t3] at r1e
  have s1618 := s17.trans s18
  have l18 := s1618 _ _ l16
  have a0 : atI (pool.map V.str) 0 = some (V.str (f 0)) := atI_nat (j := 0) (ix_map (atp 0 (by omega)))
  have a1 : atI (pool.map V.str) 1 = some (V.str (f 1)) := atI_nat (j := 1) (ix_map (atp 1 (by omega)))
  refine ⟨_, rfl, _, rfl, l, _, 0, _, rfl, rfl, .inl (.inl l18), a0, (by show 1 ≤ sizeLine; decide), fun T1 H19 s19 _ T1e => ?_⟩
  have s1619 := s1618.trans s19
  have n01 : f 1 ∉ [f 0] := fun z => by
    have := inj 1 0 (by omega) (by omega) (List.mem_singleton.mp z)
    cases this
  refine ⟨_, rfl, l, _, 1, _, rfl, rfl, .inl (.inl (s1619 _ _ l16)), a1, p0, T1, ps, [f 0], f 1, rfl, hf16.same s1619, hpl, .inl T1e, (by show 1 ≤ 100; decide), n01, fun r2 H20 s20 r2e => ?_⟩
  rw [t4] at r2e
  have s1620 := s1619.trans s20
  refine ⟨(by show 2 ≤ sizeLine; decide), fun L2 hL2 => ?_⟩
  have s21 := same_upd (o := .lst [.ref r1, .ref r2]) hL2
  have s1621 := s1620.trans s21
  refine ⟨_, rfl, du, _, rfl, .inl ⟨.inl (.inl (s1621 _ _ e16)), fun v3 H22 s22 _ v3e => ?_⟩⟩
  have l22 := s22 _ _ (s1621 _ _ l16)
  refine ⟨_, rfl, 2, rfl, l, _, rfl, .inl (.inl l22), fun c2 hc2 => ?_⟩
  have e2 : cutV (pool.map V.str) none (some 2) = ([f 0, f 1].map V.str) := by
    rw [cutV_map, show (2 : Int) = ((2 : Nat) : Int) from rfl, cutL_to]
    congr 1
    refine List.ext_getElem? fun j => ?_
    rw [List.getElem?_take]
    match j with
    | 0 => exact atp 0 (by omega)
    | 1 => exact atp 1 (by omega)
    | j + 2 =>
      rw [if_neg (by omega)]
      rfl
  rw [e2]
  have s23 := same_upd (o := .lst ([f 0, f 1].map V.str)) hc2
  refine ⟨c2, _, rfl, .inl ⟨.inl (.inl upd_same), fun v4 H24 s24 _ v4e => ?_⟩⟩
  refine ⟨(by show 2 ≤ sizeLine; decide), fun M2 hM2 => ?_⟩
  have s25 := same_upd (o := .lst [.ref v3, .ref v4]) hM2
  have s2325 := (s23.trans s24).trans s25
  have s2225 := s22.trans s2325
  have ldu : ((dueR n).map f).length ≤ 1000 := by
    have := dTl ((n + 1) / 2) (Nat.le_refl _)
    rw [dTn] at this
    rw [List.length_map]
    omega
  refine ⟨.ref L2, .ref M2, rfl, alk_list2 (n := 4) (s2225 _ _ upd_same) upd_same (alkT (m := 2) (r1e.same ((s19.trans s20).trans (s21.trans s2225))) (v3e.same s2325) ldu) (alkT (m := 2) (r2e.same (s21.trans s2225)) (v4e.same s25) (by show 2 ≤ 1000; decide)), fun H26 s26 => ?_⟩
  exact q _ (sF.trans ((s1621.trans s2225).trans s26))
/-! ### law -/
abbrev sLaw : Stmt := topS 43
abbrev nLaw : List Str := ["_law_script", "_law_cells_here", "_law_k", "_law_box_here", "_law_a", "_law_b", "_law_c", "_law_pool"]
theorem scLaw : FnScope nLaw ["_law_script"] (defScope sLaw) := ⟨rfl, rfl, rfl, by decide +kernel, rfl, by decide +kernel, by decide +kernel⟩
theorem ok_law12 {f : Addr} {fd : FuncData} (B : Blt mg) (CC : Cal P w K mg base 1 "_law_cells" ["_law_script", "_law_utmost"] (spCells K)) (CX : Cal P w K mg base 1 "_law_box" ["_law_cells_here", "_law_k"] spBox) (CT : Cal P w K mg base 1 "_law_take" ["_law_box_here", "_law_many"] spTake) (CN : Cal P w K mg base 2 "_law_names" ["_law_box_here", "_law_many"] spNames) (C3 : Cal P w K mg base 7 "_law_three_right" ["_law_a", "_law_b", "_law_c"] spThr) (CA : Cal P w K mg base 7 "_law_all_right" ["_law_pool"] spPool9) (CR : Cal P w K mg base 6 "_law_road_right" ["_law_pool"] spPool9) (F : Fun K "law" "law" sLaw f fd) : FnOk P w K mg base CX0 8 f fd ["_law_script"] (spLaw K) := by
  refine fok F scLaw (fun vs H Q E h => ?_) (fun cdv A outer s H vs Q E hr h => ?_)
  · obtain ⟨a, ns, rfl, _⟩ := h
    rfl
  obtain ⟨a, ns, rfl, ha, hn, q⟩ := h
  refine ⟨_, pss_cons (ps_set (i := 1) scLaw.nd rfl (.inl rfl) (pe_cal CC hr (pa_cons (pv 0) (pa_cons pe_int pa_nil))))
    (pss_cons (ps_for PassesOwn.never rfl (pi_range1 (by rfl) B.range (pa_cons (pe_callB call_len_seq (by rfl) B.len PySem.boot_len (pa_cons (pv 1) pa_nil)) pa_nil)) (pg_name (i := 2) scLaw.nd rfl (.inl rfl))
      (pss_cons (ps_set (i := 3) scLaw.nd rfl (.inl rfl) (pe_cal CX hr (pa_cons (pv 1) (pa_cons (pv 2) pa_nil))))
        (pss_cons (ps_asg (pe_cal CN hr (pa_cons (pv 3) (pa_cons pe_int pa_nil))) (pg_unl rfl (pgs_cons (pg_name (i := 4) scLaw.nd rfl (.inl rfl)) (pgs_cons (pg_name (i := 5) scLaw.nd rfl (.inl rfl)) (pgs_cons (pg_name (i := 6) scLaw.nd rfl (.inl rfl)) pgs_nil)))))
        (pss_cons (ps_set (i := 7) scLaw.nd rfl (.inl rfl) (pe_cal CN hr (pa_cons (pv 3) (pa_cons (pe_op op_add pe_int (pe_cal CT hr (pa_cons (pv 3) (pa_cons pe_int pa_nil)))) pa_nil))))
        (pss_one (ps_if (PW.pt (pw_or (pt_not (pt_val (pe_cal C3 hr (pa_cons (pv 4) (pa_cons (pv 5) (pa_cons (pv 6) pa_nil)))))) (pw_or (pt_not (pt_val (pe_cal CA hr (pa_cons (pv 7) pa_nil)))) (pw_or1 (pt_not (pt_val (pe_cal CR hr (pa_cons (pv 7) pa_nil))))))))
          (pss_one (ps_ret pe_bl))
          pss_nil))))))
    (pss_one (ps_ret pe_bl))), ?_⟩
  refine ⟨.ref a, rfl, a, ns, _, rfl, ha, hn, by decide, by decide, fun c ms H1 s1 nc e1 m0 m3 => ?_⟩
  refine ⟨.ref c, rfl, c, _, rfl, .inl (.inl (.inl e1)), _, rfl, ?_, ?_, ?_⟩
  · rw [List.length_map]
    omega
  · rw [List.length_map]
    omega
  rw [List.length_map]
  refine for_it (walk_range (lo := 0) (n := ((ms.length : Int)).toNat)) (fun i σ H' => ∃ y2 y3 y4 y5 y6 y7, σ = [some (.ref a), some (.ref c), y2, y3, y4, y5, y6, y7] ∧ H' c = some (.lst (ms.map V.int))) ?_ (fun _ _ _ _ _ => trivial) ?_ ?_
  · exact ⟨_, _, _, _, _, _, rfl, e1⟩
  · rintro i x σ H3 H2 hi ⟨y2, y3, y4, y5, y6, y7, rfl, e2⟩ ⟨rfl, rfl⟩
    have ei : (0 : Int) + (i : Int) = (i : Int) := Int.zero_add _
    refine ⟨.ref c, rfl, _, rfl, c, ms, i, congrArg (fun z => [V.ref c, V.int z]) ei, e2, by omega, by omega, fun b H4 s4 nb b4 => ?_⟩
    have c4 := s4 _ _ e2
    have ncb : c ≠ b := ne_of_none e2 nb
    refine ⟨_, rfl, b, 3, rfl, b4, by decide, fun l3 three H5 o5 b5 nl3 l5 lth nd3 ok3 => ?_⟩
    obtain ⟨x1, x2, x3, rfl⟩ : ∃ x1 x2 x3, three = [x1, x2, x3] := by
      match three, lth with
      | [x1, x2, x3], _ => exact ⟨x1, x2, x3, rfl⟩
    refine ⟨l3, _, rfl, .inl (.inl l5), rfl, _, _, rfl, _, _, rfl, _, _, rfl, rfl, ?_⟩
    refine ⟨_, rfl, _, rfl, b, 8, rfl, b5, by decide, by decide, fun v H6 o6 b6 v0 v1 => ?_⟩
    refine ⟨_, _, rfl, rfl, b, 2 + v.toNat, ?_, b6, by omega, fun l pool H7 o7 b7 nl l7 lp ndp okp => ?_⟩
    · exact congrArg (fun z => [V.ref b, V.int z]) (show (2 : Int) + v = ((2 + v.toNat : Nat) : Int) by omega)
    have c7 := o7 _ _ ncb (o6 _ _ ncb (o5 _ _ ncb c4))
    refine ⟨_, rfl, _, rfl, _, rfl, x1, x2, x3, rfl, nd3, ok3, fun H8 s8 => ?_⟩
    refine ⟨true, rfl, ite2 (fun c => absurd c (by decide)) fun _ => ?_⟩
    refine ⟨_, rfl, l, pool, rfl, s8 _ _ l7, ndp, okp, by omega, by omega, fun H9 s9 => ?_⟩
    refine ⟨true, rfl, ite2 (fun c => absurd c (by decide)) fun _ => ?_⟩
    refine ⟨_, rfl, l, pool, rfl, s9 _ _ (s8 _ _ l7), ndp, okp, by omega, by omega, fun H10 s10 => ?_⟩
    exact ⟨true, rfl, _, _, _, _, _, _, rfl, s10 _ _ (s9 _ _ (s8 _ _ c7))⟩
  · rintro σ H2 ⟨y2, y3, y4, y5, y6, y7, rfl, e2⟩
    exact q _
end
/-! ### what the top has written; the law's own head -/
theorem all_mk {l : PySem.W.OpenLaw} {w : World} {K : PySem.W.Frag} {h : Heap} {mg : Str → Option Value} {fa f1 f2 f3 f4 f5 f6 f7 f8 f9 f10 f11 f12 f13 f14 f15 f16 f17 f18 f19 f20 f21 f22 f23 f24 f25 f26 f27 f28 f29 f30 f31 f32 f33 f34 : Addr} (XK : K.In h) (G : h.Ns mainGlobals mg) (hfa : mg "law" = some (.ref fa))
    {od1 an1 od2 an2 od3 an3 od4 an4 od5 an5 od6 an6 od7 an7 od8 an8 od9 an9 od10 an10 od11 an11 od12 an12 od13 an13 od14 an14 od15 an15 od16 an16 od17 an17 od18 an18 od19 an19 od20 an20 od21 an21 od22 an22 od23 an23 od24 an24 od25 an25 od26 an26 od27 an27 od28 an28 od29 an29 od30 an30 od31 an31 od32 an32 od33 an33 od34 an34 : Option Addr} {sl1 sl2 sl3 sl4 sl5 sl6 sl7 sl8 sl9 sl10 sl11 sl12 sl13 sl14 sl15 sl16 sl17 sl18 sl19 sl20 sl21 sl22 sl23 sl24 sl25 sl26 sl27 sl28 sl29 sl30 sl31 sl32 sl33 sl34 : Array (Option Value)} {oc1 kV1 dc1 pm1 cd1 ct1 oc2 kV2 dc2 pm2 cd2 ct2 oc3 kV3 dc3 pm3 cd3 ct3 oc4 kV4 dc4 pm4 cd4 ct4 oc5 kV5 dc5 pm5 cd5 ct5 oc6 kV6 dc6 pm6 cd6 ct6 oc7 kV7 dc7 pm7 cd7 ct7 oc8 kV8 dc8 pm8 cd8 ct8 oc9 kV9 dc9 pm9 cd9 ct9 oc10 kV10 dc10 pm10 cd10 ct10 oc11 kV11 dc11 pm11 cd11 ct11 oc12 kV12 dc12 pm12 cd12 ct12 oc13 kV13 dc13 pm13 cd13 ct13 oc14 kV14 dc14 pm14 cd14 ct14 oc15 kV15 dc15 pm15 cd15 ct15 oc16 kV16 dc16 pm16 cd16 ct16 oc17 dc17 pm17 cd17 ct17 oc18 kV18 dc18 pm18 cd18 ct18 oc19 kV19 dc19 pm19 cd19 ct19 oc20 kV20 dc20 pm20 cd20 ct20 oc21 kV21 dc21 pm21 cd21 ct21 oc22 kV22 dc22 pm22 cd22 ct22 oc23 kV23 dc23 pm23 cd23 ct23 oc24 kV24 dc24 pm24 cd24 ct24 oc25 kV25 dc25 pm25 cd25 ct25 oc26 kV26 dc26 pm26 cd26 ct26 oc27 kV27 dc27 pm27 cd27 ct27 oc28 kV28 dc28 pm28 cd28 ct28 oc29 kV29 dc29 pm29 cd29 ct29 oc30 kV30 dc30 pm30 cd30 ct30 oc31 kV31 dc31 pm31 cd31 ct31 oc32 kV32 dc32 pm32 cd32 ct32 oc33 kV33 dc33 pm33 cd33 ct33 oc34 kV34 dc34 pm34 cd34 ct34 : Value}
    (a1 : PySem.W.nsIn K mainGlobals "is_name" = some (some (.ref f1))) (l1 : K.lookup f1 = some ⟨oc1, od1, .func (PySem.W.fnOf "is_name" "is_name" (defArgs sIsName) (defBody sIsName) (defScope sIsName) .none kV1 dc1 pm1 an1 cd1 ct1), sl1⟩) (c1 : PySem.W.codeIn K cd1 "is_name" = true) (k1 : PySem.W.keepIn K (.ref f1) = true)
    (a2 : PySem.W.nsIn K mainGlobals "both_ways" = some (some (.ref f2))) (l2 : K.lookup f2 = some ⟨oc2, od2, .func (PySem.W.fnOf "both_ways" "both_ways" (defArgs sBoth) (defBody sBoth) (defScope sBoth) .none kV2 dc2 pm2 an2 cd2 ct2), sl2⟩) (c2 : PySem.W.codeIn K cd2 "both_ways" = true) (k2 : PySem.W.keepIn K (.ref f2) = true)
    (a3 : PySem.W.nsIn K mainGlobals "last_friend_place" = some (some (.ref f3))) (l3 : K.lookup f3 = some ⟨oc3, od3, .func (PySem.W.fnOf "last_friend_place" "last_friend_place" (defArgs sLfp) (defBody sLfp) (defScope sLfp) .none kV3 dc3 pm3 an3 cd3 ct3), sl3⟩) (c3 : PySem.W.codeIn K cd3 "last_friend_place" = true) (k3 : PySem.W.keepIn K (.ref f3) = true)
    (a4 : PySem.W.nsIn K mainGlobals "host_place" = some (some (.ref f4))) (l4 : K.lookup f4 = some ⟨oc4, od4, .func (PySem.W.fnOf "host_place" "host_place" (defArgs sHostP) (defBody sHostP) (defScope sHostP) .none kV4 dc4 pm4 an4 cd4 ct4), sl4⟩) (c4 : PySem.W.codeIn K cd4 "host_place" = true) (k4 : PySem.W.keepIn K (.ref f4) = true)
    (a5 : PySem.W.nsIn K mainGlobals "coming_place" = some (some (.ref f5))) (l5 : K.lookup f5 = some ⟨oc5, od5, .func (PySem.W.fnOf "coming_place" "coming_place" (defArgs sComingP) (defBody sComingP) (defScope sComingP) .none kV5 dc5 pm5 an5 cd5 ct5), sl5⟩) (c5 : PySem.W.codeIn K cd5 "coming_place" = true) (k5 : PySem.W.keepIn K (.ref f5) = true)
    (a6 : PySem.W.nsIn K mainGlobals "stood_in" = some (some (.ref f6))) (l6 : K.lookup f6 = some ⟨oc6, od6, .func (PySem.W.fnOf "stood_in" "stood_in" (defArgs sStood) (defBody sStood) (defScope sStood) .none kV6 dc6 pm6 an6 cd6 ct6), sl6⟩) (c6 : PySem.W.codeIn K cd6 "stood_in" = true) (k6 : PySem.W.keepIn K (.ref f6) = true)
    (a7 : PySem.W.nsIn K mainGlobals "let_in" = some (some (.ref f7))) (l7 : K.lookup f7 = some ⟨oc7, od7, .func (PySem.W.fnOf "let_in" "let_in" (defArgs sLetIn) (defBody sLetIn) (defScope sLetIn) .none kV7 dc7 pm7 an7 cd7 ct7), sl7⟩) (c7 : PySem.W.codeIn K cd7 "let_in" = true) (k7 : PySem.W.keepIn K (.ref f7) = true)
    (a8 : PySem.W.nsIn K mainGlobals "row_of" = some (some (.ref f8))) (l8 : K.lookup f8 = some ⟨oc8, od8, .func (PySem.W.fnOf "row_of" "row_of" (defArgs sRowOf) (defBody sRowOf) (defScope sRowOf) .none kV8 dc8 pm8 an8 cd8 ct8), sl8⟩) (c8 : PySem.W.codeIn K cd8 "row_of" = true) (k8 : PySem.W.keepIn K (.ref f8) = true)
    (a9 : PySem.W.nsIn K mainGlobals "put_back" = some (some (.ref f9))) (l9 : K.lookup f9 = some ⟨oc9, od9, .func (PySem.W.fnOf "put_back" "put_back" (defArgs sPutBack) (defBody sPutBack) (defScope sPutBack) .none kV9 dc9 pm9 an9 cd9 ct9), sl9⟩) (c9 : PySem.W.codeIn K cd9 "put_back" = true) (k9 : PySem.W.keepIn K (.ref f9) = true)
    (a10 : PySem.W.nsIn K mainGlobals "bar_words" = some (some (.ref f10))) (l10 : K.lookup f10 = some ⟨oc10, od10, .func (PySem.W.fnOf "bar_words" "bar_words" (defArgs sBarW) (defBody sBarW) (defScope sBarW) .none kV10 dc10 pm10 an10 cd10 ct10), sl10⟩) (c10 : PySem.W.codeIn K cd10 "bar_words" = true) (k10 : PySem.W.keepIn K (.ref f10) = true)
    (a11 : PySem.W.nsIn K mainGlobals "bars" = some (some (.ref f11))) (l11 : K.lookup f11 = some ⟨oc11, od11, .func (PySem.W.fnOf "bars" "bars" (defArgs sBars) (defBody sBars) (defScope sBars) .none kV11 dc11 pm11 an11 cd11 ct11), sl11⟩) (c11 : PySem.W.codeIn K cd11 "bars" = true) (k11 : PySem.W.keepIn K (.ref f11) = true)
    (a12 : PySem.W.nsIn K mainGlobals "loose_at" = some (some (.ref f12))) (l12 : K.lookup f12 = some ⟨oc12, od12, .func (PySem.W.fnOf "loose_at" "loose_at" (defArgs sLooseAt) (defBody sLooseAt) (defScope sLooseAt) .none kV12 dc12 pm12 an12 cd12 ct12), sl12⟩) (c12 : PySem.W.codeIn K cd12 "loose_at" = true) (k12 : PySem.W.keepIn K (.ref f12) = true)
    (a13 : PySem.W.nsIn K mainGlobals "loose_in" = some (some (.ref f13))) (l13 : K.lookup f13 = some ⟨oc13, od13, .func (PySem.W.fnOf "loose_in" "loose_in" (defArgs sLooseIn) (defBody sLooseIn) (defScope sLooseIn) .none kV13 dc13 pm13 an13 cd13 ct13), sl13⟩) (c13 : PySem.W.codeIn K cd13 "loose_in" = true) (k13 : PySem.W.keepIn K (.ref f13) = true)
    (a14 : PySem.W.nsIn K mainGlobals "hindmost_loose" = some (some (.ref f14))) (l14 : K.lookup f14 = some ⟨oc14, od14, .func (PySem.W.fnOf "hindmost_loose" "hindmost_loose" (defArgs sHind) (defBody sHind) (defScope sHind) .none kV14 dc14 pm14 an14 cd14 ct14), sl14⟩) (c14 : PySem.W.codeIn K cd14 "hindmost_loose" = true) (k14 : PySem.W.keepIn K (.ref f14) = true)
    (a15 : PySem.W.nsIn K mainGlobals "gone_and_stayed" = some (some (.ref f15))) (l15 : K.lookup f15 = some ⟨oc15, od15, .func (PySem.W.fnOf "gone_and_stayed" "gone_and_stayed" (defArgs sStayed) (defBody sStayed) (defScope sStayed) .none kV15 dc15 pm15 an15 cd15 ct15), sl15⟩) (c15 : PySem.W.codeIn K cd15 "gone_and_stayed" = true) (k15 : PySem.W.keepIn K (.ref f15) = true)
    (a16 : PySem.W.nsIn K mainGlobals "gone_and_left" = some (some (.ref f16))) (l16 : K.lookup f16 = some ⟨oc16, od16, .func (PySem.W.fnOf "gone_and_left" "gone_and_left" (defArgs sGone) (defBody sGone) (defScope sGone) .none kV16 dc16 pm16 an16 cd16 ct16), sl16⟩) (c16 : PySem.W.codeIn K cd16 "gone_and_left" = true) (k16 : PySem.W.keepIn K (.ref f16) = true)
    {kD17 kE17 : Addr} {kd17 : Option Addr} {ks17 : Array (Option Value)} {kn17 : Nat} (a17 : PySem.W.nsIn K mainGlobals "left_over" = some (some (.ref f17))) (l17 : K.lookup f17 = some ⟨oc17, od17, .func (PySem.W.fnOf "left_over" "left_over" (defArgs sLeft) (defBody sLeft) (defScope sLeft) .none (.ref kD17) dc17 pm17 an17 cd17 ct17), sl17⟩) (c17 : PySem.W.codeIn K cd17 "left_over" = true) (k17 : PySem.W.keepIn K (.ref f17) = true) (n17 : PySem.W.nsIn K kD17 "but" = some (some (.ref kE17))) (e17 : K.lookup kE17 = some ⟨.type "tuple", kd17, .seq #[] kn17, ks17⟩)
    (a18 : PySem.W.nsIn K mainGlobals "is_link" = some (some (.ref f18))) (l18 : K.lookup f18 = some ⟨oc18, od18, .func (PySem.W.fnOf "is_link" "is_link" (defArgs sIsLink) (defBody sIsLink) (defScope sIsLink) .none kV18 dc18 pm18 an18 cd18 ct18), sl18⟩) (c18 : PySem.W.codeIn K cd18 "is_link" = true) (k18 : PySem.W.keepIn K (.ref f18) = true)
    (a19 : PySem.W.nsIn K mainGlobals "are_links" = some (some (.ref f19))) (l19 : K.lookup f19 = some ⟨oc19, od19, .func (PySem.W.fnOf "are_links" "are_links" (defArgs sAreLinks) (defBody sAreLinks) (defScope sAreLinks) .none kV19 dc19 pm19 an19 cd19 ct19), sl19⟩) (c19 : PySem.W.codeIn K cd19 "are_links" = true) (k19 : PySem.W.keepIn K (.ref f19) = true)
    (a20 : PySem.W.nsIn K mainGlobals "each_bars_the_next" = some (some (.ref f20))) (l20 : K.lookup f20 = some ⟨oc20, od20, .func (PySem.W.fnOf "each_bars_the_next" "each_bars_the_next" (defArgs sEachB) (defBody sEachB) (defScope sEachB) .none kV20 dc20 pm20 an20 cd20 ct20), sl20⟩) (c20 : PySem.W.codeIn K cd20 "each_bars_the_next" = true) (k20 : PySem.W.keepIn K (.ref f20) = true)
    (a21 : PySem.W.nsIn K mainGlobals "shows_ring" = some (some (.ref f21))) (l21 : K.lookup f21 = some ⟨oc21, od21, .func (PySem.W.fnOf "shows_ring" "shows_ring" (defArgs sShowsR) (defBody sShowsR) (defScope sShowsR) .none kV21 dc21 pm21 an21 cd21 ct21), sl21⟩) (c21 : PySem.W.codeIn K cd21 "shows_ring" = true) (k21 : PySem.W.keepIn K (.ref f21) = true)
    (a22 : PySem.W.nsIn K mainGlobals "next_barred" = some (some (.ref f22))) (l22 : K.lookup f22 = some ⟨oc22, od22, .func (PySem.W.fnOf "next_barred" "next_barred" (defArgs sNextB) (defBody sNextB) (defScope sNextB) .none kV22 dc22 pm22 an22 cd22 ct22), sl22⟩) (c22 : PySem.W.codeIn K cd22 "next_barred" = true) (k22 : PySem.W.keepIn K (.ref f22) = true)
    (a23 : PySem.W.nsIn K mainGlobals "ring_among" = some (some (.ref f23))) (l23 : K.lookup f23 = some ⟨oc23, od23, .func (PySem.W.fnOf "ring_among" "ring_among" (defArgs sRingA) (defBody sRingA) (defScope sRingA) .none kV23 dc23 pm23 an23 cd23 ct23), sl23⟩) (c23 : PySem.W.codeIn K cd23 "ring_among" = true) (k23 : PySem.W.keepIn K (.ref f23) = true)
    (a24 : PySem.W.nsIn K mainGlobals "order_of" = some (some (.ref f24))) (l24 : K.lookup f24 = some ⟨oc24, od24, .func (PySem.W.fnOf "order_of" "order_of" (defArgs sOrderOf) (defBody sOrderOf) (defScope sOrderOf) .none kV24 dc24 pm24 an24 cd24 ct24), sl24⟩) (c24 : PySem.W.codeIn K cd24 "order_of" = true) (k24 : PySem.W.keepIn K (.ref f24) = true)
    (a25 : PySem.W.nsIn K mainGlobals "_law_box" = some (some (.ref f25))) (l25 : K.lookup f25 = some ⟨oc25, od25, .func (PySem.W.fnOf "_law_box" "_law_box" (defArgs sBox) (defBody sBox) (defScope sBox) .none kV25 dc25 pm25 an25 cd25 ct25), sl25⟩) (c25 : PySem.W.codeIn K cd25 "_law_box" = true) (k25 : PySem.W.keepIn K (.ref f25) = true)
    (a26 : PySem.W.nsIn K mainGlobals "_law_take" = some (some (.ref f26))) (l26 : K.lookup f26 = some ⟨oc26, od26, .func (PySem.W.fnOf "_law_take" "_law_take" (defArgs sTake) (defBody sTake) (defScope sTake) .none kV26 dc26 pm26 an26 cd26 ct26), sl26⟩) (c26 : PySem.W.codeIn K cd26 "_law_take" = true) (k26 : PySem.W.keepIn K (.ref f26) = true)
    (a27 : PySem.W.nsIn K mainGlobals "_law_cells" = some (some (.ref f27))) (l27 : K.lookup f27 = some ⟨oc27, od27, .func (PySem.W.fnOf "_law_cells" "_law_cells" (defArgs sCells) (defBody sCells) (defScope sCells) .none kV27 dc27 pm27 an27 cd27 ct27), sl27⟩) (c27 : PySem.W.codeIn K cd27 "_law_cells" = true) (k27 : PySem.W.keepIn K (.ref f27) = true)
    (a28 : PySem.W.nsIn K mainGlobals "_law_names" = some (some (.ref f28))) (l28 : K.lookup f28 = some ⟨oc28, od28, .func (PySem.W.fnOf "_law_names" "_law_names" (defArgs sNames) (defBody sNames) (defScope sNames) .none kV28 dc28 pm28 an28 cd28 ct28), sl28⟩) (c28 : PySem.W.codeIn K cd28 "_law_names" = true) (k28 : PySem.W.keepIn K (.ref f28) = true)
    (a29 : PySem.W.nsIn K mainGlobals "_law_same" = some (some (.ref f29))) (l29 : K.lookup f29 = some ⟨oc29, od29, .func (PySem.W.fnOf "_law_same" "_law_same" (defArgs sSame) (defBody sSame) (defScope sSame) .none kV29 dc29 pm29 an29 cd29 ct29), sl29⟩) (c29 : PySem.W.codeIn K cd29 "_law_same" = true) (k29 : PySem.W.keepIn K (.ref f29) = true)
    (a30 : PySem.W.nsIn K mainGlobals "_law_pairs" = some (some (.ref f30))) (l30 : K.lookup f30 = some ⟨oc30, od30, .func (PySem.W.fnOf "_law_pairs" "_law_pairs" (defArgs sPrs) (defBody sPrs) (defScope sPrs) .none kV30 dc30 pm30 an30 cd30 ct30), sl30⟩) (c30 : PySem.W.codeIn K cd30 "_law_pairs" = true) (k30 : PySem.W.keepIn K (.ref f30) = true)
    (a31 : PySem.W.nsIn K mainGlobals "_law_three_right" = some (some (.ref f31))) (l31 : K.lookup f31 = some ⟨oc31, od31, .func (PySem.W.fnOf "_law_three_right" "_law_three_right" (defArgs sThr) (defBody sThr) (defScope sThr) .none kV31 dc31 pm31 an31 cd31 ct31), sl31⟩) (c31 : PySem.W.codeIn K cd31 "_law_three_right" = true) (k31 : PySem.W.keepIn K (.ref f31) = true)
    (a32 : PySem.W.nsIn K mainGlobals "_law_all_right" = some (some (.ref f32))) (l32 : K.lookup f32 = some ⟨oc32, od32, .func (PySem.W.fnOf "_law_all_right" "_law_all_right" (defArgs sAllR) (defBody sAllR) (defScope sAllR) .none kV32 dc32 pm32 an32 cd32 ct32), sl32⟩) (c32 : PySem.W.codeIn K cd32 "_law_all_right" = true) (k32 : PySem.W.keepIn K (.ref f32) = true)
    (a33 : PySem.W.nsIn K mainGlobals "_law_road_right" = some (some (.ref f33))) (l33 : K.lookup f33 = some ⟨oc33, od33, .func (PySem.W.fnOf "_law_road_right" "_law_road_right" (defArgs sRoad) (defBody sRoad) (defScope sRoad) .none kV33 dc33 pm33 an33 cd33 ct33), sl33⟩) (c33 : PySem.W.codeIn K cd33 "_law_road_right" = true) (k33 : PySem.W.keepIn K (.ref f33) = true)
    (a34 : PySem.W.nsIn K mainGlobals "law" = some (some (.ref f34))) (l34 : K.lookup f34 = some ⟨oc34, od34, .func (PySem.W.fnOf "law" "law" (defArgs sLaw) (defBody sLaw) (defScope sLaw) .none kV34 dc34 pm34 an34 cd34 ct34), sl34⟩) (c34 : PySem.W.codeIn K cd34 "law" = true) (k34 : PySem.W.keepIn K (.ref f34) = true)
    {tq1 : Tok} (q1 : PySem.W.nsIn K mainGlobals "LONGEST_NAME" = some (some (.int 8 tq1)))
    (z1 : PySem.W.nsIn K mainGlobals "len" = some none)
    (z2 : PySem.W.nsIn K mainGlobals "abs" = some none)
    (z3 : PySem.W.nsIn K mainGlobals "int" = some none)
    (z4 : PySem.W.nsIn K mainGlobals "list" = some none)
    (z5 : PySem.W.nsIn K mainGlobals "tuple" = some none)
    (z6 : PySem.W.nsIn K mainGlobals "enumerate" = some none)
    (z7 : PySem.W.nsIn K mainGlobals "range" = some none)
    (z8 : PySem.W.nsIn K mainGlobals "min" = some none)
    (z9 : PySem.W.nsIn K mainGlobals "max" = some none)
    (z10 : PySem.W.nsIn K mainGlobals "sorted" = some none)
    (z11 : PySem.W.nsIn K mainGlobals "isinstance" = some none)
    (z12 : PySem.W.nsIn K mainGlobals "zip" = some none)
    (z13 : PySem.W.nsIn K mainGlobals "all" = some none)
    (z14 : PySem.W.nsIn K mainGlobals "str" = some none)
    (z15 : PySem.W.nsIn K mainGlobals "bool" = some none)
    (z16 : PySem.W.nsIn K mainGlobals "any" = some none)
    (z17 : PySem.W.nsIn K mainGlobals "repr" = some none)
    (z18 : PySem.W.nsIn K mainGlobals "set" = some none)
    (z19 : PySem.W.nsIn K mainGlobals "sum" = some none)
    (z20 : PySem.W.nsIn K mainGlobals "reversed" = some none)
    (z21 : PySem.W.nsIn K mainGlobals "dict" = some none)
    : ∃ fd : FuncData, (∀ (s : Shared) (v : Value), BindsTo s fd ⟨[v], []⟩ [("_law_script", v)]) ∧ ∀ base : Heap, K.In base → base.Ns mainGlobals mg → FnOk l.prog w K mg base CX0 8 fa fd ["_law_script"] (spLaw K) := by
  have e := hfa.symm.trans (PySem.W.mg_of XK G a34)
  cases e
  have FIn := fun_mk (st := sIsName) l1 c1 k1
  have gIn := PySem.W.mg_of XK G a1
  have bIn := FIn.binds (ps := ["thing"]) fun _ _ _ _ _ _ us hl => match us, hl with | [_], _ => rfl
  have FBo := fun_mk (st := sBoth) l2 c2 k2
  have gBo := PySem.W.mg_of XK G a2
  have bBo := FBo.binds (ps := ["friends"]) fun _ _ _ _ _ _ us hl => match us, hl with | [_], _ => rfl
  have FL := fun_mk (st := sLfp) l3 c3 k3
  have gL := PySem.W.mg_of XK G a3
  have bL := FL.binds (ps := ["known", "row", "who"]) fun _ _ _ _ _ _ us hl => match us, hl with | [_, _, _], _ => rfl
  have FHp := fun_mk (st := sHostP) l4 c4 k4
  have gHp := PySem.W.mg_of XK G a4
  have bHp := FHp.binds (ps := ["known", "row", "who"]) fun _ _ _ _ _ _ us hl => match us, hl with | [_, _, _], _ => rfl
  have FCp := fun_mk (st := sComingP) l5 c5 k5
  have gCp := PySem.W.mg_of XK G a5
  have bCp := FCp.binds (ps := ["known", "row", "who"]) fun _ _ _ _ _ _ us hl => match us, hl with | [_, _, _], _ => rfl
  have FSn := fun_mk (st := sStood) l6 c6 k6
  have gSn := PySem.W.mg_of XK G a6
  have bSn := FSn.binds (ps := ["known", "row", "who"]) fun _ _ _ _ _ _ us hl => match us, hl with | [_, _, _], _ => rfl
  have FLe := fun_mk (st := sLetIn) l7 c7 k7
  have gLe := PySem.W.mg_of XK G a7
  have bLe := FLe.binds (ps := ["friends", "row", "who"]) fun _ _ _ _ _ _ us hl => match us, hl with | [_, _, _], _ => rfl
  have FRo := fun_mk (st := sRowOf) l8 c8 k8
  have gRo := PySem.W.mg_of XK G a8
  have bRo := FRo.binds (ps := ["friends", "order"]) fun _ _ _ _ _ _ us hl => match us, hl with | [_, _], _ => rfl
  have FPb := fun_mk (st := sPutBack) l9 c9 k9
  have gPb := PySem.W.mg_of XK G a9
  have bPb := FPb.binds (ps := ["friends", "order"]) fun _ _ _ _ _ _ us hl => match us, hl with | [_, _], _ => rfl
  have FBw := fun_mk (st := sBarW) l10 c10 k10
  have gBw := PySem.W.mg_of XK G a10
  have bBw := FBw.binds (ps := ["known", "row", "one", "other"]) fun _ _ _ _ _ _ us hl => match us, hl with | [_, _, _, _], _ => rfl
  have FBa := fun_mk (st := sBars) l11 c11 k11
  have gBa := PySem.W.mg_of XK G a11
  have bBa := FBa.binds (ps := ["friends", "row", "one", "other"]) fun _ _ _ _ _ _ us hl => match us, hl with | [_, _, _, _], _ => rfl
  have FLa := fun_mk (st := sLooseAt) l12 c12 k12
  have gLa := PySem.W.mg_of XK G a12
  have bLa := FLa.binds (ps := ["known", "row", "place"]) fun _ _ _ _ _ _ us hl => match us, hl with | [_, _, _], _ => rfl
  have FLi := fun_mk (st := sLooseIn) l13 c13 k13
  have gLi := PySem.W.mg_of XK G a13
  have bLi := FLi.binds (ps := ["friends", "row"]) fun _ _ _ _ _ _ us hl => match us, hl with | [_, _], _ => rfl
  have FHl := fun_mk (st := sHind) l14 c14 k14
  have gHl := PySem.W.mg_of XK G a14
  have bHl := FHl.binds (ps := ["known", "row", "but"]) fun _ _ _ _ _ _ us hl => match us, hl with | [_, _, _], _ => rfl
  have FGs := fun_mk (st := sStayed) l15 c15 k15
  have gGs := PySem.W.mg_of XK G a15
  have bGs := FGs.binds (ps := ["known", "row", "but"]) fun _ _ _ _ _ _ us hl => match us, hl with | [_, _, _], _ => rfl
  have FGl := fun_mk (st := sGone) l16 c16 k16
  have gGl := PySem.W.mg_of XK G a16
  have bGl := FGl.binds (ps := ["friends", "row", "but"]) fun _ _ _ _ _ _ us hl => match us, hl with | [_, _, _], _ => rfl
  have gLo := PySem.W.mg_of XK G a17
  have FLk := fun_mk (st := sIsLink) l18 c18 k18
  have gLk := PySem.W.mg_of XK G a18
  have bLk := FLk.binds (ps := ["thing"]) fun _ _ _ _ _ _ us hl => match us, hl with | [_], _ => rfl
  have FAl := fun_mk (st := sAreLinks) l19 c19 k19
  have gAl := PySem.W.mg_of XK G a19
  have bAl := FAl.binds (ps := ["thing"]) fun _ _ _ _ _ _ us hl => match us, hl with | [_], _ => rfl
  have FEb := fun_mk (st := sEachB) l20 c20 k20
  have gEb := PySem.W.mg_of XK G a20
  have bEb := FEb.binds (ps := ["friends", "row", "links", "last"]) fun _ _ _ _ _ _ us hl => match us, hl with | [_, _, _, _], _ => rfl
  have FSr := fun_mk (st := sShowsR) l21 c21 k21
  have gSr := PySem.W.mg_of XK G a21
  have bSr := FSr.binds (ps := ["friends", "row", "thing"]) fun _ _ _ _ _ _ us hl => match us, hl with | [_, _, _], _ => rfl
  have FNb := fun_mk (st := sNextB) l22 c22 k22
  have gNb := PySem.W.mg_of XK G a22
  have bNb := FNb.binds (ps := ["known", "row", "who", "left"]) fun _ _ _ _ _ _ us hl => match us, hl with | [_, _, _, _], _ => rfl
  have FRa := fun_mk (st := sRingA) l23 c23 k23
  have gRa := PySem.W.mg_of XK G a23
  have bRa := FRa.binds (ps := ["friends", "row", "left"]) fun _ _ _ _ _ _ us hl => match us, hl with | [_, _, _], _ => rfl
  have FOo := fun_mk (st := sOrderOf) l24 c24 k24
  have gOo := PySem.W.mg_of XK G a24
  have bOo := FOo.binds (ps := ["friends", "row"]) fun _ _ _ _ _ _ us hl => match us, hl with | [_, _], _ => rfl
  have FX := fun_mk (st := sBox) l25 c25 k25
  have gX := PySem.W.mg_of XK G a25
  have bX := FX.binds (ps := ["_law_cells_here", "_law_k"]) fun _ _ _ _ _ _ us hl => match us, hl with | [_, _], _ => rfl
  have FT := fun_mk (st := sTake) l26 c26 k26
  have gT := PySem.W.mg_of XK G a26
  have bT := FT.binds (ps := ["_law_box_here", "_law_many"]) fun _ _ _ _ _ _ us hl => match us, hl with | [_, _], _ => rfl
  have FC := fun_mk (st := sCells) l27 c27 k27
  have gC := PySem.W.mg_of XK G a27
  have bC := FC.binds (ps := ["_law_script", "_law_utmost"]) fun _ _ _ _ _ _ us hl => match us, hl with | [_, _], _ => rfl
  have FN := fun_mk (st := sNames) l28 c28 k28
  have gN := PySem.W.mg_of XK G a28
  have bN := FN.binds (ps := ["_law_box_here", "_law_many"]) fun _ _ _ _ _ _ us hl => match us, hl with | [_, _], _ => rfl
  have FSa := fun_mk (st := sSame) l29 c29 k29
  have gSa := PySem.W.mg_of XK G a29
  have bSa := FSa.binds (ps := ["_law_found", "_law_due"]) fun _ _ _ _ _ _ us hl => match us, hl with | [_, _], _ => rfl
  have FPrs := fun_mk (st := sPrs) l30 c30 k30
  have gPrs := PySem.W.mg_of XK G a30
  have bPrs := FPrs.binds (ps := ["_law_some"]) fun _ _ _ _ _ _ us hl => match us, hl with | [_], _ => rfl
  have FThr := fun_mk (st := sThr) l31 c31 k31
  have gThr := PySem.W.mg_of XK G a31
  have bThr := FThr.binds (ps := ["_law_a", "_law_b", "_law_c"]) fun _ _ _ _ _ _ us hl => match us, hl with | [_, _, _], _ => rfl
  have FAllR := fun_mk (st := sAllR) l32 c32 k32
  have gAllR := PySem.W.mg_of XK G a32
  have bAllR := FAllR.binds (ps := ["_law_pool"]) fun _ _ _ _ _ _ us hl => match us, hl with | [_], _ => rfl
  have FRoad := fun_mk (st := sRoad) l33 c33 k33
  have gRoad := PySem.W.mg_of XK G a33
  have bRoad := FRoad.binds (ps := ["_law_pool"]) fun _ _ _ _ _ _ us hl => match us, hl with | [_], _ => rfl
  have FLaw := fun_mk (st := sLaw) l34 c34 k34
  have gLaw := PySem.W.mg_of XK G a34
  have bLaw := FLaw.binds (ps := ["_law_script"]) fun _ _ _ _ _ _ us hl => match us, hl with | [_], _ => rfl
  have B : Blt mg := ⟨PySem.W.mg_none_of XK G z1, PySem.W.mg_none_of XK G z2, PySem.W.mg_none_of XK G z3, PySem.W.mg_none_of XK G z4, PySem.W.mg_none_of XK G z5, PySem.W.mg_none_of XK G z6, PySem.W.mg_none_of XK G z7, PySem.W.mg_none_of XK G z8, PySem.W.mg_none_of XK G z9, PySem.W.mg_none_of XK G z10, PySem.W.mg_none_of XK G z11, PySem.W.mg_none_of XK G z12, PySem.W.mg_none_of XK G z13, PySem.W.mg_none_of XK G z14, PySem.W.mg_none_of XK G z15, PySem.W.mg_none_of XK G z16, PySem.W.mg_none_of XK G z17, PySem.W.mg_none_of XK G z18, PySem.W.mg_none_of XK G z19, PySem.W.mg_none_of XK G z20, PySem.W.mg_none_of XK G z21⟩
  have hLONGEST_NAME : ∃ u, mg "LONGEST_NAME" = some u ∧ RelV (.int 8) u := ⟨_, PySem.W.mg_of XK G q1, ⟨_, rfl⟩⟩
  refine ⟨PySem.W.fnOf "law" "law" (defArgs sLaw) (defBody sLaw) (defScope sLaw) .none kV34 dc34 pm34 an34 cd34 ct34, fun s v => .of_eq rfl, fun base _ _ => ?_⟩
  have cIn : Cal l.prog w K mg base 1 "is_name" _ spIsName := ⟨_, _, ok_isName B hLONGEST_NAME FIn, gIn, FIn.kp, bIn⟩
  have cBo : Cal l.prog w K mg base 1 "both_ways" _ spBoth := ⟨_, _, ok_both FBo, gBo, FBo.kp, bBo⟩
  have cL : Cal l.prog w K mg base 1 "last_friend_place" _ spLfp := ⟨_, _, ok_lfp B FL, gL, FL.kp, bL⟩
  have cHp : Cal l.prog w K mg base 2 "host_place" _ spHostP := ⟨_, _, ok_hostP cL FHp, gHp, FHp.kp, bHp⟩
  have cCp : Cal l.prog w K mg base 3 "coming_place" _ spComingP := ⟨_, _, ok_comingP B cHp FCp, gCp, FCp.kp, bCp⟩
  have cSn : Cal l.prog w K mg base 4 "stood_in" _ spStood := ⟨_, _, ok_stood B cCp FSn, gSn, FSn.kp, bSn⟩
  have cLe : Cal l.prog w K mg base 5 "let_in" _ spLetIn := ⟨_, _, ok_letIn cBo cSn FLe, gLe, FLe.kp, bLe⟩
  have cRo : Cal l.prog w K mg base 5 "row_of" _ spRowOf := ⟨_, _, ok_rowOf cBo cSn FRo, gRo, FRo.kp, bRo⟩
  have cPb : Cal l.prog w K mg base 6 "put_back" _ spPutBack := ⟨_, _, ok_putBack B cRo FPb, gPb, FPb.kp, bPb⟩
  have cBw : Cal l.prog w K mg base 2 "bar_words" _ spBarW := ⟨_, _, ok_barW cL FBw, gBw, FBw.kp, bBw⟩
  have cBa : Cal l.prog w K mg base 3 "bars" _ spBars := ⟨_, _, ok_bars cBo cBw FBa, gBa, FBa.kp, bBa⟩
  have cLa : Cal l.prog w K mg base 2 "loose_at" _ spLooseAt := ⟨_, _, ok_looseAt B cL FLa, gLa, FLa.kp, bLa⟩
  have cLi : Cal l.prog w K mg base 3 "loose_in" _ spLooseIn := ⟨_, _, ok_looseIn B cBo cLa FLi, gLi, FLi.kp, bLi⟩
  have cHl : Cal l.prog w K mg base 3 "hindmost_loose" _ (spHind K) := ⟨_, _, ok_hind B cLa FHl, gHl, FHl.kp, bHl⟩
  have cGs : Cal l.prog w K mg base 4 "gone_and_stayed" _ (spStayed K) := ⟨_, _, ok_stayed B cHl FGs, gGs, FGs.kp, bGs⟩
  have cGl : Cal l.prog w K mg base 5 "gone_and_left" _ (spGone K) := ⟨_, _, ok_gone cBo cGs FGl, gGl, FGl.kp, bGl⟩
  have cLo := cal_left_over (P := l.prog) (w := w) (mg := mg) (base := base) l17 c17 k17 n17 e17 gLo cGl
  have cLk : Cal l.prog w K mg base 2 "is_link" _ spIsLink := ⟨_, _, ok_isLink B cIn FLk, gLk, FLk.kp, bLk⟩
  have cAl : Cal l.prog w K mg base 3 "are_links" _ spAreLinks := ⟨_, _, ok_areLinks B cLk FAl, gAl, FAl.kp, bAl⟩
  have cEb : Cal l.prog w K mg base 3 "each_bars_the_next" _ spEachBD := ⟨_, _, ok_eachBD B cBo cBw FEb, gEb, FEb.kp, bEb⟩
  have cSr : Cal l.prog w K mg base 4 "shows_ring" _ spShowsRD := ⟨_, _, ok_showsRD B cAl cEb FSr, gSr, FSr.kp, bSr⟩
  have cNb : Cal l.prog w K mg base 3 "next_barred" _ spNextB := ⟨_, _, ok_nextB cBw FNb, gNb, FNb.kp, bNb⟩
  have cRa : Cal l.prog w K mg base 4 "ring_among" _ spRingA := ⟨_, _, ok_ringA B cBo cNb FRa, gRa, FRa.kp, bRa⟩
  have cOo : Cal l.prog w K mg base 6 "order_of" _ spOrderOf := ⟨_, _, ok_orderOf cGl cRa FOo, gOo, FOo.kp, bOo⟩
  have cX : Cal l.prog w K mg base 1 "_law_box" _ spBox := ⟨_, _, ok_box B FX, gX, FX.kp, bX⟩
  have cT : Cal l.prog w K mg base 1 "_law_take" _ spTake := ⟨_, _, ok_take FT, gT, FT.kp, bT⟩
  have cC : Cal l.prog w K mg base 1 "_law_cells" _ (spCells K) := ⟨_, _, ok_cells B FC, gC, FC.kp, bC⟩
  have cN : Cal l.prog w K mg base 2 "_law_names" _ spNames := ⟨_, _, ok_names B cT FN, gN, FN.kp, bN⟩
  have cSa : Cal l.prog w K mg base 5 "_law_same" _ (spSame 5) := ⟨_, _, ok_same B FSa gSa bSa 5, gSa, FSa.kp, bSa⟩
  have cPrs : Cal l.prog w K mg base 1 "_law_pairs" _ spPrs := ⟨_, _, ok_prs B FPrs, gPrs, FPrs.kp, bPrs⟩
  have cThr : Cal l.prog w K mg base 7 "_law_three_right" _ spThr := ⟨_, _, ok_thr B cPrs cSa cBa cLo cLi cOo cRo cSr FThr, gThr, FThr.kp, bThr⟩
  have cAllR : Cal l.prog w K mg base 7 "_law_all_right" _ spPool9 := ⟨_, _, ok_allR B cPrs cSa cLo cLi cOo cPb cRo FAllR, gAllR, FAllR.kp, bAllR⟩
  have cRoad : Cal l.prog w K mg base 6 "_law_road_right" _ spPool9 := ⟨_, _, ok_road B cPrs cSa cLe cRo FRoad, gRoad, FRoad.kp, bRoad⟩
  exact ok_law12 B cC cX cT cN cThr cAllR cRoad FLaw
end Lk
open PySem PySem.W PyProof.Rows
set_option maxRecDepth 100000 in
set_option maxHeartbeats 0 in
theorem PySem.Challenge.cw_letinrow_k12_known_rows_holds : PySem.Challenge.rw_letinrow_k12_known_rows.Holds := by
  w_on; o_law; k_head; (case hw => w_witness2)
  k_fill
  refine Lk.walk_law (l := PySem.Challenge.rw_letinrow_k12_known_rows) (n := 63) (k := 8) (x := "_law_script") (sp := fun w => Lk.spLaw _) rfl (by decide) rfl ⟨rfl, by decide, by decide⟩ (fun w h Y => PySem.W.kIn_of Y) ?F (fun _ _ a ns hl hS => ⟨a, ns, rfl, hS, hl, fun _ => rfl⟩)
  case F =>
    intro w mg fa h KX G hmg
    refine' Lk.all_mk KX G hmg ?a1 ?l1 ?c1 ?k1 ?a2 ?l2 ?c2 ?k2 ?a3 ?l3 ?c3 ?k3 ?a4 ?l4 ?c4 ?k4 ?a5 ?l5 ?c5 ?k5 ?a6 ?l6 ?c6 ?k6 ?a7 ?l7 ?c7 ?k7 ?a8 ?l8 ?c8 ?k8 ?a9 ?l9 ?c9 ?k9 ?a10 ?l10 ?c10 ?k10 ?a11 ?l11 ?c11 ?k11 ?a12 ?l12 ?c12 ?k12 ?a13 ?l13 ?c13 ?k13 ?a14 ?l14 ?c14 ?k14 ?a15 ?l15 ?c15 ?k15 ?a16 ?l16 ?c16 ?k16 ?a17 ?l17 ?c17 ?k17 ?n17 ?e17 ?a18 ?l18 ?c18 ?k18 ?a19 ?l19 ?c19 ?k19 ?a20 ?l20 ?c20 ?k20 ?a21 ?l21 ?c21 ?k21 ?a22 ?l22 ?c22 ?k22 ?a23 ?l23 ?c23 ?k23 ?a24 ?l24 ?c24 ?k24 ?a25 ?l25 ?c25 ?k25 ?a26 ?l26 ?c26 ?k26 ?a27 ?l27 ?c27 ?k27 ?a28 ?l28 ?c28 ?k28 ?a29 ?l29 ?c29 ?k29 ?a30 ?l30 ?c30 ?k30 ?a31 ?l31 ?c31 ?k31 ?a32 ?l32 ?c32 ?k32 ?a33 ?l33 ?c33 ?k33 ?a34 ?l34 ?c34 ?k34 ?q1 ?z1 ?z2 ?z3 ?z4 ?z5 ?z6 ?z7 ?z8 ?z9 ?z10 ?z11 ?z12 ?z13 ?z14 ?z15 ?z16 ?z17 ?z18 ?z19 ?z20 ?z21
    (case a1 => k_is); (case l1 => k_is); (case c1 => k_is); (case k1 => k_is)
    (case a2 => k_is); (case l2 => k_is); (case c2 => k_is); (case k2 => k_is)
    (case a3 => k_is); (case l3 => k_is); (case c3 => k_is); (case k3 => k_is)
    (case a4 => k_is); (case l4 => k_is); (case c4 => k_is); (case k4 => k_is)
    (case a5 => k_is); (case l5 => k_is); (case c5 => k_is); (case k5 => k_is)
    (case a6 => k_is); (case l6 => k_is); (case c6 => k_is); (case k6 => k_is)
    (case a7 => k_is); (case l7 => k_is); (case c7 => k_is); (case k7 => k_is)
    (case a8 => k_is); (case l8 => k_is); (case c8 => k_is); (case k8 => k_is)
    (case a9 => k_is); (case l9 => k_is); (case c9 => k_is); (case k9 => k_is)
    (case a10 => k_is); (case l10 => k_is); (case c10 => k_is); (case k10 => k_is)
    (case a11 => k_is); (case l11 => k_is); (case c11 => k_is); (case k11 => k_is)
    (case a12 => k_is); (case l12 => k_is); (case c12 => k_is); (case k12 => k_is)
    (case a13 => k_is); (case l13 => k_is); (case c13 => k_is); (case k13 => k_is)
    (case a14 => k_is); (case l14 => k_is); (case c14 => k_is); (case k14 => k_is)
    (case a15 => k_is); (case l15 => k_is); (case c15 => k_is); (case k15 => k_is)
    (case a16 => k_is); (case l16 => k_is); (case c16 => k_is); (case k16 => k_is)
    (case a17 => k_is); (case l17 => k_is); (case c17 => k_is); (case k17 => k_is)
    (case n17 => k_is); (case e17 => k_is); (case a18 => k_is); (case l18 => k_is)
    (case c18 => k_is); (case k18 => k_is); (case a19 => k_is); (case l19 => k_is)
    (case c19 => k_is); (case k19 => k_is); (case a20 => k_is); (case l20 => k_is)
    (case c20 => k_is); (case k20 => k_is); (case a21 => k_is); (case l21 => k_is)
    (case c21 => k_is); (case k21 => k_is); (case a22 => k_is); (case l22 => k_is)
    (case c22 => k_is); (case k22 => k_is); (case a23 => k_is); (case l23 => k_is)
    (case c23 => k_is); (case k23 => k_is); (case a24 => k_is); (case l24 => k_is)
    (case c24 => k_is); (case k24 => k_is); (case a25 => k_is); (case l25 => k_is)
    (case c25 => k_is); (case k25 => k_is); (case a26 => k_is); (case l26 => k_is)
    (case c26 => k_is); (case k26 => k_is); (case a27 => k_is); (case l27 => k_is)
    (case c27 => k_is); (case k27 => k_is); (case a28 => k_is); (case l28 => k_is)
    (case c28 => k_is); (case k28 => k_is); (case a29 => k_is); (case l29 => k_is)
    (case c29 => k_is); (case k29 => k_is); (case a30 => k_is); (case l30 => k_is)
    (case c30 => k_is); (case k30 => k_is); (case a31 => k_is); (case l31 => k_is)
    (case c31 => k_is); (case k31 => k_is); (case a32 => k_is); (case l32 => k_is)
    (case c32 => k_is); (case k32 => k_is); (case a33 => k_is); (case l33 => k_is)
    (case c33 => k_is); (case k33 => k_is); (case a34 => k_is); (case l34 => k_is)
    (case c34 => k_is); (case k34 => k_is); (case q1 => k_is); (case z1 => k_is)
    (case z2 => k_is); (case z3 => k_is); (case z4 => k_is); (case z5 => k_is)
    (case z6 => k_is); (case z7 => k_is); (case z8 => k_is); (case z9 => k_is)
    (case z10 => k_is); (case z11 => k_is); (case z12 => k_is); (case z13 => k_is)
    (case z14 => k_is); (case z15 => k_is); (case z16 => k_is); (case z17 => k_is)
    (case z18 => k_is); (case z19 => k_is); (case z20 => k_is); (case z21 => k_is)
