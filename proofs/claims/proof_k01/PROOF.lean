import PyProof.Rows.All
import Wide.All
import OpenK.AllK
import Wide.FinOn
import HandS.ForMost
import HandS.Walk
import HandS.Deep
import HandS.Zip
import HandS.TupAny
import HandS.IsInst
import HandS.Strs
import HandS.More
import HandS.Flow
import HandS.Style
import HandS.NoneIn
import KE.SortData
import KE.GoesEnum
import KE.GoesMore
import HandS.Defaults
import HandS.WordsExc
import HandS.DictComp
import HandS.Iter
import HandS.MakeKwOnly
import HandS.TupMul
import PyProof.ReprLen
import HandS.ExcInit
import HandS.ExcOwn
import HandS.TryOnly
import HandS.FStr
import HandS.ExcIs
import HandS.ExcField
import KE.KExcInit
import KE.KTryMore
import HandS.Text
import PyProof.StrLawsChain
import PyProof.StrLawsTight
import PyProof.Rows.StrItems
import KE.LtSeq
import HandS.TupSets
import KE.KDictZip
import PyProof.EnumMake
import HandS.Steps
import HandS.Small
import PyProof.TupleOfSeq
import KE.OsArith
import PyProof.ListRange
import HandS.RaiseMore
import PyProof.RangeFor
import HandS.StrMore
import PyProof.Rows.IntBool
import PySem.Challenge.RW_letinrow_k01_friends_and_rows_or_not
set_option Elab.async false
set_option linter.all false
set_option maxRecDepth 100000
set_option maxHeartbeats 2000000
namespace Lk
open PySem PySem.Spec PyProof.Rows L2

/-! ### either of two rules -/
section
variable {X : Cx}
end

/-! ### what is known in between -/
section
variable {X : Cx}
def tMid (t : TE) : TE := fun σ H Q => ∃ M : V → Hp → Prop, t σ H M ∧ ∀ v H', M v H' → Q v H'
theorem pe_mid {e : Expr} {t : TE} (h : PE X e t) : PE X e (tMid t) :=
  ⟨fun pins s σ H Q I ⟨M, h1, h2⟩ => thn (h.run pins s σ H M I h1) fun u s1 ⟨v, H1, I1, r, q⟩ => ⟨v, H1, I1, r, h2 v H1 q⟩⟩
def tMidT (t : TT) : TT := fun σ H Q => ∃ M : Bool → Hp → Prop, t σ H M ∧ ∀ v H', M v H' → Q v H'
theorem pt_mid {e : Expr} {t : TT} (h : PT X e t) : PT X e (tMidT t) :=
  ⟨fun pins s σ H Q I ⟨M, h1, h2⟩ => thn (h.run pins s σ H M I h1) fun u s1 ⟨H1, I1, q⟩ => ⟨H1, I1, h2 u H1 q⟩⟩
def tMidS (t : TS) : TS := fun D σ H => ∃ M : L2.St → Hp → Prop, t { D with nx := M } σ H ∧ ∀ σ' H', M σ' H' → D.nx σ' H'
theorem ps_mid {st : Stmt} {t : TS} (h : PS X st t) : PS X st (tMidS t) := by
  refine ⟨fun pins s σ H D I ⟨M, h1, h2⟩ => thn (h.run pins s σ H { D with nx := M } I h1) fun fl s1 q => ?_⟩
  cases fl with
  | next =>
    obtain ⟨σ', H', I', q'⟩ := q
    exact ⟨σ', H', I', h2 σ' H' q'⟩
  | brk => exact q
  | cont => exact q
  | ret u => exact q
end

/-! ### in, over a tuple of data -/
section
variable {X : Cx}
end

/-! ### room, where nobody writes a text of a thing around us -/
structure Room (k : Nat) (A : Around) : Prop where
  rm : L2.Room k A
  gd : A.guards = some []
theorem Room.mono {j k : Nat} {A : Around} (z : Room k A) (h : j ≤ k) : Room j A := ⟨z.rm.mono h, z.gd⟩
theorem Room.units {k : Nat} {A : Around} (z : Room k A) : A.units + 64 < cLine := z.rm.units
theorem Room.un {k : Nat} {A : Around} (z : Room k A) : A.units + 16 * k + 200 < cLine := z.rm.un
theorem Room.hd {k : Nat} {A : Around} (z : Room k A) : A.handled = none := z.rm.hd
theorem hu_of {A : Around} {k : Nat} (z : Room k A) : A.units + 1 < cLine := L2.hu_of z.rm
/-- a def's promise, asked for only there -/
structure FnOk (P : Program) (w : World) (K : PySem.W.Frag) (mg : Str → Option Value) (base : Heap) (CX : CXT) (k : Nat) (f : Addr) (fd : FuncData) (ps : List Str) (sp : Sp) : Prop where
  len : ∀ vs H Q E, sp vs H Q E → vs.length = ps.length
  run : ∀ (A : Around) (out : List Env) (s : Shared) (H : Hp) (ar : Args) (us : List Value) (vs : List V) (Q : VK) (E : XK), Room k A → Env0 P w K mg base A out s H → BindsTo s fd ar (ps.zip us) → Vals vs us → sp vs H Q E →
    codeAny (model P w) A (.call (.ref f) ar) (CR CX out P w H s Q E) s
section
variable {P : Program} {w : World} {K : PySem.W.Frag} {mg : Str → Option Value} {base : Heap} {CX : CXT} {k : Nat} {f : Addr} {fd : FuncData} {N ps : List Str} {sp : Sp}
theorem FnOk.mono {j : Nat} (F : FnOk P w K mg base CX j f fd ps sp) (h : j ≤ k) : FnOk P w K mg base CX k f fd ps sp := ⟨F.len, fun A out s H ar us vs Q E z => F.run A out s H ar us vs Q E (z.mono h)⟩
theorem FnOk.imp {sq : Sp} (F : FnOk P w K mg base CX k f fd ps sp) (h : ∀ vs H Q E, sq vs H Q E → sp vs H Q E) : FnOk P w K mg base CX k f fd ps sq :=
  ⟨fun vs H Q E z => F.len vs H Q E (h _ _ _ _ z), fun A out s H ar us vs Q E z e b v m => F.run A out s H ar us vs Q E z e b v (h _ _ _ _ m)⟩
/-- its body, by rules -/
theorem fok_of {name qual : Str} {params : Arguments} {body : List Stmt} {scope : Scope} {dV kV doc pm cdv ct oc : Value} {an od : Option Addr} {osl : Array (Option Value)}
    (lk : K.lookup f = some ⟨oc, od, .func (PySem.W.fnOf name qual params body scope dV kV doc pm an cdv ct), osl⟩) (hc : PySem.W.codeIn K cdv qual = true) (S : FnScope N ps scope) (hn : ∀ vs H Q E, sp vs H Q E → vs.length = ps.length)
    (hb : ∀ (A : Around) (out : List Env) (s : Shared) (H : Hp) (vs : List V) (Q : VK) (E : XK), Room k (A.deeper (envOfC qual scope s.heap.objs.size f cdv)) → sp vs H Q E →
      ∃ t, PSs (cxOf CX P w K mg base N qual scope f cdv A out s H E) body t ∧ t { nx := fun _ G => Q .non G, rt := Q } (start N vs) H) :
    FnOk P w K mg base CX (k + 1) f (PySem.W.fnOf name qual params body scope dV kV doc pm an cdv ct) ps sp := by
  refine ⟨hn, fun A out s H ar us vs Q E z e0 bd rv hs => ?_⟩
  have kin : K.In s.heap := e0.mod.kin.keeps fun c u q => (e0.bs c u q).1
  have nol : s.heap.NoLimit := e0.mod.nolimit.keeps fun c u q => (e0.bs c u q).1
  have kinds : ∀ y ∈ ps.zip us, scope.names.lookup y.1 = some .local ∨ (scope.names.lookup y.1 = some .cell ∧ ((cellsFrom (s.heap.objs.size + 1) scope.names []).lookup y.1).isSome = true) := by
    rintro ⟨n, v⟩ hy
    rcases S.par n (List.of_mem_zip hy).1 with c | c
    · exact .inl c
    · exact .inr ⟨c, PySem.W.cellsFrom_some _ _ _ (.inl c)⟩
  refine codeAny_call_function z.rm.depth (kin _ _ lk) rfl S.co S.gen rfl (PySem.W.codeRec_of kin hc) (bd _ _ _ _ ?_)
  refine wpAny_newFunctionEnv_cells S.kind kinds ?_
  rintro env rfl s1 ic
  refine ⟨nol.keeps ic.toInCall.keep, codeAny_func ?_⟩
  obtain ⟨t, pt, qt⟩ := hb A out s H vs Q E ⟨z.rm.deeper _, z.gd⟩ hs
  have I : Inv (cxOf CX P w K mg base N qual scope f cdv A out s H E) [] (start N vs) H s1 := inv_start S z.rm.hd e0 (hn _ _ _ _ hs) rv ic
  refine wpAny_mono (pt.run [] s1 (start N vs) H _ I qt) (fun fl s2 ends => ?_) fun _ _ h => h
  cases fl with
  | brk => exact (let ⟨_, _, _, no⟩ := ends; no : False).elim
  | cont => exact (let ⟨_, _, _, no⟩ := ends; no : False).elim
  | next =>
    obtain ⟨σ1, H1, J, w1⟩ := ends
    exact ⟨.non, H1, J.os, J.bare, J.base, J.hok, rfl, w1⟩
  | ret u =>
    obtain ⟨v, σ1, H1, J, ru, w1⟩ := ends
    exact ⟨v, H1, J.os, J.bare, J.base, J.hok, ru, w1⟩
theorem fok {x qual : Str} {st : Stmt} (F : Fun K x qual st f fd) (S : FnScope N ps (defScope st)) (hn : ∀ vs H Q E, sp vs H Q E → vs.length = ps.length)
    (hb : ∀ (cdv : Value) (A : Around) (out : List Env) (s : Shared) (H : Hp) (vs : List V) (Q : VK) (E : XK), Room k (A.deeper (envOfC qual (defScope st) s.heap.objs.size f cdv)) → sp vs H Q E →
      ∃ t, PSs (cxOf CX0 P w K mg base N qual (defScope st) f cdv A out s H E).nox (defBody st) t ∧ t { nx := fun _ G => Q .non G, rt := Q } (start N vs) H) : FnOk P w K mg base CX0 (k + 1) f fd ps sp := by
  obtain ⟨oc, od, kV, doc, pm, an, cd, ct, sl, rfl, lk, hc⟩ := F.ex
  exact fok_of lk hc S hn fun A out s H vs Q E z hs => let ⟨t, a, b⟩ := hb cd A out s H vs Q E z hs; ⟨t, a.nox, b⟩
end
section
variable {X : Cx} {CX : CXT} {k : Nat} {f : Addr} {fd : FuncData} {ps ks : List Str} {sp : Sp} {E : XK} {g : List Value → List Value → List Value} {gV : List V → List V → List V}
theorem fn_ran {pins : List (Addr × Obj)} {σ : L2.St} {H : Hp} {s : Shared} {Q : VK} {ar : Args} {us : List Value} {vs : List V} (F : FnOk X.prog X.w X.K X.mg X.base CX k f fd ps sp) (z : Room k X.A) (hx : Passes CX X E)
    (I : Inv X pins σ H s) (bd : BindsTo s fd ar (ps.zip us)) (rv : Vals vs us) (h : sp vs H Q E) : wpAny (model X.prog X.w) X.A (call (.ref f) ar.pos ar.kw) (EP X pins σ Q) X.xe s := by
  refine wpAny_call (codeAny_mono (F.run X.A X.stack s H ar us vs Q E z I.env0 bd rv h) ?_)
  rintro (e | fl) s2 ends
  · exact hx pins σ H s e s2 I ends
  cases fl with
  | ret u => exact I.after ends
  | next => exact (ends : False).elim
  | brk => exact (ends : False).elim
  | cont => exact (ends : False).elim
end
/-! ### calls -/
section
variable {X : Cx} {CX : CXT} {k n : Nat} {f : Addr} {fd : FuncData} {ps ks : List Str} {sp : Sp} {E : XK} {x : Str} {p pos : Pos} {kws : List Keyword} {tk t : TA} {g : List Value → List Value → List Value} {gV : List V → List V → List V}
  {e : Expr} {es : List Expr} {dvs : List V} {ds : List Value}
theorem pe_call (F : FnOk X.prog X.w X.K X.mg X.base CX k f fd ps sp) (z : Room k X.A) (gl : Gl X x) (hm : X.mg x = some (.ref f)) (kp : PySem.W.keepIn X.K (.ref f) = true) (hb : Binds X.K fd ps ds) (hd : Vals dvs ds) (hx : Passes CX X E)
    (ha : PA X (e :: es) t) (hdb : (x == ("__debug__" : Str)) = false := by decide)
    (he : starEach (e :: es) X.env = (false, eval e X.env) :: starEach es X.env := by rfl) (hpl : (backTo pos (starEach es X.env)).any (·.1) = false := by rfl) :
    PE X (.Call (.Name x p) (e :: es) [] pos) (tCall sp dvs E t) := by
  constructor
  intro pins s σ H Q I h
  refine wpAny_Call_Name_kw (ld_glob I gl hm (PySem.W.callWith_K (h₀ := X.base) I.ok.mod.kin kp (thn (ha.run pos pins s σ H _ I h) ?_) he hpl) hdb)
  rintro us s1 ⟨vs, H1, I1, rv, q⟩
  have r2 : Vals (vs ++ dvs) (us ++ ds) := rv.append hd
  exact ⟨I1.kIn, fn_ran (ar := ⟨us, []⟩) F z hx I1 (hb s1 us I1.kIn (r2.length.symm.trans (F.len _ _ _ _ q))) r2 q⟩
theorem pe_callK0 (F : FnOk X.prog X.w X.K X.mg X.base CX k f fd ps sp) (z : Room k X.A) (gl : Gl X x) (hm : X.mg x = some (.ref f)) (kp : PySem.W.keepIn X.K (.ref f) = true) (hb : KBinds X.K fd ps ks g gV) (hx : Passes CX X E)
    (hkw : PK X kws tk) (hall : (backToKw pos (keywordEach kws X.env)).all (·.1.isSome) = true := by rfl) (hks : (backToKw pos (keywordEach kws X.env)).filterMap (·.1) = ks := by rfl)
    (hdb : (x == ("__debug__" : Str)) = false := by decide)
    (hpl : ((backTo pos (starEach [] X.env)).any (·.1) || (backToKw pos (keywordEach kws X.env)).any (·.1.isNone)) = false := by rfl) :
    PE X (.Call (.Name x p) [] kws pos) (tCallK sp gV E tNil tk) := by
  refine ⟨fun pins s σ H Q I h => ?_⟩
  refine wpAny_Call_Name_kw (ld_glob I gl hm (PySem.W.callWith_KW0 (h₀ := X.base) I.ok.mod.kin kp hall ?_ hpl) hdb)
  refine thn (hkw.run pos pins s σ H _ I h) fun ws s2 ⟨zs, H2, I2, rz, q2⟩ => ⟨I2.kIn, ?_⟩
  rw [hks]
  have r2 := hb.rel (vs := []) (us := []) .nil rz
  exact fn_ran (ar := ⟨[], ks.zip ws⟩) F z hx I2 (hb.to s2 [] ws I2.kIn (r2.length.symm.trans (F.len _ _ _ _ q2))) r2 q2
end

/-! ### the head of a law -/
theorem law_ran {P : Program} {w : World} {K : PySem.W.Frag} {mg mb : Str → Option Value} {k : Nat} {fa a : Addr} {fd : FuncData} {x : Str} {sp : Sp} {s : Shared} {vs : List Value} {ns : List Int}
    (kin : K.In s.heap) (ng : s.heap.Ns mainGlobals mg) (nb : s.heap.Ns builtinsNs mb) (bb : ∀ y : Str, y ≠ "__name__" → mb y = bootBuiltins y) (nol : s.heap.NoLimit) (ge : s.gens = #[])
    (ha : s.heap.get? a = some { cls := .type "list", data := .seq vs.toArray }) (hi : IntsAre vs ns) (hl : ns.length ≤ sizeLine) (z : Room k callerA)
    (F : ∀ base : Heap, K.In base → base.Ns mainGlobals mg → FnOk P w K mg base CX0 k fa fd [x] sp) (bd : ∀ (c : Shared) (u : Value), BindsTo c fd ⟨[u], []⟩ [(x, u)])
    (hsp : ∀ H : Hp, SqL K H a (ns.map V.int) → sp [.ref a] H (fun v _ => v = .bl true) fun _ _ _ => False) :
    codeAny (model P w) callerA (.call (.ref fa) ⟨[.ref a], []⟩) (fun r c => r = .ok (.ret (.bool true)) ∧ OldK s.heap c.heap ∧ c.os = s.os ∧ AllBare c.gens) s := by
  have rv : Vals (ns.map V.int) vs := vals_ints hi
  have main : ∀ H : Hp, Only H → (∀ b, H b ≠ none → b = a ∧ K.lookup a = none) → SqL K H a (ns.map V.int) → HOk P w H s.heap →
      codeAny (model P w) callerA (.call (.ref fa) ⟨[.ref a], []⟩) (fun r c => r = .ok (.ret (.bool true)) ∧ OldK s.heap c.heap ∧ c.os = s.os ∧ AllBare c.gens) s := by
    intro H on at_ sq ok
    have off : ∀ {b : Addr}, b ≠ a → H b = none := fun {b} ne => Classical.byContradiction fun c => ne (at_ b c).1
    have hid : ∀ {b : Addr} {m : Str → Option Value}, s.heap.Ns b m → (hidT s.heap H).Ns b m := by
      rintro b m ⟨o, es, ep, g, d, r⟩
      refine ⟨o, es, ep, hidT_get g (off ?_), d, r⟩
      rintro rfl
      have q := ha.symm.trans g
      cases q
      cases d
    have kb : K.In (hidT s.heap H) := fun b o g => by
      refine hidT_get (kin b o g) (Classical.byContradiction fun c => ?_)
      obtain ⟨eb, no⟩ := at_ b c
      rw [eb, no] at g
      cases g
    have md : Mod K mg (hidT s.heap H) := by
      obtain ⟨mc, n1, n2⟩ := nol
      exact ⟨kb, hid ng, ⟨mb, hid nb, bb⟩, ⟨mc, hid n1, n2⟩⟩
    have e0 : Env0 P w K mg (hidT s.heap H) callerA [] s H :=
      { frames := rfl, mod := md, bs := fun b o g => of_hidT g, bsz := Nat.le_of_eq (hidT_size _ _), funs := trivial, frf := (fun b c => nomatch (show b ∈ ([] : List Addr) from c)), hok := ok, bare := .of_eq ge }
    refine codeAny_mono ((F _ kb (hid ng)).run callerA [] s H ⟨[.ref a], []⟩ [.ref a] [.ref a] _ _ z e0 (bd s (.ref a)) (.cons rfl .nil) (hsp H sq)) ?_
    rintro (er | fl) c ends
    · exact (ends : False).elim
    cases fl with
    | next => exact (ends : False).elim
    | brk => exact (ends : False).elim
    | cont => exact (ends : False).elim
    | ret u =>
      obtain ⟨v, H1, os, bare, un, ok1, ru, q⟩ := ends
      have q1 : v = .bl true := q
      subst q1
      obtain rfl : u = Value.bool true := ru
      refine ⟨rfl, OldK.of_keep ?_, os, bare⟩
      intro b o g
      rcases on b with h0 | ⟨ob, xs, h1⟩
      · exact un.keep b o g h0 (fun c => nomatch (show b ∈ ([] : List Addr) from c)) (fun c => nomatch c)
      · have g2 := (ok1 b _ (un.frzs b ob _ h1)).1
        have g1 := (ok b _ h1).1
        rw [g] at g1
        cases g1
        exact g2
  by_cases no : K.lookup a = none
  · refine main (fun b => if b = a then some (.frz { cls := .type "list", data := .seq vs.toArray } (.lst (ns.map V.int))) else none) ?_ ?_ (.inl (.inr ⟨{ cls := .type "list", data := .seq vs.toArray }, if_pos rfl⟩)) ?_
    · intro b
      by_cases c : b = a
      · exact .inr ⟨_, _, if_pos c⟩
      · exact .inl (if_neg c)
    · intro b q
      by_cases c : b = a
      · exact ⟨c, no⟩
      · exact absurd (if_neg c) q
    · intro b u q
      by_cases c : b = a
      · have q1 := (if_pos c).symm.trans q
        cases q1
        subst c
        exact ⟨ha, by rw [List.length_map]; exact hl, vs, _, rv, ha⟩
      · have q1 := (if_neg c).symm.trans q
        cases q1
  · obtain ⟨o, ho⟩ := Option.ne_none_iff_exists'.mp no
    have g := kin a o ho
    rw [ha] at g
    cases g
    refine main (fun _ => none) (fun _ => .inl rfl) (fun b q => absurd rfl q) (.inr ⟨_, vs.toArray, _, ho, rfl, rfl, rfl, ?_, by simpa using rv⟩) (fun b u q => ?_)
    · rw [List.size_toArray, hi.length]
      exact hl
    · have q' : (none : Option HO) = some u := q
      cases q'
theorem walk_law {l : PySem.W.OpenLaw} {n k : Nat} {q : Program} {loose : List Str} {XP : (Str → Option Value) → Heap → Prop} {YP : World → Heap → Prop} {d : DefRec} {K : Params → PySem.W.Frag} {sp : World → Sp} {x : Str}
    (hn : l.most = some n) (hn2 : n ≤ sizeLine) (hdf : d.params.defaults = []) (z : L2.Room k callerA)
    (hY : ∀ (w : World) (h : Heap), YP w h → (K w.params).In h)
    (F : ∀ (w : World) (mg : Str → Option Value) (fa : Addr) (h : Heap), (K w.params).In h → h.Ns mainGlobals mg → mg d.name = some (.ref fa) →
      ∃ fd : FuncData, (∀ (s : Shared) (u : Value), BindsTo s fd ⟨[u], []⟩ [(x, u)]) ∧ ∀ base : Heap, (K w.params).In base → base.Ns mainGlobals mg → FnOk l.prog w (K w.params) mg base CX0 k fa fd [x] (sp w))
    (hsp : ∀ (w : World) (H : Hp) (a : Addr) (ns : List Int), ns.length ≤ n → SqL (K w.params) H a (ns.map V.int) → sp w [.ref a] H (fun v _ => v = .bl true) fun _ _ _ => False) :
    PySem.W.WalkO q loose XP YP l.row.toRowW d [] (fun f vs => PySem.call f vs) := by
  refine Att.attach_call hn hdf ?_
  intro w s0 s1 mg mb fa o pm cd doc a vs ns G Y _ _ _ hmg ho hi hl hg
  have kin := hY w _ Y
  obtain ⟨fd, bd, ok⟩ := F w mg fa _ kin G.T.g hmg
  exact law_ran kin G.T.g G.T.b G.T.builtins G.T.nolimit hg ho hi (Nat.le_trans hl hn2) ⟨z, rfl⟩ ok bd fun H sq => hsp w H a ns hl sq

/-! ### repr -/
section
variable {X : Cx}
def rRepr (K : PySem.W.Frag) : List V → Hp → VK → Prop := fun xs H Q => ∃ (a : Addr) (d : PyData), xs = [.ref a] ∧ Dp K H (.ref a) d ∧ d.showable = true ∧ d.hasDict = false ∧ d.depth ≤ 60 ∧ d.shown.length ≤ sizeLine ∧ Q (.str d.shown) H
theorem call_repr {k : Nat} (z : Room k X.A) : CallR X (.builtin "repr") (rRepr X.K) := by
  intro pins s σ H xs us Q I r h
  obtain ⟨a, d, rfl, hd, sh, nd, dp, sz, q⟩ := h
  obtain ⟨u, rfl, ru⟩ := vals1 r
  cases ru
  obtain ⟨as, rd⟩ := Dp.reads I d (.ref a) (.ref a) hd rfl
  refine repr_of_reads' rd sh (PyData.noDict_hsm nd) z.gd (by have := z.units; omega) (fun _ _ e => e) (fun h' u tk kp => ?_) sz
  exact ⟨.str d.shown, H, I.kept (t' := tk) kp, ⟨u, rfl⟩, q⟩
end
end Lk
set_option maxRecDepth 100000
set_option maxHeartbeats 4000000
namespace Lk
open PySem PySem.Spec PyProof.Rows L2

/-! ### enumerate(tuple) -/
section
variable {prog : Program} {w : World} {A : Around} {E : Value → Shared → Prop} {s : Shared}
end
/-! ### min, max of two texts -/
def lmin (x y : Str) : Str := if y.cps.toList < x.cps.toList then y else x
def lmax (x y : Str) : Str := if x.cps.toList < y.cps.toList then y else x
theorem cmp_lt_strs {prog : Program} {w : World} {A : Around} {P : Nat → Value → Prop} (val : Nat → Str) (hval : ∀ i v, P i v → ∃ t, v = .str (val i) t) :
    CmpOf prog w A .Lt P (fun i j => decide ((val i).cps.toList < (val j).cps.toList)) := fun i j vi vj s Q E hi hj h => by
  obtain ⟨t, rfl⟩ := hval i vi hi
  obtain ⟨u, rfl⟩ := hval j vj hj
  exact richCompare_gives (op := .Lt) (typeIs_str s _ t) (typeIs_str s _ u) F.slot_str_lt F.entry_str_lt (F.args_str_lt_2 _ _) (gives_str_lt _ _ t u) (fun x => nomatch x) h
theorem cmp_gt_strs {prog : Program} {w : World} {A : Around} {P : Nat → Value → Prop} (val : Nat → Str) (hval : ∀ i v, P i v → ∃ t, v = .str (val i) t) :
    CmpOf prog w A .Gt P (fun i j => decide ((val j).cps.toList < (val i).cps.toList)) := fun i j vi vj s Q E hi hj h => by
  obtain ⟨t, rfl⟩ := hval i vi hi
  obtain ⟨u, rfl⟩ := hval j vj hj
  exact richCompare_gives (op := .Gt) (typeIs_str s _ t) (typeIs_str s _ u) F.slot_str_gt F.entry_str_gt (F.args_str_gt_2 _ _) (gives_str_gt _ _ t u) (fun x => nomatch x) h
def txtAt (x y : Str) (i : Nat) : Str := if i = 0 then x else y
theorem two_at {x y : Str} {t u : Tok} {i : Nat} {v : Value} (h : (#[.str x t, .str y u] : Array Value)[i]? = some v) : ∃ k, v = .str (txtAt x y i) k := by
  match i, h with
  | 0, h => exact ⟨t, (Option.some.inj h).symm⟩
  | 1, h => exact ⟨u, (Option.some.inj h).symm⟩
  | i + 2, h =>
    have q : (#[.str x t, .str y u] : Array Value)[i + 2]? = none := by simp
    rw [q] at h
    cases h
section
variable {prog : Program} {w : World} {A : Around} {E : Value → Shared → Prop} {s : Shared}
theorem min_two_strs {a b : Str} {t u : Tok} {Q : Value → Shared → Prop} (hh : A.handled = none)
    (h : ∀ h' tk k, (∀ c o, s.heap.get? c = some o → h'.get? c = some o) → Q (.str (lmin a b) k) { s with heap := h', toks := tk }) :
    wpAny (model prog w) A (call (.builtin "min") [.str a t, .str b u]) Q E s := by
  have hT : (s.heap.push { cls := .type "tuple", data := .seq #[.str a t, .str b u] }).IsTuple s.heap.objs.size #[.str a t, .str b u] := ⟨_, Heap.get?_push_size _ rfl, rfl, 0, rfl⟩
  refine call_min_two (wpAny_pyIter_tuple hT ?_)
  have hsz : (s.heap.push { cls := .type "tuple", data := .seq #[.str a t, .str b u] }).objs.size = s.heap.objs.size + 1 := Heap.size_push ..
  refine ⟨_, [_, s.heap.objs.size], [_], _, _, _, _, rfl, Walks.tuple (A := A.in1) hh _ s.heap.objs.size (by rw [hsz]; exact Nat.ne_of_lt (Nat.lt_succ_self _)) #[.str a t, .str b u],
    ⟨⟨_, Heap.get?_push_size _ rfl, rfl, rfl⟩, hT.push _⟩, fun c hc => ?_, by simp, cmp_lt_strs (txtAt a b) (fun _ _ => two_at), fun v h' tk hP hk => ?_⟩
  · show c < ((s.heap.push _).push _).objs.size
    rw [Heap.size_push, hsz]
    rcases List.mem_cons.mp hc with rfl | hc
    · rw [hsz]; exact Nat.lt_succ_self _
    · rcases List.mem_cons.mp hc with rfl | hc
      · exact Nat.lt_succ_of_lt (Nat.lt_succ_self _)
      · cases hc
  · have hold : ∀ c o, s.heap.get? c = some o → h'.get? c = some o := fun c o e => by
      refine hk c o (fun hm => ?_) (Heap.get?_push_of_some _ (Heap.get?_push_of_some _ e))
      rcases List.mem_cons.mp hm with e1 | hm
      · have := Heap.lt_size e; rw [e1, hsz] at this; exact Nat.lt_irrefl _ (Nat.lt_of_succ_lt this)
      · cases hm
    have hP' : (#[.str a t, .str b u] : Array Value)[argBest (fun i j => decide ((txtAt a b i).cps.toList < (txtAt a b j).cps.toList)) 1]? = some v := hP
    have hv : ∃ k, v = .str (lmin a b) k := by
      by_cases hba : b.cps.toList < a.cps.toList
      · have e : argBest (fun i j => decide ((txtAt a b i).cps.toList < (txtAt a b j).cps.toList)) 1 = 1 := by simp [argBest, txtAt, hba]
        rw [e] at hP'
        refine ⟨u, ?_⟩
        rw [lmin, if_pos hba]
        exact (Option.some.inj hP').symm
      · have e : argBest (fun i j => decide ((txtAt a b i).cps.toList < (txtAt a b j).cps.toList)) 1 = 0 := by simp [argBest, txtAt, hba]
        rw [e] at hP'
        refine ⟨t, ?_⟩
        rw [lmin, if_neg hba]
        exact (Option.some.inj hP').symm
    obtain ⟨k, rfl⟩ := hv
    exact h h' tk k hold
theorem max_two_strs {a b : Str} {t u : Tok} {Q : Value → Shared → Prop} (hh : A.handled = none)
    (h : ∀ h' tk k, (∀ c o, s.heap.get? c = some o → h'.get? c = some o) → Q (.str (lmax a b) k) { s with heap := h', toks := tk }) :
    wpAny (model prog w) A (call (.builtin "max") [.str a t, .str b u]) Q E s := by
  have hT : (s.heap.push { cls := .type "tuple", data := .seq #[.str a t, .str b u] }).IsTuple s.heap.objs.size #[.str a t, .str b u] := ⟨_, Heap.get?_push_size _ rfl, rfl, 0, rfl⟩
  refine call_max_two (wpAny_pyIter_tuple hT ?_)
  have hsz : (s.heap.push { cls := .type "tuple", data := .seq #[.str a t, .str b u] }).objs.size = s.heap.objs.size + 1 := Heap.size_push ..
  refine ⟨_, [_, s.heap.objs.size], [_], _, _, _, _, rfl, Walks.tuple (A := A.in1) hh _ s.heap.objs.size (by rw [hsz]; exact Nat.ne_of_lt (Nat.lt_succ_self _)) #[.str a t, .str b u],
    ⟨⟨_, Heap.get?_push_size _ rfl, rfl, rfl⟩, hT.push _⟩, fun c hc => ?_, by simp, cmp_gt_strs (txtAt a b) (fun _ _ => two_at), fun v h' tk hP hk => ?_⟩
  · show c < ((s.heap.push _).push _).objs.size
    rw [Heap.size_push, hsz]
    rcases List.mem_cons.mp hc with rfl | hc
    · rw [hsz]; exact Nat.lt_succ_self _
    · rcases List.mem_cons.mp hc with rfl | hc
      · exact Nat.lt_succ_of_lt (Nat.lt_succ_self _)
      · cases hc
  · have hold : ∀ c o, s.heap.get? c = some o → h'.get? c = some o := fun c o e => by
      refine hk c o (fun hm => ?_) (Heap.get?_push_of_some _ (Heap.get?_push_of_some _ e))
      rcases List.mem_cons.mp hm with e1 | hm
      · have := Heap.lt_size e; rw [e1, hsz] at this; exact Nat.lt_irrefl _ (Nat.lt_of_succ_lt this)
      · cases hm
    have hP' : (#[.str a t, .str b u] : Array Value)[argBest (fun i j => decide ((txtAt a b j).cps.toList < (txtAt a b i).cps.toList)) 1]? = some v := hP
    have hv : ∃ k, v = .str (lmax a b) k := by
      by_cases hba : a.cps.toList < b.cps.toList
      · have e : argBest (fun i j => decide ((txtAt a b j).cps.toList < (txtAt a b i).cps.toList)) 1 = 1 := by simp [argBest, txtAt, hba]
        rw [e] at hP'
        refine ⟨u, ?_⟩
        rw [lmax, if_pos hba]
        exact (Option.some.inj hP').symm
      · have e : argBest (fun i j => decide ((txtAt a b j).cps.toList < (txtAt a b i).cps.toList)) 1 = 0 := by simp [argBest, txtAt, hba]
        rw [e] at hP'
        refine ⟨t, ?_⟩
        rw [lmax, if_neg hba]
        exact (Option.some.inj hP').symm
    obtain ⟨k, rfl⟩ := hv
    exact h h' tk k hold
end
section
variable {X : Cx}
theorem call_minS (hc : X.calm = true) : CallR X (.builtin "min") (fun xs H Q => ∃ i j, xs = [.str i, .str j] ∧ Q (.str (lmin i j)) H) := by
  intro pins s σ H xs us Q I r h
  obtain ⟨i, j, rfl, q⟩ := h
  obtain ⟨u, w', rfl, ⟨t, rfl⟩, ⟨t', rfl⟩⟩ := vals2 r
  exact min_two_strs (I.ok.hd hc) fun h' tk k kp => ⟨.str _, H, I.kept kp, ⟨_, rfl⟩, q⟩
theorem call_maxS (hc : X.calm = true) : CallR X (.builtin "max") (fun xs H Q => ∃ i j, xs = [.str i, .str j] ∧ Q (.str (lmax i j)) H) := by
  intro pins s σ H xs us Q I r h
  obtain ⟨i, j, rfl, q⟩ := h
  obtain ⟨u, w', rfl, ⟨t, rfl⟩, ⟨t', rfl⟩⟩ := vals2 r
  exact max_two_strs (I.ok.hd hc) fun h' tk k kp => ⟨.str _, H, I.kept kp, ⟨_, rfl⟩, q⟩
end

/-! ### sorted of pairs of texts -/
def encP (b : Addr × Str × Str) : PyData := .tuple [.str b.2.1, .str b.2.2]
def rSortedTT (K : PySem.W.Frag) : List V → Hp → VK → Prop := fun vs H Q => ∃ (a : Addr) (bs : List (Addr × Str × Str)), vs = [V.ref a] ∧ SqL K H a (bs.map fun b => V.ref b.1) ∧ (∀ b ∈ bs, H b.1 = some (.tup [.str b.2.1, .str b.2.2])) ∧
  ∀ p, H p = none → Q (.ref p) (upd H p (.lst ((bs.mergeSort (PySem.W.dataLe false encP)).map fun b => V.ref b.1)))
theorem refs_vals : ∀ {bs : List (Addr × Str × Str)} {its : List Value}, Vals (bs.map fun b => V.ref b.1) its → its = bs.map fun b => Value.ref b.1
  | [], its, h => by cases h; rfl
  | b :: bs, its, h => by
    cases h with
    | cons r t =>
      have e : _ = Value.ref b.1 := r
      rw [e, refs_vals t]
      rfl
theorem vals_refs : ∀ (bs : List (Addr × Str × Str)), Vals (bs.map fun b => V.ref b.1) (bs.map fun b => Value.ref b.1)
  | [] => .nil
  | b :: bs => .cons rfl (vals_refs bs)
theorem each_refs : ∀ (bs : List (Addr × Str × Str)), PySem.W.EachIs (fun v b => v = Value.ref b.1) (bs.map fun b => Value.ref b.1) bs
  | [] => .nil
  | b :: bs => .cons rfl (each_refs bs)
theorem of_each : ∀ {bs : List (Addr × Str × Str)} {out : List Value}, PySem.W.EachIs (fun v b => v = Value.ref b.1) out bs → out = bs.map fun b => Value.ref b.1
  | _, _, .nil => rfl
  | _, _, .cons e t => by rw [e, of_each t]; rfl
theorem each_of {R : Value → Addr × Str × Str → Prop} : ∀ {bs : List (Addr × Str × Str)}, (∀ b ∈ bs, R (Value.ref b.1) b) → PySem.W.EachIs R (bs.map fun b => Value.ref b.1) bs
  | [], _ => .nil
  | b :: bs, h => .cons (h b List.mem_cons_self) (each_of fun c hc => h c (List.mem_cons_of_mem _ hc))
section
variable {X : Cx}
theorem cr_sortedTT (hu : X.A.units + 64 < cLine) : CallR X (.builtin "sorted") (rSortedTT X.K) := by
  intro pins s σ H vs us Q I r h
  obtain ⟨a, bs, rfl, hs, hb, q⟩ := h
  obtain ⟨its, rv, hl, hz⟩ := I.list hs
  rw [Vals.ref1 r]
  have hi := refs_vals rv
  subst hi
  have hlen : bs.length ≤ sizeLine := by rw [List.length_map] at hz; exact hz
  refine PySem.W.sorted_data (R := fun v b => v = Value.ref b.1) (bs := bs) (enc := encP) hl.isList (each_refs bs) (each_of fun b hm => ?_) (PySem.W.AllAlike.of fun b b' => ?_) (PySem.W.Sortable.tuples fun b => ⟨_, _, rfl⟩) hlen (fun b _ => ?_) fun out ho he => ?_
  · obtain ⟨_, its2, r2, o, hob, hc, n, hd⟩ := I.hok _ _ (hb b hm)
    obtain ⟨u1, u2, rfl, ⟨t1, rfl⟩, ⟨t2, rfl⟩⟩ := vals2 r2
    exact ⟨_, Reads.tuple hob hc hd (.cons (Reads.str _ _) (.cons (Reads.str _ _) .nil))⟩
  · simp [encP, PySem.W.alike, PySem.W.alikeAll]
  · have : (encP b).depth = 1 := by simp [encP, PyData.depth, PyData.depthAll]
    omega
  · have eo := of_each he
    subst eo
    obtain ⟨ep, he'⟩ := PyProof.Rows.sortedAll_at s.heap (bs.map fun b => Value.ref b.1) ((bs.mergeSort (PySem.W.dataLe false encP)).map fun b => Value.ref b.1).toArray
    have hlen2 : ((bs.mergeSort (PySem.W.dataLe false encP)).map fun b => V.ref b.1).length ≤ sizeLine := by rw [List.length_map, List.length_mergeSort]; exact hlen
    exact ⟨.ref _, upd H (s.heap.objs.size + 1) (.lst ((bs.mergeSort (PySem.W.dataLe false encP)).map fun b => V.ref b.1)), I.laid (t' := s.toks) (fun _ _ => PyProof.Rows.sortedAll_old) (Nat.le_succ _) ⟨hlen2, _, ep, vals_refs _, he'⟩, rfl, q _ (I.hok.fresh (Nat.le_succ _))⟩
end
end Lk
set_option maxRecDepth 100000
set_option maxHeartbeats 4000000
namespace Lk
open PySem PySem.Spec PyProof.Rows L2

/-! ### heaps -/
theorem same_upd {H : Hp} {p : Addr} {o : HO} (h : H p = none) : Same H (upd H p o) := fun b x e => by
  rw [upd_ne (ne_of_none e h)]
  exact e
/-- all but what stands at b is as it was -/
def Oth (b : Addr) (H H' : Hp) : Prop := ∀ a o, a ≠ b → H a = some o → H' a = some o
theorem Oth.refl (b : Addr) (H : Hp) : Oth b H H := fun _ _ _ h => h
theorem Oth.trans {b : Addr} {H H1 H2 : Hp} (x : Oth b H H1) (y : Oth b H1 H2) : Oth b H H2 := fun a o n h => y a o n (x a o n h)
theorem Oth.of {b : Addr} {H H' : Hp} (x : Same H H') : Oth b H H' := fun a o _ h => x a o h
theorem Oth.upd {b : Addr} {H : Hp} {o : HO} : Oth b H (upd H b o) := fun a u n h => by rw [upd_ne n]; exact h
theorem Oth.free {b p : Addr} {H H' : Hp} (x : Oth b H H') (hb : p ≠ b) (h : H' p = none) : H p = none := by
  cases q : H p with
  | none => rfl
  | some o =>
    rw [x p o hb q] at h
    cases h
def IsBox (H : Hp) (b : Addr) : Prop := ∃ x y z : Int, H b = some (.lst [.int x, .int y, .int z])
theorem IsBox.same {H H' : Hp} {b : Addr} (x : Same H H') (h : IsBox H b) : IsBox H' b := by
  obtain ⟨i, j, k, e⟩ := h
  exact ⟨i, j, k, x _ _ e⟩
theorem IsBox.ne_tup {H : Hp} {b t : Addr} {xs : List V} (h : IsBox H b) (ht : H t = some (.tup xs)) : t ≠ b := by
  obtain ⟨i, j, k, e⟩ := h
  exact ne_of ht e (fun z => nomatch z)
theorem IsBox.ne_dT {H : Hp} {b t : Addr} {xs : List (List Key × V)} (h : IsBox H b) (ht : H t = some (.dT xs)) : t ≠ b := by
  obtain ⟨i, j, k, e⟩ := h
  exact ne_of ht e (fun z => nomatch z)
theorem IsBox.ne_strs {H : Hp} {b t : Addr} {xs : List Str} (h : IsBox H b) (ht : H t = some (.lst (xs.map V.str))) : t ≠ b := by
  obtain ⟨i, j, k, e⟩ := h
  refine ne_of ht e (fun z => ?_)
  match xs, z with
  | [], z => cases z
  | x :: r, z => cases z
theorem IsBox.ne_refs {H : Hp} {b t : Addr} {xs : List Addr} (h : IsBox H b) (ht : H t = some (.lst (xs.map V.ref))) : t ≠ b := by
  obtain ⟨i, j, k, e⟩ := h
  refine ne_of ht e (fun z => ?_)
  match xs, z with
  | [], z => cases z
  | x :: r, z => cases z
theorem IsBox.ne_none {H : Hp} {b p : Addr} (h : IsBox H b) (hp : H p = none) : p ≠ b := by
  obtain ⟨i, j, k, e⟩ := h
  exact (ne_of_none e hp).symm
theorem small_le {n : Nat} (h : n ≤ 1000) : n ≤ sizeLine := Nat.le_of_lt (small1000 h)

/-! ### slices -/
def cutL {α : Type} (xs : List α) (lo hi : Option Int) : List α := (xs.drop (HT.sIx xs.length 0 lo)).take (HT.sIx xs.length xs.length hi - HT.sIx xs.length 0 lo)
theorem cutV_map {α : Type} (f : α → V) (xs : List α) (lo hi : Option Int) : cutV (xs.map f) lo hi = (cutL xs lo hi).map f := by
  unfold cutV cutL
  rw [List.length_map, List.map_take, List.map_drop]
theorem cutL_to {α : Type} (xs : List α) (k : Nat) : cutL xs none (some (k : Int)) = xs.take k := by
  unfold cutL
  rw [HT.sIx_none, HT.sIx_nat, List.drop_zero, Nat.sub_zero]
  by_cases h : k ≤ xs.length
  · rw [Nat.min_eq_left h]
  · rw [Nat.min_eq_right (by omega), List.take_of_length_le (Nat.le_refl _), List.take_of_length_le (by omega)]
theorem cutL_from {α : Type} (xs : List α) (k : Nat) : cutL xs (some (k : Int)) none = xs.drop k := by
  unfold cutL
  rw [HT.sIx_none, HT.sIx_nat]
  by_cases h : k ≤ xs.length
  · rw [Nat.min_eq_left h, List.take_of_length_le (by rw [List.length_drop]; exact Nat.le_refl _)]
  · rw [Nat.min_eq_right (by omega), List.drop_length, List.drop_eq_nil_of_le (by omega), List.take_nil]
theorem cutL_le {α : Type} (xs : List α) (lo hi : Option Int) : (cutL xs lo hi).length ≤ xs.length := by
  unfold cutL
  rw [List.length_take, List.length_drop]
  omega
theorem cutL_has {α : Type} {xs : List α} {k : Nat} {hi : Option Int} (h : 0 < (cutL xs (some (k : Int)) hi).length) : k < xs.length := by
  unfold cutL at h
  rw [List.length_take, List.length_drop, HT.sIx_nat] at h
  omega
theorem at_map {α : Type} {f : α → V} {xs : List α} {i : Nat} {x : V} (h : (xs.map f)[i]? = some x) : ∃ y, xs[i]? = some y ∧ x = f y := by
  rw [List.getElem?_map] at h
  cases e : xs[i]? with
  | none => rw [e] at h; cases h
  | some y =>
    rw [e] at h
    exact ⟨y, rfl, (Option.some.inj h).symm⟩
theorem ix_map {α : Type} {f : α → V} {xs : List α} {i : Nat} {y : α} (h : xs[i]? = some y) : (xs.map f)[i]? = some (f y) := by
  rw [List.getElem?_map, h]
  rfl
theorem set_map {α : Type} {f : α → V} {xs : List α} {i : Nat} {y : α} : (xs.map f).set i (f y) = (xs.set i y).map f := by
  rw [List.map_set]

theorem bit01 (k : Bool) : -(2 ^ 64) < (if k = true then 1 else 0 : Int) ∧ (if k = true then 1 else 0 : Int) < 2 ^ 64 := by cases k <;> decide
theorem bit2 (k : Bool) : (0 : Int) ≤ (if k = true then 1 else 0 : Int) ∧ (if k = true then 1 else 0 : Int) ≤ 1 := by cases k <;> decide

/-! ### names of the built-in -/
structure Blt (mg : Str → Option Value) : Prop where
  len : mg "len" = none
  abs : mg "abs" = none
  int : mg "int" = none
  list : mg "list" = none
  tuple : mg "tuple" = none
  enumerate : mg "enumerate" = none
  range : mg "range" = none
  min : mg "min" = none
  max : mg "max" = none
  sorted : mg "sorted" = none
  isinstance : mg "isinstance" = none
  zip : mg "zip" = none
  all : mg "all" = none
  str : mg "str" = none
  bool : mg "bool" = none
  any : mg "any" = none
  repr : mg "repr" = none
  set : mg "set" = none
  sum : mg "sum" = none
  reversed : mg "reversed" = none
  dict : mg "dict" = none

/-! ### a def as its callers know it -/
structure Cal (P : Program) (w : World) (K : PySem.W.Frag) (mg : Str → Option Value) (base : Heap) (k : Nat) (x : Str) (ps : List Str) (sp : Sp) : Prop where
  ex : ∃ f fd, FnOk P w K mg base CX0 k f fd ps sp ∧ mg x = some (.ref f) ∧ PySem.W.keepIn K (.ref f) = true ∧ Binds K fd ps []
theorem Cal.mono {P : Program} {w : World} {K : PySem.W.Frag} {mg : Str → Option Value} {base : Heap} {j k : Nat} {x : Str} {ps : List Str} {sp : Sp} (C : Cal P w K mg base j x ps sp) (h : j ≤ k := by first | decide | omega) : Cal P w K mg base k x ps sp := by
  obtain ⟨f, fd, F, r⟩ := C.ex
  exact ⟨f, fd, F.mono h, r⟩
section
variable {X : Cx} {k n : Nat} {x : Str} {ps : List Str} {sp : Sp} {p pos : Pos} {e : Expr} {es : List Expr} {t : TA}
theorem pe_cal (C : Cal X.prog X.w X.K X.mg X.base k x ps sp) (hr : Room n X.A) (ha : PA X (e :: es) t) (hle : k ≤ n := by first | decide | omega) (hg : Gl X x := by rfl) (hdb : (x == ("__debug__" : Str)) = false := by decide)
    (he : starEach (e :: es) X.env = (false, eval e X.env) :: starEach es X.env := by rfl) (hpl : (backTo pos (starEach es X.env)).any (·.1) = false := by rfl) :
    PE X (.Call (.Name x p) (e :: es) [] pos) (tCall sp [] E0 t) := by
  obtain ⟨f, fd, F, hm, hk, hb⟩ := C.ex
  exact pe_call F (hr.mono hle) hg hm hk hb .nil pass0 ha (hdb := hdb) (he := he) (hpl := hpl)
end

/-! ### drawing -/
def spTake : Sp := fun vs H Q _ => ∃ (b : Addr) (many : Int), vs = [.ref b, .int many] ∧ IsBox H b ∧ 0 < many ∧ many < 1073741824 ∧
  ∀ (v : Int) (H' : Hp), Oth b H H' → IsBox H' b → 0 ≤ v → v < many → Q (.int v) H'
def spBox : Sp := fun vs H Q _ => ∃ (a : Addr) (ns : List Int) (k : Nat), vs = [.ref a, .int k] ∧ H a = some (.lst (ns.map V.int)) ∧ k < ns.length ∧ k < 1000 ∧
  ∀ (b : Addr) (H' : Hp), Same H H' → H b = none → IsBox H' b → Q (.ref b) H'
def spCells (K : PySem.W.Frag) : Sp := fun vs H Q _ => ∃ (a : Addr) (ns : List Int) (u : Nat), vs = [.ref a, .int u] ∧ SqL K H a (ns.map V.int) ∧ ns.length ≤ 63 ∧ 0 < u ∧ u ≤ 3 ∧
  ∀ (c : Addr) (ms : List Int) (H' : Hp), Same H H' → H c = none → H' c = some (.lst (ms.map V.int)) → 0 < ms.length → ms.length ≤ 3 → Q (.ref c) H'
end Lk
set_option maxRecDepth 100000
set_option maxHeartbeats 4000000
namespace Lk
open PySem PySem.Spec PyProof.Rows L2

/-! ### texts and names -/
abbrev tlx (x : Str) : List Nat := x.cps.toList
theorem len_tlx (x : Str) : x.length = (tlx x).length := by
  show x.cps.size = x.cps.toList.length
  rw [Array.length_toList]
theorem tlx_app (x y : Str) : tlx (x ++ y) = tlx x ++ tlx y := by
  show (x.cps ++ y.cps).toList = _
  rw [Array.toList_append]
theorem str_ext {x y : Str} (h : tlx x = tlx y) : x = y := by
  obtain ⟨a⟩ := x
  obtain ⟨b⟩ := y
  have e : a = b := Array.toList_inj.mp h
  rw [e]
def Low (l : List Nat) : Prop := ∀ c ∈ l, 97 ≤ c ∧ c ≤ 122
def NameOk (x : Str) : Prop := 1 ≤ (tlx x).length ∧ (tlx x).length ≤ 8 ∧ Low (tlx x)
theorem NameOk.len {x : Str} (h : NameOk x) : x.length ≤ 8 := by rw [len_tlx]; exact h.2.1
def Good (x : Str) : Prop := PyData.strOk x = true
def Goods (xs : List Str) : Prop := ∀ x ∈ xs, Good x
theorem NameOk.good {x : Str} (h : NameOk x) : Good x := by
  show x.cps.all (· < 0x110000) = true
  rw [← Array.all_toList, List.all_eq_true]
  intro c hc
  have q := h.2.2 c hc
  exact decide_eq_true (by omega)
theorem lmin_good {x y : Str} (hx : Good x) (hy : Good y) : Good (lmin x y) := by
  unfold lmin
  split
  · exact hy
  · exact hx
theorem lmax_good {x y : Str} (hx : Good x) (hy : Good y) : Good (lmax x y) := by
  unfold lmax
  split
  · exact hy
  · exact hx
def abc : Str := "abcdefghijklmnopqrstuvwxyz"
theorem abc_at : ∀ i : Nat, i < 26 → (tlx abc)[i]? = some (97 + i) := by decide +kernel
theorem abc_len : abc.length = 26 := by decide +kernel
theorem abc_ix {i : Int} (h0 : 0 ≤ i) (h1 : i < 26) : atI (tlx abc) i = some (97 + i.toNat) := by
  have e : i = ((i.toNat : Nat) : Int) := by omega
  have q := atI_nat (abc_at i.toNat (by omega))
  rw [← e] at q
  exact q
theorem Low.one {n : Nat} (h : n < 26) : Low [97 + n] := fun c hc => by
  have e : c = 97 + n := by simpa using hc
  omega
theorem join0 : ∀ ys : List Str, tlx (Txt.join ("" : Str) ys) = (ys.map tlx).flatten := by
  intro ys
  rw [TL.join_eq]
  refine (TL.tl_join _ _).trans ?_
  have e : TL.tl ("" : Str) = [] := by decide +kernel
  rw [e]
  have g : ∀ l : List (List Nat), TL.joinL [] l = l.flatten := by
    intro l
    induction l with
    | nil => rfl
    | cons a r ih =>
      cases r with
      | nil => simp [TL.joinL]
      | cons b r =>
        show a ++ ([] ++ TL.joinL [] (b :: r)) = _
        rw [ih]
        simp
  exact g (ys.map TL.tl)
def IsOne (x : Str) : Prop := ∃ n : Nat, n < 26 ∧ x = ⟨#[97 + n]⟩
theorem ones_flat : ∀ {ys : List Str}, (∀ y ∈ ys, IsOne y) → ((ys.map tlx).flatten).length = ys.length ∧ Low (ys.map tlx).flatten
  | [], _ => ⟨rfl, fun _ h => nomatch h⟩
  | y :: r, h => by
    obtain ⟨e1, e2⟩ := ones_flat (ys := r) fun z hz => h z (List.mem_cons_of_mem _ hz)
    obtain ⟨n, hn, rfl⟩ := h y List.mem_cons_self
    constructor
    · rw [List.map_cons, List.flatten_cons, List.length_append, e1]
      simp
      omega
    · rw [List.map_cons, List.flatten_cons]
      intro c hc
      rcases List.mem_append.mp hc with q | q
      · have e : c = 97 + n := by simpa using q
        omega
      · exact e2 c q
theorem ones_len : ∀ {ys : List Str}, (∀ y ∈ ys, IsOne y) → (ys.map (·.length)).sum = ys.length
  | [], _ => rfl
  | y :: r, h => by
    have ih := ones_len (ys := r) fun z hz => h z (List.mem_cons_of_mem _ hz)
    obtain ⟨n, hn, rfl⟩ := h y List.mem_cons_self
    rw [List.map_cons, List.sum_cons, ih, List.length_cons]
    show 1 + r.length = _
    omega
theorem cutS_tlx (z : Str) (lo hi : Option Int) : tlx (cutS z lo hi) = cutL (tlx z) lo hi := by
  unfold cutS cutL
  show (List.toArray _).toList = _
  rw [List.toList_toArray, len_tlx]
theorem Low.cut {l : List Nat} {lo hi : Option Int} (h : Low l) : Low (cutL l lo hi) := fun c hc => h c (List.mem_of_mem_drop (List.mem_of_mem_take hc))
theorem Low.app {l m : List Nat} (h : Low l) (h' : Low m) : Low (l ++ m) := fun c hc => (List.mem_append.mp hc).elim (h c) (h' c)
theorem apart {step : Int} (hs : step = 1 ∨ step = 3 ∨ step = 7 ∨ step = 25) {i j : Nat} (h : j < i) (hi : i < 26) (f : Int) : (f + step * (i : Int)) % 26 ≠ (f + step * (j : Int)) % 26 := by
  rcases hs with rfl | rfl | rfl | rfl <;> omega
/-- a text's last sign -/
def lastC (x : Str) : Option Nat := (tlx x).getLast?
theorem lastC_app (x : Str) (n : Nat) : lastC (x ++ ⟨#[n]⟩) = some n := by
  unfold lastC
  rw [tlx_app]
  simp
theorem ins_perm {α : Type} (l : List α) (p : Nat) (x : α) : (l.take p ++ [x] ++ l.drop p).Perm (x :: l) := by
  have e : l.take p ++ [x] ++ l.drop p = l.take p ++ x :: l.drop p := by simp
  rw [e]
  refine List.perm_middle.trans ?_
  rw [List.take_append_drop]
theorem ins_map {α : Type} (f : α → V) (l : List α) (p : Nat) (x : α) : (l.map f).take p ++ [f x] ++ (l.map f).drop p = (l.take p ++ [x] ++ l.drop p).map f := by
  rw [List.map_append, List.map_append, List.map_take, List.map_drop]
  rfl

/-! ### the order of texts -/
theorem lmin_or (x y : Str) : (lmin x y = x ∧ lmax x y = y) ∨ (lmin x y = y ∧ lmax x y = x) := by
  unfold lmin lmax
  by_cases h : y.cps.toList < x.cps.toList
  · rw [if_pos h, if_neg (List.lt_asymm h)]
    exact .inr ⟨rfl, rfl⟩
  · rw [if_neg h]
    by_cases h2 : x.cps.toList < y.cps.toList
    · rw [if_pos h2]
      exact .inl ⟨rfl, rfl⟩
    · rw [if_neg h2]
      have e : x = y := str_ext (List.le_antisymm h h2)
      subst e
      exact .inl ⟨rfl, rfl⟩
/-- friends, as a law has them: each pair a least and a greatest -/
def PalsOk (ps : List (Str × Str)) : Prop := ∀ p ∈ ps, ∃ m q, Good m ∧ Good q ∧ p = (lmin m q, lmax m q)
def frd (ps : List (Str × Str)) (a b : Str) : Bool := decide ((a, b) ∈ ps ∨ (b, a) ∈ ps)
theorem frd_comm (ps : List (Str × Str)) (a b : Str) : frd ps a b = frd ps b a := by
  unfold frd
  exact decide_eq_decide.mpr Or.comm
theorem menu4 {v : Int} (h0 : 0 ≤ v) (h1 : v < 4) : ∃ step : Int, (step = 1 ∨ step = 3 ∨ step = 7 ∨ step = 25) ∧ atI [V.int 1, V.int 3, V.int 7, V.int 25] v = some (.int step) := by
  have e : v = 0 ∨ v = 1 ∨ v = 2 ∨ v = 3 := by omega
  rcases e with rfl | rfl | rfl | rfl
  · exact ⟨1, by simp, rfl⟩
  · exact ⟨3, by simp, rfl⟩
  · exact ⟨7, by simp, rfl⟩
  · exact ⟨25, by simp, rfl⟩
theorem name_ok {stem : Str} {hi : Option Int} {n : Nat} (h1 : (tlx stem).length ≤ 7) (h2 : Low (tlx stem)) (hn : n < 26) : NameOk (cutS stem none hi ++ ⟨#[97 + n]⟩) := by
  have e : tlx (cutS stem none hi ++ ⟨#[97 + n]⟩) = cutL (tlx stem) none hi ++ [97 + n] := by rw [tlx_app, cutS_tlx]
  have q := cutL_le (tlx stem) none hi
  refine ⟨?_, ?_, ?_⟩
  · rw [e]; simp
  · rw [e, List.length_append, List.length_singleton]; omega
  · rw [e]; exact (Low.cut h2).app (Low.one hn)

/-! ### friends as they stand -/
abbrev B3 := Addr × Str × Str
def refs (bs : List B3) : List V := bs.map fun b => V.ref b.1
def PairsAt (H : Hp) (bs : List B3) : Prop := ∀ b ∈ bs, H b.1 = some (.tup [.str b.2.1, .str b.2.2])
theorem PairsAt.same {H H' : Hp} {bs : List B3} (s : Same H H') (h : PairsAt H bs) : PairsAt H' bs := fun b hb => s _ _ (h b hb)
theorem PairsAt.oth {H H' : Hp} {b : Addr} {bs : List B3} (s : Oth b H H') (hb : IsBox H b) (h : PairsAt H bs) : PairsAt H' bs := fun c hc => s _ _ (hb.ne_tup (h c hc)) (h c hc)
/-- .. or as lists of two -/
def PairsB (H : Hp) (bs : List B3) : Prop := ∀ b ∈ bs, H b.1 = some (.tup [.str b.2.1, .str b.2.2]) ∨ H b.1 = some (.lst [.str b.2.1, .str b.2.2])
theorem PairsAt.b {H : Hp} {bs : List B3} (h : PairsAt H bs) : PairsB H bs := fun c hc => .inl (h c hc)
theorem PairsB.same {H H' : Hp} {bs : List B3} (s : Same H H') (h : PairsB H bs) : PairsB H' bs := fun b hb => (h b hb).imp (s _ _) (s _ _)
/-- FRIENDS as a tuple -/
def PalsAt (H : Hp) (a : Addr) (ps : List (Str × Str)) : Prop := ∃ bs : List B3, H a = some (.tup (refs bs)) ∧ PairsAt H bs ∧ ps = bs.map (·.2)
theorem PalsAt.same {H H' : Hp} {a : Addr} {ps : List (Str × Str)} (s : Same H H') (h : PalsAt H a ps) : PalsAt H' a ps := by
  obtain ⟨bs, h1, h2, h3⟩ := h
  exact ⟨bs, s _ _ h1, h2.same s, h3⟩
theorem PalsAt.oth {H H' : Hp} {a b : Addr} {ps : List (Str × Str)} (s : Oth b H H') (hb : IsBox H b) (h : PalsAt H a ps) : PalsAt H' a ps := by
  obtain ⟨bs, h1, h2, h3⟩ := h
  exact ⟨bs, s _ _ (hb.ne_tup h1) h1, h2.oth s hb, h3⟩
/-- .. or a list of these -/
def FrAt (H : Hp) (a : Addr) (ps : List (Str × Str)) : Prop := ∃ bs : List B3, (H a = some (.tup (refs bs)) ∨ H a = some (.lst (refs bs))) ∧ PairsB H bs ∧ ps = bs.map (·.2)
theorem PalsAt.fr {H : Hp} {a : Addr} {ps : List (Str × Str)} (h : PalsAt H a ps) : FrAt H a ps := by
  obtain ⟨bs, h1, h2, h3⟩ := h
  exact ⟨bs, .inl h1, h2.b, h3⟩
theorem FrAt.same {H H' : Hp} {a : Addr} {ps : List (Str × Str)} (s : Same H H') (h : FrAt H a ps) : FrAt H' a ps := by
  obtain ⟨bs, h1, h2, h3⟩ := h
  exact ⟨bs, h1.elim (fun e => .inl (s _ _ e)) (fun e => .inr (s _ _ e)), h2.same s, h3⟩
/-- what _law_pals tells of a pair -/
def OfPool (pool : List Str) (ps : List (Str × Str)) : Prop := ∀ p ∈ ps, ∃ m q, m ∈ pool ∧ q ∈ pool ∧ m ≠ q ∧ p = (lmin m q, lmax m q)
theorem OfPool.ok {pool : List Str} {ps : List (Str × Str)} (h : OfPool pool ps) (hg : Goods pool) : PalsOk ps := fun p hp => by
  obtain ⟨m, q, h1, h2, _, e⟩ := h p hp
  exact ⟨m, q, hg m h1, hg q h2, e⟩
theorem OfPool.irr {pool : List Str} {ps : List (Str × Str)} (h : OfPool pool ps) (x : Str) : frd ps x x = false := by
  unfold frd
  refine decide_eq_false fun z => ?_
  have z' : (x, x) ∈ ps := z.elim id id
  obtain ⟨m, q, _, _, ne, e⟩ := h _ z'
  have e1 := (Prod.mk.inj e).1
  have e2 := (Prod.mk.inj e).2
  rcases lmin_or m q with ⟨f1, f2⟩ | ⟨f1, f2⟩
  · exact ne ((f1.symm.trans e1.symm).trans (e2.trans f2))
  · exact ne ((f2.symm.trans e2.symm).trans (e1.trans f1))
def PGood (ps : List (Str × Str)) : Prop := ∀ p ∈ ps, Good p.1 ∧ Good p.2
theorem PalsOk.good {ps : List (Str × Str)} (h : PalsOk ps) : PGood ps := fun p hp => by
  obtain ⟨m, q, h1, h2, e⟩ := h p hp
  rw [e]
  exact ⟨lmin_good h1 h2, lmax_good h1 h2⟩
def spNames : Sp := fun vs H Q _ => ∃ (b : Addr) (many : Nat), vs = [.ref b, .int many] ∧ IsBox H b ∧ many ≤ 26 ∧
  ∀ (l : Addr) (names : List Str) (H' : Hp), Oth b H H' → IsBox H' b → H l = none → H' l = some (.lst (names.map V.str)) → names.length = many → names.Nodup → (∀ x ∈ names, NameOk x) → Q (.ref l) H'
end Lk
set_option maxRecDepth 100000
set_option maxHeartbeats 4000000
namespace Lk
open PySem PySem.Spec PyProof.Rows L2
/-! ### data -/
def encQ (p : Str × Str) : PyData := .tuple [.str p.1, .str p.2]
section
variable {K : PySem.W.Frag} {H : Hp}
end
/-! ### tuples whose object is known to have no dict: their methods may be called -/
def TupAt (H : Hp) (t : Addr) (xs : List V) : Prop := ∃ o : Obj, o.dict = none ∧ H t = some (.frz o (.tup xs))
theorem TupAt.same {H H' : Hp} {t : Addr} {xs : List V} (s : Same H H') (h : TupAt H t xs) : TupAt H' t xs := by
  obtain ⟨o, h1, h2⟩ := h
  exact ⟨o, h1, s _ _ h2⟩
theorem TupAt.sq {K : PySem.W.Frag} {H : Hp} {t : Addr} {xs : List V} (h : TupAt H t xs) : SqT K H t xs := by
  obtain ⟨o, _, h2⟩ := h
  exact .inl (.inr ⟨o, h2⟩)
theorem TupAt.ne {H : Hp} {b t : Addr} {xs : List V} (h : TupAt H t xs) (hb : IsBox H b) : t ≠ b := by
  obtain ⟨o, _, h2⟩ := h
  obtain ⟨i, j, k, e⟩ := hb
  exact ne_of h2 e (fun z => nomatch z)
theorem TupAt.oth {H H' : Hp} {b t : Addr} {xs : List V} (s : Oth b H H') (hb : IsBox H b) (h : TupAt H t xs) : TupAt H' t xs := by
  have n := h.ne hb
  obtain ⟨o, h1, h2⟩ := h
  exact ⟨o, h1, s _ _ n h2⟩
theorem cutV_whole {xs : List V} {lo hi : Option Int} (h : HT.sIx xs.length 0 lo = 0 ∧ HT.sIx xs.length xs.length hi = xs.length) : cutV xs lo hi = xs := by
  unfold cutV
  rw [h.1, h.2, List.drop_zero, Nat.sub_zero, List.take_of_length_le (Nat.le_refl _)]
section
variable {X : Cx}
theorem laid_tup {pins : List (Addr × Obj)} {σ : L2.St} {H : Hp} {s : Shared} {xs : List V} {its : List Value} (I : Inv X pins σ H s) (hz : xs.length ≤ sizeLine) (r : Vals xs its) :
    Inv X pins σ (upd H s.heap.objs.size (.frz { cls := .type "tuple", data := .seq its.toArray } (.tup xs))) { s with heap := s.heap.push { cls := .type "tuple", data := .seq its.toArray } } :=
  I.laid (t' := s.toks) (fun b ob q => Heap.get?_push_of_some _ q) (Nat.le_refl _) ⟨Heap.get?_push_size _ rfl, hz, its, r, IsTup.new _ _⟩
def tTupF (t : TA) : TE := fun σ H Q => t σ H fun xs H1 => xs.length ≤ sizeLine ∧ ∀ p H', Same H1 H' → H1 p = none → TupAt H' p xs → Q (.ref p) H'
theorem pe_tupF {es : List Expr} {t : TA} {pos : Pos} {x1} (h : PA X es t) : PE X (.Tuple es x1 pos) (tTupF t) := by
  refine ⟨fun pins s σ H Q I hq => ?_⟩
  refine wpAny_Tuple_spliced (thn (h.run pos pins s σ H _ I hq) fun us s1 ⟨xs, H1, I1, r, z, q⟩ => ⟨by rw [← r.length]; exact z, ?_⟩)
  have hf : H1 s1.heap.objs.size = none := I1.hok.fresh (Nat.le_refl _)
  exact ⟨.ref s1.heap.objs.size, _, laid_tup I1 z r, rfl, q _ _ (same_upd hf) hf ⟨_, rfl, upd_same⟩⟩
theorem call_tupleF : CallR X (.type "tuple") (fun xs H Q => ∃ p ys, xs = [.ref p] ∧ ((SqL X.K H p ys ∧ ∀ l H', Same H H' → H l = none → TupAt H' l ys → Q (.ref l) H') ∨ (SqT X.K H p ys ∧ Q (.ref p) H))) := by
  intro pins s σ H xs us Q I r h
  obtain ⟨p, ys, rfl, h⟩ := h
  obtain ⟨u, rfl, rx⟩ := vals1 r
  cases rx
  rcases h with ⟨hq, q⟩ | ⟨hq, q⟩
  · obtain ⟨its, r', pl, hz⟩ := I.list hq
    have hlen := r'.length
    refine call_tuple_list pl.isList (fun h' kp => ?_) (by simp only [List.size_toArray] <;> omega)
    have I1 : Inv X pins σ H { s with heap := h' } := I.kept (t' := s.toks) kp
    have hf := I1.hok.fresh (Nat.le_refl _)
    exact ⟨.ref h'.objs.size, _, laid_tup I1 hz r', rfl, q _ _ (same_upd hf) hf ⟨_, rfl, upd_same⟩⟩
  · obtain ⟨its, r', pl, hz⟩ := I.tuple hq
    exact call_tuple_same pl ⟨.ref p, H, I, rfl, q⟩
end

/-! ### a row: a tuple or a list of names -/
def RowAt (H : Hp) (a : Addr) (row : List Str) : Prop := TupAt H a (row.map V.str) ∨ H a = some (.lst (row.map V.str))
theorem RowAt.same {H H' : Hp} {a : Addr} {row : List Str} (s : Same H H') (h : RowAt H a row) : RowAt H' a row := h.elim (fun e => .inl (e.same s)) (fun e => .inr (s _ _ e))

/-! ### where one comes to -/
def lastP {α : Type} (p : α → Bool) : List α → Option Nat
  | [] => none
  | x :: r => match lastP p r with
    | some k => some (k + 1)
    | none => if p x then some 0 else none
theorem lastP_some {α : Type} {p : α → Bool} : ∀ {l : List α} {k : Nat}, lastP p l = some k → ∃ x, l[k]? = some x ∧ p x = true ∧ ∀ j y, k < j → l[j]? = some y → p y = false
  | [], k, h => by cases h
  | x :: r, k, h => by
    unfold lastP at h
    cases e : lastP p r with
    | some j =>
      rw [e] at h
      have hk : j + 1 = k := Option.some.inj h
      subst hk
      obtain ⟨y, h1, h2, h3⟩ := lastP_some e
      refine ⟨y, h1, h2, fun j' z hj hz => ?_⟩
      match j', hj, hz with
      | j' + 1, hj, hz => exact h3 j' z (by omega) hz
    | none =>
      rw [e] at h
      by_cases hx : p x = true
      · simp only [hx, if_true] at h
        have hk : 0 = k := Option.some.inj h
        subst hk
        refine ⟨x, rfl, hx, fun j' z hj hz => ?_⟩
        match j', hj, hz with
        | j' + 1, hj, hz => exact lastP_none e j' z hz
      · simp only [hx] at h
        cases h
where lastP_none {α : Type} {p : α → Bool} : ∀ {l : List α}, lastP p l = none → ∀ (j : Nat) (y : α), l[j]? = some y → p y = false
  | [], _, j, y, h => by simp at h
  | x :: r, e, j, y, h => by
    unfold lastP at e
    cases e2 : lastP p r with
    | some k => rw [e2] at e; cases e
    | none =>
      rw [e2] at e
      by_cases hx : p x = true
      · simp only [hx, if_true] at e
        cases e
      · match j, h with
        | 0, h =>
          have : x = y := Option.some.inj h
          subst this
          exact Bool.eq_false_iff.mpr hx
        | j + 1, h => exact lastP_none e2 j y h
theorem lastP_nil {α : Type} {p : α → Bool} : ∀ {l : List α}, lastP p l = none ↔ l.filter p = []
  | [] => by simp [lastP]
  | x :: r => by
    have ih := lastP_nil (p := p) (l := r)
    unfold lastP
    cases e : lastP p r with
    | some k =>
      have : ¬ r.filter p = [] := fun z => by rw [ih.mpr z] at e; cases e
      rw [List.filter_cons]
      by_cases hx : p x = true
      · simp [hx]
      · simp [hx, this]
    | none =>
      have z := ih.mp e
      rw [List.filter_cons, z]
      by_cases hx : p x = true
      · simp [hx]
      · simp [hx]
theorem Goods.at_ {xs : List Str} {i : Nat} {x : Str} (h : Goods xs) (e : xs[i]? = some x) : Good x := h x (List.mem_of_getElem? e)
theorem Goods.filter {xs : List Str} {p : Str → Bool} (h : Goods xs) : Goods (xs.filter p) := fun x hx => h x (List.mem_filter.mp hx).1
def spotOf (ps : List (Str × Str)) (stand : List Str) (x : Str) : Nat := match lastP (frd ps x) stand with
  | some k => k + 1
  | none => stand.length
def comeTo (ps : List (Str × Str)) (stand : List Str) (x : Str) : List Str := stand.take (spotOf ps stand x) ++ [x] ++ stand.drop (spotOf ps stand x)
def standOf (ps : List (Str × Str)) (order : List Str) : List Str := order.foldl (comeTo ps) []
theorem come_perm (ps : List (Str × Str)) (stand : List Str) (x : Str) : (comeTo ps stand x).Perm (x :: stand) := ins_perm _ _ _
theorem standOf_app (ps : List (Str × Str)) (o : List Str) (x : Str) : standOf ps (o ++ [x]) = comeTo ps (standOf ps o) x := by
  unfold standOf
  rw [List.foldl_append]
  rfl
theorem stand_perm_from (ps : List (Str × Str)) : ∀ (o stand : List Str), (o.foldl (comeTo ps) stand).Perm (o ++ stand)
  | [], stand => List.Perm.refl _
  | x :: o, stand => by
    show (o.foldl (comeTo ps) (comeTo ps stand x)).Perm _
    refine (stand_perm_from ps o _).trans ?_
    refine ((come_perm ps stand x).append_left o).trans ?_
    exact List.perm_middle
theorem stand_perm (ps : List (Str × Str)) (o : List Str) : (standOf ps o).Perm o := by
  have h := stand_perm_from ps o []
  rw [List.append_nil] at h
  exact h

/-! ### promises -/
end Lk
set_option maxRecDepth 100000
set_option maxHeartbeats 4000000
namespace Lk
open PySem PySem.Spec PyProof.Rows L2
/-- a tuple that is tracked, either way -/
def TupX (H : Hp) (a : Addr) (xs : List V) : Prop := H a = some (.tup xs) ∨ TupAt H a xs
theorem TupX.same {H H' : Hp} {a : Addr} {xs : List V} (s : Same H H') (h : TupX H a xs) : TupX H' a xs := h.elim (fun e => .inl (s _ _ e)) (fun e => .inr (e.same s))
theorem TupX.sq {K : PySem.W.Frag} {H : Hp} {a : Addr} {xs : List V} (h : TupX H a xs) : SqT K H a xs := h.elim (fun e => .inl (.inl e)) (fun e => e.sq)
theorem TupX.ty {K : PySem.W.Frag} {H : Hp} {a : Addr} {xs : List V} (h : TupX H a xs) : TyX K H (.ref a) (.type "tuple") := h.elim (fun e => .base (.tup e)) (fun ⟨_, _, e⟩ => .fTuple e)
/-- two values that _law_same tells to be the same: scalars, lists, tuples, at most n deep -/
def Alk (H : Hp) : Nat → V → V → Prop
  | 0, _, _ => False
  | n + 1, x, y => ((x = .non ∨ (∃ b, x = .bl b) ∨ (∃ i, x = .int i) ∨ ∃ z, x = .str z) ∧ y = x) ∨
    (∃ a b xs ys, x = .ref a ∧ y = .ref b ∧ H a = some (.lst xs) ∧ H b = some (.lst ys) ∧ xs.length = ys.length ∧ xs.length ≤ 1000 ∧ ∀ (i : Nat) (u v : V), xs[i]? = some u → ys[i]? = some v → Alk H n u v) ∨
    (∃ a b xs ys, x = .ref a ∧ y = .ref b ∧ TupX H a xs ∧ TupX H b ys ∧ xs.length = ys.length ∧ xs.length ≤ 1000 ∧ ∀ (i : Nat) (u v : V), xs[i]? = some u → ys[i]? = some v → Alk H n u v)
theorem Alk.same {H H' : Hp} (s : Same H H') : ∀ {n : Nat} {x y : V}, Alk H n x y → Alk H' n x y
  | 0, _, _, h => h.elim
  | n + 1, x, y, h => by
    rcases h with h | ⟨a, b, xs, ys, e1, e2, h1, h2, hl, hz, h⟩ | ⟨a, b, xs, ys, e1, e2, h1, h2, hl, hz, h⟩
    · exact .inl h
    · exact .inr (.inl ⟨a, b, xs, ys, e1, e2, s _ _ h1, s _ _ h2, hl, hz, fun i u v hu hv => Alk.same s (h i u v hu hv)⟩)
    · exact .inr (.inr ⟨a, b, xs, ys, e1, e2, h1.same s, h2.same s, hl, hz, fun i u v hu hv => Alk.same s (h i u v hu hv)⟩)
theorem alk_bl {H : Hp} {n : Nat} (b : Bool) : Alk H (n + 1) (.bl b) (.bl b) := .inl ⟨.inr (.inl ⟨b, rfl⟩), rfl⟩
def spSame (n : Nat) : Sp := fun vs H Q _ => ∃ x y, vs = [x, y] ∧ Alk H n x y ∧ ∀ H', Same H H' → Q (.bl true) H'
theorem walk_zipT {K : PySem.W.Frag} {a b : Addr} {xs ys : List V} {n : Nat} (hn : n = min xs.length ys.length) : Walk (RZ.ItzT K a b) n (fun H => SqT K H a xs ∧ SqT K H b ys) (YPair (fun i => xs[i]?) (fun i => ys[i]?)) := by
  subst hn
  refine ⟨fun i _ hi q => ?_, fun _ q => ⟨xs, ys, q.1, q.2, by omega⟩, fun i H v H' _ q y => ?_⟩
  · have h1 : i < xs.length := by omega
    have h2 : i < ys.length := by omega
    exact ⟨xs, ys, xs[i], ys[i], q.1, q.2, by simp [h1], by simp [h2]⟩
  · obtain ⟨T, x, z, h1, h2, h3, h4, h5⟩ := y
    exact ⟨T, x, z, h1, h2, h3, h4 xs q.1, h5 ys q.2⟩
end Lk
set_option maxRecDepth 100000
set_option maxHeartbeats 4000000
namespace Lk
open PySem PySem.Spec PyProof.Rows L2

/-! ### the dict of friends, either way about -/
def k2 (a b : Str) : List Key := [Sum.inr a, Sum.inr b]
def KnAt (H : Hp) (d : Addr) (ps : List (Str × Str)) : Prop := ∃ kvs, H d = some (.dT kvs) ∧ ∀ a b, (valV kvs (k2 a b)).isSome = frd ps a b
theorem KnAt.same {H H' : Hp} {d : Addr} {ps : List (Str × Str)} (s : Same H H') (h : KnAt H d ps) : KnAt H' d ps := by
  obtain ⟨kvs, h1, h2⟩ := h
  exact ⟨kvs, s _ _ h1, h2⟩
/-! ### places, words -/
def optW (c : Bool) (w : Str) : List Str := if c = true then [w] else []
theorem lastP_lt {α : Type} {p : α → Bool} {l : List α} {k : Nat} (h : lastP p l = some k) : k < l.length := by
  obtain ⟨x, hx, _⟩ := lastP_some h
  exact (List.getElem?_eq_some_iff.mp hx).1
def btw (i j : Nat) : Option Nat → Bool
  | none => false
  | some k => decide (k < j) && decide (j < i)
/-- the words by which one, at place i, bars other, at place j -/
def wordsOf (ps : List (Str × Str)) (row : List Str) (one other : Str) (i j : Nat) : List Str :=
  optW (decide (lastP (frd ps one) (row.take i) = none) && decide (i < j)) "behind" ++
  optW (btw i j (lastP (frd ps one) (row.take i))) "between" ++
  optW (decide (i < j) && frd ps one other) "friend"
/-! ### index -/
section
variable {X : Cx}
end
/-! ### promises of the program -/
/-! ### .. and of the law's own words -/
def spRight : Sp := fun vs H Q _ => ∃ b : Addr, vs = [.ref b] ∧ IsBox H b ∧ ∀ H', Oth b H H' → Q (.bl true) H'
def spLaw (K : PySem.W.Frag) : Sp := fun vs H Q _ => ∃ (a : Addr) (ns : List Int), vs = [.ref a] ∧ SqL K H a (ns.map V.int) ∧ ns.length ≤ 63 ∧ ∀ H', Q (.bl true) H'
/-! ### calls by keywords that stand in the parameters' order turned about -/
theorem vals_rev : ∀ {xs : List V} {us : List Value}, Vals xs us → Vals xs.reverse us.reverse
  | _, _, .nil => .nil
  | _, _, .cons r t => by
    rw [List.reverse_cons, List.reverse_cons]
    exact (vals_rev t).append (.cons r .nil)
/-- no positional ones, the keywords turned about -/
def gRev {α : Type} : List α → List α → List α
  | [], ws => ws.reverse
  | _ :: _, _ => []
theorem kbinds_rev {K : PySem.W.Frag} {x qual : Str} {st : Stmt} {f : Addr} {fd : FuncData} {ps ks : List Str} (F : Fun K x qual st f fd) (hp : ps ≠ [])
    (h : ∀ (kV doc pm : Value) (an : Option Addr) (cdv ct : Value) (ws : List Value), ws.length = ps.length → bindArgs (PySem.W.fnOf x qual (defArgs st) (defBody st) (defScope st) .none kV doc pm an cdv ct) ⟨[], ks.zip ws⟩ = pure (ps.zip ws.reverse)) :
    KBinds K fd ps ks gRev gRev := by
  obtain ⟨oc, od, kV, doc, pm, an, cdv, ct, osl, rfl, lk, hcd⟩ := F.ex
  refine ⟨fun s us ws _ hl => ?_, fun {vs us zs ws} r1 r2 => ?_⟩
  · cases us with
    | nil =>
      have hl' : ws.reverse.length = ps.length := hl
      rw [List.length_reverse] at hl'
      exact .of_eq (h kV doc pm an cdv ct ws hl')
    | cons u us =>
      have hl' : 0 = ps.length := hl
      exact absurd (List.length_eq_zero_iff.mp hl'.symm) hp
  · cases r1 with
    | nil => exact vals_rev r2
    | cons _ _ => exact .nil
end Lk
set_option maxRecDepth 100000
set_option maxHeartbeats 4000000
namespace Lk
open PySem PySem.Spec PyProof.Rows L2

/-! ### who can have come last -/
theorem lastP_append {α : Type} (p : α → Bool) (b : List α) : ∀ a : List α, lastP p (a ++ b) = match lastP p b with | some k => some (a.length + k) | none => lastP p a
  | [] => by
    show lastP p b = _
    cases lastP p b with
    | none => rfl
    | some k => simp
  | x :: a => by
    have ih := lastP_append p b a
    show (match lastP p (a ++ b) with | some k => some (k + 1) | none => if p x then some 0 else none) = _
    rw [ih]
    cases lastP p b with
    | none => rfl
    | some k =>
      show some (a.length + k + 1) = some ((x :: a).length + k)
      rw [List.length_cons]
      congr 1
      omega
/-- the one at place i is loose -/
def looseB (ps : List (Str × Str)) (row : List Str) (i : Nat) (x : Str) : Bool := match lastP (frd ps x) row with
  | none => decide (i + 1 = row.length)
  | some k => decide (k + 1 = i)
theorem split_at {α : Type} {row : List α} {i : Nat} {x : α} (h : row[i]? = some x) : row = row.take i ++ x :: row.drop (i + 1) := by
  have hi : i < row.length := (List.getElem?_eq_some_iff.mp h).1
  have e := List.getElem?_eq_getElem hi
  rw [h] at e
  have e2 : x = row[i] := Option.some.inj e
  rw [e2, ← List.drop_eq_getElem_cons hi, List.take_append_drop]
theorem ins_eq {α : Type} {a b : List α} {x : α} {s : Nat} (hx : x ∉ a ++ b) (hs : s ≤ (a ++ b).length) (h : (a ++ b).take s ++ [x] ++ (a ++ b).drop s = a ++ x :: b) : s = a.length := by
  have e1 : ((a ++ b).take s ++ [x] ++ (a ++ b).drop s)[s]? = some x := by
    rw [List.append_assoc, List.getElem?_append_right (by rw [List.length_take]; omega), List.length_take, Nat.min_eq_left hs, Nat.sub_self]
    rfl
  rw [h] at e1
  by_cases h1 : s < a.length
  · rw [List.getElem?_append_left h1] at e1
    exact absurd (List.mem_append_left b (List.mem_of_getElem? e1)) hx
  · rw [List.getElem?_append_right (by omega)] at e1
    cases h2 : s - a.length with
    | zero => omega
    | succ m =>
      rw [h2, List.getElem?_cons_succ] at e1
      exact absurd (List.mem_append_right a (List.mem_of_getElem? e1)) hx
theorem loose_iff {ps : List (Str × Str)} {row : List Str} {i : Nat} {x : Str} (hd : row.Nodup) (h : row[i]? = some x) (irr : frd ps x x = false) :
    decide (comeTo ps (row.take i ++ row.drop (i + 1)) x = row) = looseB ps row i x := by
  have hi : i < row.length := (List.getElem?_eq_some_iff.mp h).1
  have sp := split_at h
  generalize ha : row.take i = a at sp
  generalize hb : row.drop (i + 1) = b at sp
  have la : a.length = i := by
    rw [← ha, List.length_take]
    omega
  have nx : x ∉ a ++ b := by
    rw [sp] at hd
    have q : (x :: (a ++ b)).Nodup := (List.perm_middle.nodup_iff).mp hd
    exact (List.nodup_cons.mp q).1
  have lr : row.length = a.length + b.length + 1 := by
    rw [sp, List.length_append, List.length_cons]
    omega
  have key : comeTo ps (a ++ b) x = row ↔ spotOf ps (a ++ b) x = i := by
    constructor
    · intro e
      rw [← la]
      refine ins_eq (s := spotOf ps (a ++ b) x) nx ?_ (e.trans sp)
      unfold spotOf
      split
      · rename_i k ek
        have := lastP_lt ek
        omega
      · exact Nat.le_refl _
    · intro e
      unfold comeTo
      rw [e, ← la, List.take_left' rfl, List.drop_left' rfl, List.append_assoc]
      exact sp.symm
  have e1 : lastP (frd ps x) (x :: b) = (lastP (frd ps x) b).map (· + 1) := by
    show (match lastP (frd ps x) b with | some k => some (k + 1) | none => if frd ps x x then some 0 else none) = _
    rw [irr]
    cases lastP (frd ps x) b <;> rfl
  have e2 : lastP (frd ps x) row = match lastP (frd ps x) (x :: b) with | some k => some (a.length + k) | none => lastP (frd ps x) a := by
    rw [← lastP_append, ← sp]
  have e3 := lastP_append (frd ps x) b a
  rw [e1] at e2
  have fin : (spotOf ps (a ++ b) x = i) ↔ looseB ps row i x = true := by
    unfold looseB spotOf
    rw [e2, e3]
    cases lastP (frd ps x) b with
    | some k =>
      show (a.length + k + 1 = i) ↔ decide (a.length + (k + 1) + 1 = i) = true
      rw [decide_eq_true_eq]
      omega
    | none =>
      cases lastP (frd ps x) a with
      | some k =>
        show (k + 1 = i) ↔ decide (k + 1 = i) = true
        rw [decide_eq_true_eq]
      | none =>
        show ((a ++ b).length = i) ↔ decide (i + 1 = row.length) = true
        rw [decide_eq_true_eq, List.length_append]
        omega
  cases c : looseB ps row i x with
  | true => exact decide_eq_true (key.mpr (fin.mpr c))
  | false => exact decide_eq_false (fun z => by rw [fin.mp (key.mp z)] at c; cases c)
/-- all that are loose, in the row's order -/
def looseL (ps : List (Str × Str)) (row : List Str) : List Str := (row.zipIdx.filter fun p => looseB ps row p.2 p.1).map (·.1)
theorem looseL_mem {ps : List (Str × Str)} {row : List Str} {i : Nat} {x : Str} (hd : row.Nodup) (h : row[i]? = some x) : decide (x ∈ looseL ps row) = looseB ps row i x := by
  unfold looseL
  have e : (x ∈ (row.zipIdx.filter fun p => looseB ps row p.2 p.1).map (·.1)) ↔ looseB ps row i x = true := by
    constructor
    · intro m
      obtain ⟨⟨y, j⟩, hp, rfl⟩ := List.mem_map.mp m
      obtain ⟨h1, h2⟩ := List.mem_filter.mp hp
      have h3 : row[j]? = some y := by
        have q := List.mem_zipIdx_iff_getElem?.mp h1
        exact q
      have ej := nd_ix hd h3 h
      rw [← ej]
      exact h2
    · intro c
      refine List.mem_map.mpr ⟨(x, i), List.mem_filter.mpr ⟨?_, c⟩, rfl⟩
      exact List.mem_zipIdx_iff_getElem?.mpr h
  cases c : looseB ps row i x with
  | true => exact decide_eq_true (e.mpr c)
  | false => exact decide_eq_false (fun z => by rw [e.mp z] at c; cases c)

/-! ### promises -/
end Lk
set_option maxRecDepth 100000
set_option maxHeartbeats 4000000
namespace Lk
open PySem PySem.Spec PyProof.Rows L2

/-! ### whichever go, the same are left -/
def LooseP (ps : List (Str × Str)) (a b : List Str) (x : Str) : Prop :=
  (∀ y ∈ b, frd ps x y = false) ∧ ((∃ a' f, a = a' ++ [f] ∧ frd ps x f = true) ∨ ((∀ y ∈ a, frd ps x y = false) ∧ b = []))
theorem lastP_no {α : Type} {p : α → Bool} {l : List α} : lastP p l = none ↔ ∀ y ∈ l, p y = false := by
  rw [lastP_nil]
  constructor
  · intro h y hy
    cases c : p y with
    | false => rfl
    | true =>
      have m : y ∈ l.filter p := List.mem_filter.mpr ⟨hy, c⟩
      rw [h] at m
      cases m
  · intro h
    refine List.filter_eq_nil_iff.mpr fun y hy => ?_
    rw [h y hy]
    exact Bool.false_ne_true
theorem lastP_end {α : Type} {p : α → Bool} {l : List α} {k : Nat} (h : lastP p l = some k) (e : k + 1 = l.length) : ∃ l' f, l = l' ++ [f] ∧ p f = true := by
  obtain ⟨f, h1, h2, _⟩ := lastP_some h
  refine ⟨l.take k, f, ?_, h2⟩
  have q := split_at h1
  rw [List.drop_eq_nil_of_le (by omega)] at q
  exact q
theorem looseB_iff {ps : List (Str × Str)} {row a b : List Str} {x : Str} (h : row = a ++ x :: b) (irr : frd ps x x = false) : looseB ps row a.length x = true ↔ LooseP ps a b x := by
  have e1 : lastP (frd ps x) (x :: b) = (lastP (frd ps x) b).map (· + 1) := by
    show (match lastP (frd ps x) b with | some k => some (k + 1) | none => if frd ps x x then some 0 else none) = _
    rw [irr]
    cases lastP (frd ps x) b <;> rfl
  have e2 : lastP (frd ps x) row = match lastP (frd ps x) (x :: b) with | some k => some (a.length + k) | none => lastP (frd ps x) a := by
    rw [h]
    exact lastP_append (frd ps x) (x :: b) a
  rw [e1] at e2
  have lr : row.length = a.length + b.length + 1 := by
    rw [h, List.length_append, List.length_cons]
    omega
  unfold looseB LooseP
  rw [e2]
  cases eb : lastP (frd ps x) b with
  | some k =>
    obtain ⟨f, h1, h2, _⟩ := lastP_some eb
    show decide (a.length + (k + 1) + 1 = a.length) = true ↔ _
    rw [decide_eq_true_eq]
    constructor
    · intro z
      omega
    · rintro ⟨z, _⟩
      rw [z f (List.mem_of_getElem? h1)] at h2
      cases h2
  | none =>
    have nb := lastP_no.mp eb
    cases ea : lastP (frd ps x) a with
    | some k =>
      show decide (k + 1 = a.length) = true ↔ _
      rw [decide_eq_true_eq]
      obtain ⟨f, h1, h2, h3⟩ := lastP_some ea
      constructor
      · intro z
        exact ⟨nb, .inl (lastP_end ea z)⟩
      · rintro ⟨_, ⟨a', f', rfl, z⟩ | ⟨z, _⟩⟩
        · rw [List.length_append]
          show k + 1 = a'.length + 1
          have hk := (List.getElem?_eq_some_iff.mp h1).1
          rw [List.length_append] at hk
          have hk' : k < a'.length + 1 := hk
          by_cases c : k < a'.length
          · have q := h3 a'.length f' c (by simp)
            rw [q] at z
            cases z
          · omega
        · rw [z f (List.mem_of_getElem? h1)] at h2
          cases h2
    | none =>
      have na := lastP_no.mp ea
      show decide (a.length + 1 = row.length) = true ↔ _
      rw [decide_eq_true_eq]
      constructor
      · intro z
        exact ⟨nb, .inr ⟨na, List.length_eq_zero_iff.mp (by omega)⟩⟩
      · rintro ⟨_, ⟨a', f', rfl, z⟩ | ⟨_, z⟩⟩
        · rw [na f' (by simp)] at z
          cases z
        · rw [z] at lr
          simpa using lr.symm
def LooseIn (ps : List (Str × Str)) (row : List Str) (x : Str) : Prop := ∃ a b, row = a ++ x :: b ∧ LooseP ps a b x
def Irr (ps : List (Str × Str)) : Prop := ∀ x, frd ps x x = false
def rem (row : List Str) (x : Str) : List Str := row.filter fun y => !decide (y = x)
theorem rem_split {a b : List Str} {x : Str} (hd : (a ++ x :: b).Nodup) : rem (a ++ x :: b) x = a ++ b := by
  have q : (x :: (a ++ b)).Nodup := (List.perm_middle.nodup_iff).mp hd
  have nx := (List.nodup_cons.mp q).1
  unfold rem
  rw [List.filter_append, List.filter_cons]
  have e1 : a.filter (fun y => !decide (y = x)) = a := List.filter_eq_self.mpr fun y hy => by
    have : ¬ y = x := fun z => nx (List.mem_append_left b (z ▸ hy))
    simp [this]
  have e2 : b.filter (fun y => !decide (y = x)) = b := List.filter_eq_self.mpr fun y hy => by
    have : ¬ y = x := fun z => nx (List.mem_append_right a (z ▸ hy))
    simp [this]
  rw [e1, e2]
  simp
theorem rem_nodup {row : List Str} {x : Str} (hd : row.Nodup) : (rem row x).Nodup := hd.filter _
theorem rem_comm (row : List Str) (x y : Str) : rem (rem row x) y = rem (rem row y) x := by
  unfold rem
  rw [List.filter_filter, List.filter_filter]
  refine List.filter_congr fun z _ => ?_
  exact Bool.and_comm _ _
theorem rem_len {row : List Str} {x : Str} (hd : row.Nodup) (hx : x ∈ row) : (rem row x).length + 1 = row.length := by
  obtain ⟨a, b, rfl⟩ := List.append_of_mem hx
  rw [rem_split hd, List.length_append, List.length_append, List.length_cons]
  omega
theorem LooseIn.mem {ps : List (Str × Str)} {row : List Str} {x : Str} (h : LooseIn ps row x) : x ∈ row := by
  obtain ⟨a, b, rfl, _⟩ := h
  simp
theorem split_uniq {row a b c d : List Str} {x : Str} (hd : row.Nodup) (h1 : row = a ++ x :: b) (h2 : row = c ++ x :: d) : a = c ∧ b = d := by
  have e1 : row[a.length]? = some x := by rw [h1]; simp
  have e2 : row[c.length]? = some x := by rw [h2]; simp
  have l := nd_ix hd e1 e2
  have e := h1.symm.trans h2
  have q := List.append_inj e l
  exact ⟨q.1, (List.cons.inj q.2).2⟩
theorem looseL_iff {ps : List (Str × Str)} {row : List Str} {x : Str} (irr : Irr ps) (hd : row.Nodup) : x ∈ looseL ps row ↔ LooseIn ps row x := by
  constructor
  · intro h
    have hx : x ∈ row := by
      unfold looseL at h
      obtain ⟨⟨y, j⟩, hp, rfl⟩ := List.mem_map.mp h
      exact List.mem_of_getElem? (List.mem_zipIdx_iff_getElem?.mp (List.mem_filter.mp hp).1)
    obtain ⟨a, b, e⟩ := List.append_of_mem hx
    have ei : row[a.length]? = some x := by rw [e]; simp
    have q := looseL_mem (ps := ps) hd ei
    rw [decide_eq_true h] at q
    exact ⟨a, b, e, (looseB_iff e (irr x)).mp q.symm⟩
  · rintro ⟨a, b, e, h⟩
    have ei : row[a.length]? = some x := by rw [e]; simp
    have q := looseL_mem (ps := ps) hd ei
    rw [(looseB_iff e (irr x)).mpr h] at q
    exact of_decide_eq_true q
/-- the lemma: of two that are loose each is so without the other -/
theorem diamond {ps : List (Str × Str)} {row : List Str} {x y : Str} (hd : row.Nodup) (hx : LooseIn ps row x) (hy : LooseIn ps row y) (ne : x ≠ y) : LooseIn ps (rem row y) x := by
  obtain ⟨a, b, e, h1, h2⟩ := hx
  have my : y ∈ row := hy.mem
  obtain ⟨c, d, e', g1, g2⟩ := hy
  have my' : y ∈ a ∨ y ∈ b := by
    rw [e] at my
    rcases List.mem_append.mp my with z | z
    · exact .inl z
    · rcases List.mem_cons.mp z with z | z
      · exact absurd z.symm ne
      · exact .inr z
  rcases my' with m | m
  · obtain ⟨a1, a2, rfl⟩ := List.append_of_mem m
    have e2 : row = a1 ++ y :: (a2 ++ x :: b) := by rw [e]; simp
    have er : rem row y = (a1 ++ a2) ++ x :: b := by
      rw [e2, rem_split (by rw [← e2]; exact hd)]
      simp
    refine ⟨a1 ++ a2, b, er, h1, ?_⟩
    obtain ⟨_, u2⟩ := split_uniq hd e2 e'
    rcases h2 with ⟨a', f, ea, hf⟩ | ⟨na, nb⟩
    · rcases List.eq_nil_or_concat a2 with z | ⟨l, g, z⟩
      · subst z
        have q := List.append_inj' ea (by rfl)
        have ey : y = f := (List.cons.inj q.2).1
        have bad := g1 x (by rw [← u2]; simp)
        rw [frd_comm, ey, hf] at bad
        cases bad
      · rw [List.concat_eq_append] at z
        subst z
        have ea' : (a1 ++ y :: l) ++ [g] = a' ++ [f] := by rw [← ea]; simp
        have q := List.append_inj' ea' rfl
        have eg : g = f := (List.cons.inj q.2).1
        exact .inl ⟨a1 ++ l, g, by simp, by rw [eg]; exact hf⟩
    · exact .inr ⟨fun z hz => na z (by
        rcases List.mem_append.mp hz with w | w
        · exact List.mem_append_left _ w
        · exact List.mem_append_right _ (List.mem_cons_of_mem _ w)), nb⟩
  · obtain ⟨b1, b2, rfl⟩ := List.append_of_mem m
    have e2 : row = (a ++ x :: b1) ++ y :: b2 := by rw [e]; simp
    have er : rem row y = a ++ x :: (b1 ++ b2) := by
      rw [e2, rem_split (by rw [← e2]; exact hd)]
      simp
    refine ⟨a, b1 ++ b2, er, fun z hz => h1 z (by
        rcases List.mem_append.mp hz with w | w
        · exact List.mem_append_left _ w
        · exact List.mem_append_right _ (List.mem_cons_of_mem _ w)), ?_⟩
    rcases h2 with h | ⟨_, z⟩
    · exact .inl h
    · exact absurd z (by simp)
/-- one behind the other, loose ones that needn't stay go -/
inductive Red (ps : List (Str × Str)) (stay : List Str) : List Str → List Str → Prop where
  | done (row : List Str) : Red ps stay row row
  | go {row n : List Str} (x : Str) (h : LooseIn ps row x) (hs : x ∉ stay) (t : Red ps stay (rem row x) n) : Red ps stay row n
def Nf (ps : List (Str × Str)) (stay row : List Str) : Prop := ∀ x, LooseIn ps row x → x ∈ stay
theorem Red.swap {ps : List (Str × Str)} {stay row n : List Str} (h : Red ps stay row n) : row.Nodup → Nf ps stay n → ∀ x, LooseIn ps row x → x ∉ stay → Red ps stay (rem row x) n := by
  induction h with
  | done row => intro _ hn x hx hs; exact absurd (hn x hx) hs
  | @go row n y hy ys t ih =>
    intro hd hn x hx hs
    by_cases e : x = y
    · subst e
      exact t
    · have h1 := diamond hd hx hy e
      have h2 := diamond hd hy hx (fun z => e z.symm)
      have q := ih (rem_nodup hd) hn x h1 hs
      rw [rem_comm] at q
      exact .go y h2 ys q
theorem Red.uniq {ps : List (Str × Str)} {stay row n : List Str} (h : Red ps stay row n) : row.Nodup → Nf ps stay n → ∀ m, Red ps stay row m → Nf ps stay m → n = m := by
  induction h with
  | done row =>
    intro _ hn m hm _
    cases hm with
    | done _ => rfl
    | go x hx hs _ => exact absurd (hn x hx) hs
  | @go row n y hy ys t ih =>
    intro hd hn m hm hnm
    exact ih (rem_nodup hd) hn m (hm.swap hd hnm y hy ys) hnm
theorem Red.trans {ps : List (Str × Str)} {stay row n m : List Str} (h : Red ps stay row n) : Red ps stay n m → Red ps stay row m := by
  induction h with
  | done row => exact fun q => q
  | go x hx hs _ ih => exact fun q => .go x hx hs (ih q)
/-- who comes is loose -/
theorem come_loose (ps : List (Str × Str)) (stand : List Str) (x : Str) : LooseIn ps (comeTo ps stand x) x := by
  refine ⟨stand.take (spotOf ps stand x), stand.drop (spotOf ps stand x), by unfold comeTo; simp, ?_, ?_⟩
  · intro y hy
    unfold spotOf at hy
    cases e : lastP (frd ps x) stand with
    | none =>
      rw [e] at hy
      exact lastP_no.mp e y (List.mem_of_mem_drop hy)
    | some k =>
      rw [e] at hy
      obtain ⟨f, h1, h2, h3⟩ := lastP_some e
      obtain ⟨j, hj⟩ := List.mem_iff_getElem?.mp hy
      rw [List.getElem?_drop] at hj
      exact h3 _ y (by show k < k + 1 + j; omega) hj
  · unfold spotOf
    cases e : lastP (frd ps x) stand with
    | none =>
      refine .inr ⟨fun y hy => lastP_no.mp e y (List.mem_of_mem_take hy), ?_⟩
      show stand.drop stand.length = []
      exact List.drop_length
    | some k =>
      obtain ⟨f, h1, h2, h3⟩ := lastP_some e
      refine .inl ⟨stand.take k, f, ?_, h2⟩
      show stand.take (k + 1) = _
      rw [List.take_add_one, h1]
      rfl
theorem come_rem {ps : List (Str × Str)} {stand : List Str} {x : Str} (hd : (x :: stand).Nodup) : rem (comeTo ps stand x) x = stand := by
  have e : comeTo ps stand x = stand.take (spotOf ps stand x) ++ x :: stand.drop (spotOf ps stand x) := by
    unfold comeTo
    simp
  have hn : (comeTo ps stand x).Nodup := (come_perm ps stand x).nodup_iff.mpr hd
  rw [e] at hn ⊢
  rw [rem_split hn, List.take_append_drop]
/-- who is loose, taken out, comes in there again -/
theorem loose_come {ps : List (Str × Str)} {row : List Str} {x : Str} (irr : Irr ps) (hd : row.Nodup) (h : LooseIn ps row x) : comeTo ps (rem row x) x = row := by
  obtain ⟨a, b, e, hp⟩ := h
  have ei : row[a.length]? = some x := by rw [e]; simp
  have q := loose_iff (ps := ps) hd ei (irr x)
  rw [(looseB_iff e (irr x)).mpr hp] at q
  have z := of_decide_eq_true q
  have er : rem row x = row.take a.length ++ row.drop (a.length + 1) := by
    rw [e, rem_split (by rw [← e]; exact hd)]
    simp
  rw [er]
  exact z
/-! ### two more comparisons -/
section
variable {X : Cx}
end
theorem Goods.rem {xs : List Str} {x : Str} (h : Goods xs) : Goods (Lk.rem xs x) := h.filter
theorem looseL_sub {ps : List (Str × Str)} {row : List Str} {x : Str} (h : x ∈ looseL ps row) : x ∈ row := by
  unfold looseL at h
  obtain ⟨⟨y, j⟩, hp, rfl⟩ := List.mem_map.mp h
  exact List.mem_of_getElem? (List.mem_zipIdx_iff_getElem?.mp (List.mem_filter.mp hp).1)
/-! ### promises -/
end Lk
set_option maxRecDepth 100000
set_option maxHeartbeats 4000000
namespace Lk
open PySem PySem.Spec PyProof.Rows L2

/-! ### how many that came later stand ahead -/
abbrev B3N := Addr × Str × Nat
def refsN (qs : List B3N) : List V := qs.map fun q => V.ref q.1
def PairsN (H : Hp) (qs : List B3N) : Prop := ∀ q ∈ qs, H q.1 = some (.tup [.str q.2.1, .int q.2.2])
theorem PairsN.same {H H' : Hp} {qs : List B3N} (s : Same H H') (h : PairsN H qs) : PairsN H' qs := fun b hb => s _ _ (h b hb)
theorem PairsN.oth {H H' : Hp} {b : Addr} {qs : List B3N} (s : Oth b H H') (hb : IsBox H b) (h : PairsN H qs) : PairsN H' qs := fun c hc => s _ _ (hb.ne_tup (h c hc)) (h c hc)
theorem idx_at {order : List Str} {i : Nat} {x : Str} (hd : order.Nodup) (h : order[i]? = some x) : order.idxOf x = i := by
  have hx : x ∈ order := List.mem_of_getElem? h
  have hl : order.idxOf x < order.length := List.idxOf_lt_length_iff.mpr hx
  have e : order[order.idxOf x]? = some x := by
    rw [List.getElem?_eq_getElem hl, List.getElem_idxOf]
  exact nd_ix hd e h
/-! ### a walk's dict comprehension -/
theorem putK_lenK {kvs : List (Key × V)} {k : Key} {v : V} : (putK kvs k v).length ≤ kvs.length + 1 := by
  unfold putK
  split
  · rw [List.length_map]
    omega
  · rw [List.length_append]
    exact Nat.le_refl _
/-! ### promises -/
end Lk
set_option maxRecDepth 100000
set_option maxHeartbeats 4000000
namespace Lk
open PySem PySem.Spec PyProof.Rows L2

/-! ### who goes, one after another: the hindmost one first -/
def someL (ps : List (Str × Str)) (stay row : List Str) : List Str := (looseL ps row).filter fun x => !decide (x ∈ stay)
theorem someL_sub {ps : List (Str × Str)} {stay row : List Str} {x : Str} (h : x ∈ someL ps stay row) : x ∈ looseL ps row ∧ x ∉ stay := by
  obtain ⟨h1, h2⟩ := List.mem_filter.mp h
  refine ⟨h1, ?_⟩
  simpa using h2
theorem someL_in {ps : List (Str × Str)} {stay row : List Str} {x : Str} (h : x ∈ looseL ps row) (hs : x ∉ stay) : x ∈ someL ps stay row :=
  List.mem_filter.mpr ⟨h, by simpa using hs⟩
def goneN (ps : List (Str × Str)) (stay : List Str) : Nat → List Str → List Str × List Str
  | 0, row => ([], row)
  | n + 1, row => match (someL ps stay row).getLast? with
    | none => ([], row)
    | some x => (x :: (goneN ps stay n (rem row x)).1, (goneN ps stay n (rem row x)).2)
def goneO (ps : List (Str × Str)) (stay row : List Str) : List Str := (goneN ps stay row.length row).1
def goneR (ps : List (Str × Str)) (stay row : List Str) : List Str := (goneN ps stay row.length row).2
theorem gone_none {ps : List (Str × Str)} {stay row : List Str} (h : someL ps stay row = []) : goneO ps stay row = [] ∧ goneR ps stay row = row := by
  unfold goneO goneR
  cases row.length with
  | zero => exact ⟨rfl, rfl⟩
  | succ n =>
    unfold goneN
    rw [h]
    exact ⟨rfl, rfl⟩
theorem last_mem {α : Type} {l : List α} {x : α} (h : l.getLast? = some x) : x ∈ l := by
  obtain ⟨ys, e⟩ := List.getLast?_eq_some_iff.mp h
  rw [e]
  simp
theorem gone_some {ps : List (Str × Str)} {stay row : List Str} {x : Str} (hd : row.Nodup) (h : (someL ps stay row).getLast? = some x) : goneO ps stay row = x :: goneO ps stay (rem row x) ∧ goneR ps stay row = goneR ps stay (rem row x) := by
  have hx := looseL_sub (someL_sub (last_mem h)).1
  have rl := rem_len hd hx
  unfold goneO goneR
  rw [← rl]
  show (goneN ps stay ((rem row x).length + 1) row).1 = _ ∧ _
  unfold goneN
  rw [h]
  cases (rem row x).length <;> exact ⟨rfl, rfl⟩
theorem gone_red {ps : List (Str × Str)} {stay : List Str} (irr : Irr ps) : ∀ (n : Nat) (row : List Str), row.length = n → row.Nodup → Red ps stay row (goneR ps stay row) ∧ Nf ps stay (goneR ps stay row) ∧ (goneO ps stay row).length ≤ n
  | n, row, hn, hd => by
    cases e : (someL ps stay row).getLast? with
    | none =>
      have e' := List.getLast?_eq_none_iff.mp e
      obtain ⟨g1, g2⟩ := gone_none e'
      rw [g1, g2]
      refine ⟨.done row, fun x hx => ?_, Nat.zero_le _⟩
      refine Classical.byContradiction fun c => ?_
      have := someL_in ((looseL_iff irr hd).mpr hx) c
      rw [e'] at this
      cases this
    | some x =>
      obtain ⟨g1, g2⟩ := gone_some hd e
      obtain ⟨m1, m2⟩ := someL_sub (last_mem e)
      have lx := (looseL_iff irr hd).mp m1
      have rl := rem_len hd lx.mem
      match n, hn with
      | 0, hn => omega
      | n + 1, hn =>
        obtain ⟨i1, i2, i3⟩ := gone_red irr n (rem row x) (by omega) (rem_nodup hd)
        rw [g1, g2]
        refine ⟨.go x lx m2 i1, i2, ?_⟩
        rw [List.length_cons]
        omega
theorem Red.nodup {ps : List (Str × Str)} {stay row n : List Str} (h : Red ps stay row n) : row.Nodup → n.Nodup := by
  induction h with
  | done row => exact id
  | go x h hs t ih => exact fun hd => ih (rem_nodup hd)
theorem Red.len {ps : List (Str × Str)} {stay row n : List Str} (h : Red ps stay row n) : n.length ≤ row.length := by
  induction h with
  | done row => exact Nat.le_refl _
  | go x h hs t ih => exact Nat.le_trans ih (List.length_filter_le _ _)
theorem Red.sub {ps : List (Str × Str)} {stay row n : List Str} (h : Red ps stay row n) : ∀ y ∈ n, y ∈ row := by
  induction h with
  | done row => exact fun _ h => h
  | go x h hs t ih => exact fun y hy => (List.mem_filter.mp (ih y hy)).1
/-! ### promises -/
def ButAt (K : PySem.W.Frag) (H : Hp) (p : Addr) (stay : List Str) : Prop := SqL K H p (stay.map V.str) ∨ SqT K H p (stay.map V.str)
/-- the but list does not change -/
def ButKeeps (K : PySem.W.Frag) (H : Hp) (p : Addr) (stay : List Str) : Prop := ∀ H', Same H H' → ButAt K H' p stay
end Lk
set_option maxRecDepth 100000
set_option maxHeartbeats 4000000
namespace Lk
open PySem PySem.Spec PyProof.Rows L2
section
variable {X : Cx}
end
/-! ### the law's own going -/
/-! ### a def with one keyword-only parameter that has a default -/
structure Cal3 (P : Program) (w : World) (K : PySem.W.Frag) (mg : Str → Option Value) (base : Heap) (k : Nat) (x : Str) (sp : Sp) (E : Addr) : Prop where
  ex : ∃ f fd, FnOk P w K mg base CX0 k f fd ["friends", "row", "but"] sp ∧ mg x = some (.ref f) ∧ PySem.W.keepIn K (.ref f) = true ∧ KBn K fd ["friends", "row", "but"] 2 ["but"] (fun us ws => us ++ ws) (fun vs zs => vs ++ zs) ∧ KBinds K fd ["friends", "row", "but"] ["but", "row", "friends"] gRev gRev ∧ (∃ ds, Vals [V.ref E] ds ∧ Binds K fd ["friends", "row", "but"] ds) ∧
    (∃ mv : List Value, KBn K fd ["friends", "row", "but"] 0 ["row", "friends"] (fun us ws => ws.reverse ++ mv) (fun vs zs => zs.reverse ++ [V.ref E]))
  emp : ∃ (o : Obj) (n : Nat), K.lookup E = some o ∧ o.cls = .type "tuple" ∧ o.data = .seq #[] n
theorem Cal3.but {P : Program} {w : World} {K : PySem.W.Frag} {mg : Str → Option Value} {base : Heap} {k : Nat} {x : Str} {sp : Sp} {E : Addr} (C : Cal3 P w K mg base k x sp E) (H : Hp) : ButAt K H E [] := by
  obtain ⟨o, n, h1, h2, h3⟩ := C.emp
  exact .inr (.inr ⟨o, #[], n, h1, h2, h3, Nat.zero_le _, .nil⟩)
section
variable {X : Cx} {k : Nat} {x : Str} {sp : Sp} {D : Addr} {p pos : Pos} {e : Expr} {es : List Expr} {t tk : TA} {kws : List Keyword}
end
abbrev p3 : List Str := ["friends", "row", "but"]
end Lk
set_option maxRecDepth 100000
set_option maxHeartbeats 4000000
namespace Lk
open PySem PySem.Spec PyProof.Rows L2

/-! ### of those who are left each bars one of them -/
def Ahead (row : List Str) (h x : Str) : Prop := ∃ a b, row = a ++ x :: b ∧ h ∈ a
theorem frd_sym (ps : List (Str × Str)) (a b : Str) : frd ps a b = frd ps b a := by
  exact frd_comm ps a b
theorem Ahead.mem {row : List Str} {h x : Str} (k : Ahead row h x) : h ∈ row ∧ x ∈ row := by
  obtain ⟨a, b, rfl, m⟩ := k
  exact ⟨List.mem_append_left _ m, by simp⟩
theorem Ahead.lt {row : List Str} {h x : Str} {i j : Nat} (hd : row.Nodup) (k : Ahead row h x) (hi : row[i]? = some h) (hj : row[j]? = some x) : i < j := by
  obtain ⟨a, b, rfl, m⟩ := k
  have e1 : (a ++ x :: b)[a.length]? = some x := by simp
  have e2 := nd_ix hd hj e1
  obtain ⟨n, hn⟩ := List.mem_iff_getElem?.mp m
  have ln : n < a.length := (List.getElem?_eq_some_iff.mp hn).1
  have e3 : (a ++ x :: b)[n]? = some h := by
    rw [List.getElem?_append_left ln]
    exact hn
  have e4 := nd_ix hd hi e3
  omega
theorem rem_app (a b : List Str) {x y : Str} (ne : x ≠ y) : rem (a ++ x :: b) y = rem a y ++ x :: rem b y := by
  unfold rem
  rw [List.filter_append, List.filter_cons]
  simp [ne]
theorem mem_rem {row : List Str} {x y : Str} : x ∈ rem row y ↔ x ∈ row ∧ x ≠ y := by
  unfold rem
  rw [List.mem_filter]
  simp
theorem Ahead.rem {row : List Str} {h x y : Str} (k : Ahead row h x) (n1 : h ≠ y) (n2 : x ≠ y) : Ahead (Lk.rem row y) h x := by
  obtain ⟨a, b, rfl, m⟩ := k
  exact ⟨Lk.rem a y, Lk.rem b y, rem_app a b n2, mem_rem.mpr ⟨m, n1⟩⟩
theorem Ahead.of_rem {row : List Str} {h x y : Str} (hd : row.Nodup) (k : Ahead (Lk.rem row y) h x) : Ahead row h x := by
  have hx := mem_rem.mp k.mem.2
  obtain ⟨a', b', e', m⟩ := k
  obtain ⟨a, b, e⟩ := List.append_of_mem hx.1
  have e2 : Lk.rem row y = Lk.rem a y ++ x :: Lk.rem b y := by rw [e]; exact rem_app a b hx.2
  have u := split_uniq (rem_nodup hd) e' e2
  rw [u.1] at m
  exact ⟨a, b, e, (mem_rem.mp m).1⟩
theorem Red.ahead {ps : List (Str × Str)} {stay row n : List Str} (r : Red ps stay row n) : row.Nodup → ∀ {h x : Str}, Ahead n h x → Ahead row h x := by
  induction r with
  | done row => exact fun _ {h x} k => k
  | go y hy hs t ih => exact fun hd {h x} k => (ih (rem_nodup hd) k).of_rem hd
theorem Red.keeps {ps : List (Str × Str)} {stay row n : List Str} (r : Red ps stay row n) : row.Nodup → ∀ {h x : Str}, x ∈ n → Ahead row h x → frd ps x h = true → Ahead n h x := by
  induction r with
  | done row => exact fun _ {h x} _ k _ => k
  | @go row n y hy hs t ih =>
    intro hd h x hx k hf
    have nx : x ≠ y := (mem_rem.mp (t.sub x hx)).2
    have nh : h ≠ y := fun z => by
      subst z
      obtain ⟨a, b, e, q1, _⟩ := hy
      obtain ⟨a', b', e', m⟩ := k
      have hxb : x ∈ b := by
        have hx' : x ∈ a ++ h :: b := by rw [← e, e']; simp
        rcases List.mem_append.mp hx' with z | z
        · exfalso
          obtain ⟨i, hi⟩ := List.mem_iff_getElem?.mp z
          have li : i < a.length := (List.getElem?_eq_some_iff.mp hi).1
          have r1 : row[i]? = some x := by rw [e, List.getElem?_append_left li]; exact hi
          have r2 : row[a.length]? = some h := by rw [e]; simp
          have := Ahead.lt hd ⟨a', b', e', m⟩ r2 r1
          omega
        · rcases List.mem_cons.mp z with z | z
          · exact absurd z nx
          · exact z
      have := q1 x hxb
      rw [frd_sym] at this
      rw [this] at hf
      cases hf
    exact ih (rem_nodup hd) hx (k.rem nh nx) hf
theorem optW_mem (w : Str) : w ∈ optW true w := by
  unfold optW
  simp
theorem words_friend {ps : List (Str × Str)} {row : List Str} {one other : Str} {i j : Nat} (h : i < j) (f : frd ps one other = true) : wordsOf ps row one other i j ≠ [] := fun z => by
  have m : ("friend" : Str) ∈ wordsOf ps row one other i j := by
    unfold wordsOf
    refine List.mem_append_right _ ?_
    rw [decide_eq_true h, f]
    exact optW_mem _
  rw [z] at m
  cases m
theorem words_behind {ps : List (Str × Str)} {row : List Str} {one other : Str} {i j : Nat} (h : i < j) (f : lastP (frd ps one) (row.take i) = none) : wordsOf ps row one other i j ≠ [] := fun z => by
  have m : ("behind" : Str) ∈ wordsOf ps row one other i j := by
    unfold wordsOf
    refine List.mem_append_left _ (List.mem_append_left _ ?_)
    rw [decide_eq_true h, decide_eq_true f]
    exact optW_mem _
  rw [z] at m
  cases m
theorem words_between {ps : List (Str × Str)} {row : List Str} {one other : Str} {i j k : Nat} (f : lastP (frd ps one) (row.take i) = some k) (h1 : k < j) (h2 : j < i) : wordsOf ps row one other i j ≠ [] := fun z => by
  have m : ("between" : Str) ∈ wordsOf ps row one other i j := by
    unfold wordsOf
    refine List.mem_append_left _ (List.mem_append_right _ ?_)
    rw [f]
    show _ ∈ optW (decide (k < j) && decide (j < i)) "between"
    rw [decide_eq_true h1, decide_eq_true h2]
    exact optW_mem _
  rw [z] at m
  cases m
theorem words_self {ps : List (Str × Str)} {row : List Str} {x : Str} {i : Nat} (hl : i ≤ row.length) : wordsOf ps row x x i i = [] := by
  unfold wordsOf
  rw [decide_eq_false (Nat.lt_irrefl i), Bool.and_false, Bool.false_and]
  have : btw i i (lastP (frd ps x) (row.take i)) = false := by
    unfold btw
    split
    · rfl
    · rw [decide_eq_false (Nat.lt_irrefl i), Bool.and_false]
  rw [this]
  rfl
theorem bars_left {ps : List (Str × Str)} {row left : List Str} {x : Str} {i : Nat} (hd : row.Nodup) (r : Red ps [] row left) (nf : Nf ps [] left) (hx : x ∈ left) (hi : row[i]? = some x) : ∃ z j, z ∈ left ∧ row[j]? = some z ∧ wordsOf ps row x z i j ≠ [] := by
  have ndl := r.nodup hd
  obtain ⟨a, b, e⟩ := List.append_of_mem hx
  have nl : ¬ LooseP ps a b x := fun z => by
    have := nf x ⟨a, b, e, z⟩
    cases this
  have place : ∀ z ∈ left, ∃ j, row[j]? = some z := fun z hz => List.mem_iff_getElem?.mp (r.sub z hz)
  have behind : ∀ z ∈ b, Ahead left x z := fun z hz => by
    obtain ⟨b1, b2, eb⟩ := List.append_of_mem hz
    exact ⟨a ++ x :: b1, b2, by rw [e, eb]; simp, by simp⟩
  by_cases c : ∃ y ∈ b, frd ps x y = true
  · obtain ⟨y, hy, f⟩ := c
    have my : y ∈ left := by rw [e]; simp [hy]
    obtain ⟨j, hj⟩ := place y my
    exact ⟨y, j, my, hj, words_friend ((r.ahead hd (behind y hy)).lt hd hi hj) f⟩
  · have nb : ∀ y ∈ b, frd ps x y = false := fun y hy => by
      cases f : frd ps x y with
      | false => rfl
      | true => exact absurd ⟨y, hy, f⟩ c
    have ahd : ∀ y ∈ a, Ahead left y x := fun y hy => ⟨a, b, e, hy⟩
    cases hk : lastP (frd ps x) (row.take i) with
    | none =>
      have na := lastP_no.mp hk
      have nfa : ∀ y ∈ a, frd ps x y = false := fun y hy => by
        obtain ⟨j, hj⟩ := place y (ahd y hy).mem.1
        have lt := (r.ahead hd (ahd y hy)).lt hd hj hi
        refine na y (List.mem_iff_getElem?.mpr ⟨j, ?_⟩)
        rw [List.getElem?_take, if_pos lt]
        exact hj
      cases b with
      | nil => exact absurd ⟨nb, .inr ⟨nfa, rfl⟩⟩ nl
      | cons z b' =>
        have mz : z ∈ left := by rw [e]; simp
        obtain ⟨j, hj⟩ := place z mz
        exact ⟨z, j, mz, hj, words_behind ((r.ahead hd (behind z (List.mem_cons_self ..))).lt hd hi hj) hk⟩
    | some k =>
      obtain ⟨h, h1, h2, h3⟩ := lastP_some hk
      have hki : k < i := by
        have := lastP_lt hk
        rw [List.length_take] at this
        omega
      rw [List.getElem?_take, if_pos hki] at h1
      have ahr : Ahead row h x := by
        have sp := split_at hi
        refine ⟨row.take i, row.drop (i + 1), sp, List.mem_iff_getElem?.mpr ⟨k, ?_⟩⟩
        rw [List.getElem?_take, if_pos hki]
        exact h1
      obtain ⟨a', b', e', m⟩ := r.keeps hd hx ahr h2
      have u := split_uniq ndl e' e
      rw [u.1] at m
      obtain ⟨a1, a2, ea⟩ := List.append_of_mem m
      cases a2 with
      | nil => exact absurd ⟨nb, .inl ⟨a1, h, ea, h2⟩⟩ nl
      | cons z a3 =>
        have mz : z ∈ left := by rw [e, ea]; simp
        obtain ⟨j, hj⟩ := place z mz
        have k1 : Ahead left h z := ⟨a1 ++ [h], a3 ++ x :: b, by rw [e, ea]; simp, by simp⟩
        have k2 : Ahead left z x := ahd z (by rw [ea]; simp)
        exact ⟨z, j, mz, hj, words_between hk ((r.ahead hd k1).lt hd h1 hj) ((r.ahead hd k2).lt hd hj hi)⟩
theorem nd_len : ∀ (l m : List Str), l.Nodup → (∀ x ∈ l, x ∈ m) → l.length ≤ m.length
  | [], _, _, _ => Nat.zero_le _
  | x :: l, m, h, s => by
    obtain ⟨n1, n2⟩ := List.nodup_cons.mp h
    obtain ⟨a, b, e⟩ := List.append_of_mem (s x (List.mem_cons_self ..))
    have ih := nd_len l (a ++ b) n2 fun y hy => by
      have ne : y ≠ x := fun z => n1 (z ▸ hy)
      have := s y (List.mem_cons_of_mem _ hy)
      rw [e] at this
      rcases List.mem_append.mp this with z | z
      · exact List.mem_append_left _ z
      · rcases List.mem_cons.mp z with z | z
        · exact absurd z ne
        · exact List.mem_append_right _ z
    rw [List.length_append] at ih
    rw [e, List.length_append, List.length_cons, List.length_cons]
    omega
/-! ### rings -/
def wordsAt (ps : List (Str × Str)) (row : List Str) (a b : Str) : List Str := wordsOf ps row a b (row.idxOf a) (row.idxOf b)
def barredL (ps : List (Str × Str)) (row left : List Str) (who : Str) : List (Str × Str) := left.flatMap fun o => (wordsAt ps row who o).map fun w => (o, w)
def nextB (ps : List (Str × Str)) (row left : List Str) (who : Str) : Str × Str := (barredL ps row left who).headD (who, "")
def ringN (ps : List (Str × Str)) (row left : List Str) : Nat → List (Str × Str) → Str → List (Str × Str)
  | 0, path, _ => path
  | n + 1, path, who => if who ∈ path.map (·.1) then path.drop ((path.map (·.1)).idxOf who) else ringN ps row left n (path ++ [(who, (nextB ps row left who).2)]) (nextB ps row left who).1
def ringOf (ps : List (Str × Str)) (row left : List Str) : List (Str × Str) := ringN ps row left (left.length + 1) [] (left.headD "")
theorem barred_mem {ps : List (Str × Str)} {row left : List Str} {who : Str} {q : Str × Str} : q ∈ barredL ps row left who ↔ q.1 ∈ left ∧ q.2 ∈ wordsAt ps row who q.1 := by
  unfold barredL
  rw [List.mem_flatMap]
  constructor
  · rintro ⟨o, ho, m⟩
    obtain ⟨w, hw, rfl⟩ := List.mem_map.mp m
    exact ⟨ho, hw⟩
  · rintro ⟨h1, h2⟩
    exact ⟨q.1, h1, List.mem_map.mpr ⟨q.2, h2, rfl⟩⟩
theorem barred_ne {ps : List (Str × Str)} {row left : List Str} {x : Str} (hd : row.Nodup) (r : Red ps [] row left) (nf : Nf ps [] left) (hx : x ∈ left) : barredL ps row left x ≠ [] := fun e => by
  obtain ⟨i, hi⟩ := List.mem_iff_getElem?.mp (r.sub x hx)
  obtain ⟨z, j, mz, hj, hw⟩ := bars_left hd r nf hx hi
  obtain ⟨w, hw⟩ := List.exists_mem_of_ne_nil _ hw
  have m : (z, w) ∈ barredL ps row left x := barred_mem.mpr ⟨mz, by
    show w ∈ wordsOf ps row x z (row.idxOf x) (row.idxOf z)
    rw [idx_at hd hi, idx_at hd hj]
    exact hw⟩
  rw [e] at m
  cases m
theorem next_mem {ps : List (Str × Str)} {row left : List Str} {x : Str} (h : barredL ps row left x ≠ []) : nextB ps row left x ∈ barredL ps row left x := by
  unfold nextB
  cases e : barredL ps row left x with
  | nil => exact absurd e h
  | cons q l => exact List.mem_cons_self ..
structure RingOk (ps : List (Str × Str)) (row left : List Str) (ring : List (Str × Str)) : Prop where
  two : 2 ≤ ring.length
  nd : (ring.map (·.1)).Nodup
  sub : ∀ x ∈ ring.map (·.1), x ∈ left
  bar : ∀ (i : Nat) (x w y : Str), ring[i]? = some (x, w) → ((ring.map (·.1)).drop 1 ++ (ring.map (·.1)).take 1)[i]? = some y → w ∈ wordsAt ps row x y
theorem ring_ok {ps : List (Str × Str)} {row left : List Str} (hd : row.Nodup) (r : Red ps [] row left) (nf : Nf ps [] left) : ∀ (m : Nat) (path : List (Str × Str)) (who : Str), m + path.length = left.length + 1 → (path.map (·.1)).Nodup → (∀ x ∈ path.map (·.1), x ∈ left) → who ∈ left →
    (∀ (i : Nat) (x w : Str), path[i]? = some (x, w) → ∃ y, (path.map (·.1) ++ [who])[i + 1]? = some y ∧ w ∈ wordsAt ps row x y) → RingOk ps row left (ringN ps row left m path who)
  | 0, path, who, hm, hn, hs, hw, hc => by
    have := nd_len _ _ hn hs
    rw [List.length_map] at this
    omega
  | m + 1, path, who, hm, hn, hs, hw, hc => by
    unfold ringN
    by_cases c : who ∈ path.map (·.1)
    · rw [if_pos c]
      have hk : (path.map (·.1)).idxOf who < (path.map (·.1)).length := List.idxOf_lt_length_iff.mpr c
      have ek : (path.map (·.1))[(path.map (·.1)).idxOf who]? = some who := by rw [List.getElem?_eq_getElem hk, List.getElem_idxOf]
      generalize (path.map (·.1)).idxOf who = k at hk ek
      rw [List.length_map] at hk
      have bar : ∀ (i : Nat) (x w y : Str), (path.drop k)[i]? = some (x, w) → (((path.drop k).map (·.1)).drop 1 ++ ((path.drop k).map (·.1)).take 1)[i]? = some y → w ∈ wordsAt ps row x y := by
        intro i x w y h1 h2
        rw [List.getElem?_drop] at h1
        obtain ⟨y', h3, h4⟩ := hc _ x w h1
        have et : ((path.drop k).map (·.1)).take 1 = [who] := by
          rw [List.map_drop]
          have hne : (path.map (·.1)).drop k = who :: (path.map (·.1)).drop (k + 1) := by
            rw [List.getElem?_eq_some_iff] at ek
            obtain ⟨q1, q2⟩ := ek
            rw [List.drop_eq_getElem_cons q1, q2]
          rw [hne]
          rfl
        have ed : (path.map (·.1) ++ [who])[k + i + 1]? = (((path.drop k).map (·.1)).drop 1 ++ ((path.drop k).map (·.1)).take 1)[i]? := by
          rw [et, List.map_drop, List.drop_drop, ← List.drop_append_of_le_length (l₂ := [who]) (by rw [List.length_map]; omega), List.getElem?_drop]
          congr 1
          omega
        rw [ed, h2] at h3
        cases h3
        exact h4
      have nd' : ((path.drop k).map (·.1)).Nodup := by
        rw [List.map_drop]
        exact hn.sublist (List.drop_sublist _ _)
      refine ⟨?_, nd', fun x hx => hs x ?_, bar⟩
      · rw [List.length_drop]
        refine Classical.byContradiction fun z => ?_
        have e1 : k + 1 = path.length := by omega
        obtain ⟨⟨x, w⟩, hx⟩ : ∃ q, path[k]? = some q := ⟨path[k]'hk, List.getElem?_eq_getElem hk⟩
        have ex : x = who := by
          rw [List.getElem?_map, hx] at ek
          exact Option.some.inj ek
        have ed : (path.drop k) = [(x, w)] := by
          have q := (List.getElem?_eq_some_iff.mp hx)
          rw [List.drop_eq_getElem_cons hk, q.2, List.drop_eq_nil_of_le (by omega)]
        have := bar 0 x w x (by rw [ed]; rfl) (by rw [ed]; rfl)
        have hxr : row.idxOf x ≤ row.length := List.idxOf_le_length
        unfold wordsAt at this
        rw [words_self hxr] at this
        cases this
      · rw [List.map_drop] at hx
        exact List.mem_of_mem_drop hx
    · rw [if_neg c]
      have nx := barred_mem.mp (next_mem (barred_ne hd r nf hw))
      refine ring_ok hd r nf m _ _ ?_ ?_ ?_ nx.1 ?_
      · rw [List.length_append]
        show m + (path.length + 1) = _
        omega
      · rw [List.map_append]
        refine List.nodup_append.mpr ⟨hn, by simp, ?_⟩
        intro x hx y hy
        have ey : y = who := by simpa using hy
        rw [ey]
        exact fun z => c (z ▸ hx)
      · intro x hx
        rw [List.map_append] at hx
        rcases List.mem_append.mp hx with z | z
        · exact hs x z
        · have : x = who := by simpa using z
          rw [this]
          exact hw
      · intro i x w h
        rw [List.map_append]
        show ∃ y, (path.map (·.1) ++ [who] ++ [(nextB ps row left who).1])[i + 1]? = some y ∧ _
        by_cases hi : i < path.length
        · rw [List.getElem?_append_left hi] at h
          obtain ⟨y, h1, h2⟩ := hc i x w h
          refine ⟨y, ?_, h2⟩
          rw [List.getElem?_append_left (by rw [List.length_append, List.length_map]; show i + 1 < path.length + 1; omega)]
          exact h1
        · have li : i < (path ++ [(who, (nextB ps row left who).2)]).length := (List.getElem?_eq_some_iff.mp h).1
          rw [List.length_append] at li
          have ei : i = path.length := by
            have : i < path.length + 1 := li
            omega
          subst ei
          have : (path ++ [(who, (nextB ps row left who).2)])[path.length]? = some (who, (nextB ps row left who).2) := by simp
          rw [this] at h
          cases h
          refine ⟨(nextB ps row left who).1, ?_, nx.2⟩
          have le : (path.map (·.1) ++ [who]).length = path.length + 1 := by rw [List.length_append, List.length_map]; rfl
          rw [← le]
          simp
theorem ringOf_ok {ps : List (Str × Str)} {row left : List Str} (hd : row.Nodup) (r : Red ps [] row left) (nf : Nf ps [] left) (ne : left ≠ []) : RingOk ps row left (ringOf ps row left) := by
  refine ring_ok hd r nf _ [] _ rfl List.nodup_nil (fun _ h => nomatch h) ?_ (fun i x w h => by simp at h)
  cases left with
  | nil => exact absurd rfl ne
  | cons a l => exact List.mem_cons_self ..
theorem ring_len {ps : List (Str × Str)} {row left : List Str} (h : RingOk ps row left ring) : ring.length ≤ left.length := by
  have := nd_len _ _ h.nd h.sub
  rw [List.length_map] at this
  exact this
/-! ### walks within walks -/
/-! ### promises -/
/-- what order_of tells: p the list in it -/
def OrdAt (H : Hp) (p : Addr) (word : Str) (ps : List (Str × Str)) (row : List Str) : Prop :=
  (goneR ps [] row = [] ∧ word = "order" ∧ H p = some (.lst ((goneO ps [] row).reverse.map V.str))) ∨ (goneR ps [] row ≠ [] ∧ word = "ring" ∧ ∃ bs : List B3, H p = some (.lst (refs bs)) ∧ PairsAt H bs ∧ bs.map (·.2) = ringOf ps row (goneR ps [] row))
theorem OrdAt.same {H H' : Hp} {p : Addr} {word : Str} {ps : List (Str × Str)} {row : List Str} (s : Same H H') (h : OrdAt H p word ps row) : OrdAt H' p word ps row :=
  h.elim (fun ⟨h1, h2, h3⟩ => .inl ⟨h1, h2, s _ _ h3⟩) (fun ⟨h1, h2, bs, h3, h4, h5⟩ => .inr ⟨h1, h2, bs, s _ _ h3, h4.same s, h5⟩)
end Lk
set_option maxRecDepth 100000
set_option maxHeartbeats 4000000
namespace Lk
open PySem PySem.Spec PyProof.Rows L2
/-! ### len(set(xs)), xs a list of texts, none of them twice -/
section
variable {P : Program} {w : World} {A : Around} {E : Value → Shared → Prop} {s : Shared}
abbrev setOb (led : Bool) : Obj := { cls := .type "set", dict := none, data := .set #[] 0 (.fresh 0 0 led) }
end
section
variable {X : Cx}
end
end Lk
set_option maxRecDepth 100000
set_option maxHeartbeats 4000000
namespace Lk
open PySem PySem.Spec PyProof.Rows L2

/-! ### who stands ahead of whom, by places -/
theorem ix_at {row : List Str} {x : Str} (hx : x ∈ row) : row[row.idxOf x]? = some x := by
  have hl : row.idxOf x < row.length := List.idxOf_lt_length_iff.mpr hx
  rw [List.getElem?_eq_getElem hl, List.getElem_idxOf]
theorem ahead_ix {row : List Str} {x y : Str} (hd : row.Nodup) : Ahead row x y ↔ x ∈ row ∧ y ∈ row ∧ row.idxOf x < row.idxOf y := by
  constructor
  · intro k
    exact ⟨k.mem.1, k.mem.2, k.lt hd (ix_at k.mem.1) (ix_at k.mem.2)⟩
  · rintro ⟨hx, hy, h⟩
    refine ⟨row.take (row.idxOf y), row.drop (row.idxOf y + 1), split_at (ix_at hy), ?_⟩
    exact List.mem_iff_getElem?.mpr ⟨row.idxOf x, by rw [List.getElem?_take, if_pos h]; exact ix_at hx⟩
theorem mem_take_ix {row : List Str} {x : Str} {i : Nat} (hd : row.Nodup) : x ∈ row.take i ↔ x ∈ row ∧ row.idxOf x < i := by
  constructor
  · intro h
    obtain ⟨j, hj⟩ := List.mem_iff_getElem?.mp h
    rw [List.getElem?_take] at hj
    split at hj
    · rename_i c
      rw [idx_at hd hj]
      exact ⟨List.mem_of_getElem? hj, c⟩
    · cases hj
  · rintro ⟨h1, h2⟩
    exact List.mem_iff_getElem?.mpr ⟨row.idxOf x, by rw [List.getElem?_take, if_pos h2]; exact ix_at h1⟩
theorem rem_ix {row : List Str} {x u v : Str} (hd : row.Nodup) (hu : u ∈ row) (hv : v ∈ row) (nu : u ≠ x) (nv : v ≠ x) : (rem row x).idxOf u < (rem row x).idxOf v ↔ row.idxOf u < row.idxOf v := by
  have mu := mem_rem.mpr ⟨hu, nu⟩
  have mv := mem_rem.mpr ⟨hv, nv⟩
  constructor
  · intro h
    exact ((ahead_ix hd).mp (((ahead_ix (rem_nodup hd)).mpr ⟨mu, mv, h⟩).of_rem hd)).2.2
  · intro h
    exact ((ahead_ix (rem_nodup hd)).mp (((ahead_ix hd).mpr ⟨hu, hv, h⟩).rem nu nv)).2.2

/-! ### by which word one bars another -/
def BarsBy (ps : List (Str × Str)) (row : List Str) (a b w : Str) : Prop :=
  (w = "behind" ∧ (∀ h ∈ row, row.idxOf h < row.idxOf a → frd ps a h = false) ∧ row.idxOf a < row.idxOf b) ∨
  (w = "between" ∧ (∃ h ∈ row, frd ps a h = true ∧ row.idxOf h < row.idxOf a ∧ (∀ g ∈ row, row.idxOf g < row.idxOf a → frd ps a g = true → row.idxOf g ≤ row.idxOf h) ∧ row.idxOf h < row.idxOf b) ∧ row.idxOf b < row.idxOf a) ∨
  (w = "friend" ∧ row.idxOf a < row.idxOf b ∧ frd ps a b = true)
def Bars (ps : List (Str × Str)) (row : List Str) (a b : Str) : Prop := ∃ w, BarsBy ps row a b w
/-- who can have come last, by places -/
theorem loose_ix {ps : List (Str × Str)} {row : List Str} {x : Str} (hd : row.Nodup) : LooseIn ps row x ↔ x ∈ row ∧ (∀ y ∈ row, row.idxOf x < row.idxOf y → frd ps x y = false) ∧ ((∃ f ∈ row, row.idxOf f + 1 = row.idxOf x ∧ frd ps x f = true) ∨ ((∀ y ∈ row, row.idxOf y < row.idxOf x → frd ps x y = false) ∧ ∀ y ∈ row, ¬ row.idxOf x < row.idxOf y)) := by
  have parts : ∀ {a b : List Str}, row = a ++ x :: b → row.idxOf x = a.length ∧ (∀ y, y ∈ a ↔ y ∈ row ∧ row.idxOf y < row.idxOf x) ∧ (∀ y, y ∈ b ↔ y ∈ row ∧ row.idxOf x < row.idxOf y) := by
    intro a b e
    have ex : row.idxOf x = a.length := idx_at hd (by rw [e]; simp)
    have ta : row.take (row.idxOf x) = a := by rw [ex, e]; simp
    refine ⟨ex, fun y => ?_, fun y => ?_⟩
    · rw [← ta, mem_take_ix hd]
    · constructor
      · intro hy
        obtain ⟨j, hj⟩ := List.mem_iff_getElem?.mp hy
        have g : row[a.length + 1 + j]? = some y := by
          rw [e, List.getElem?_append_right (by omega), show a.length + 1 + j - a.length = j + 1 by omega, List.getElem?_cons_succ]
          exact hj
        refine ⟨List.mem_of_getElem? g, ?_⟩
        rw [idx_at hd g]
        omega
      · rintro ⟨hy, h⟩
        have hm : y ∈ a ++ x :: b := e ▸ hy
        rcases List.mem_append.mp hm with m | m
        · have := ((mem_take_ix hd).mp (ta.symm ▸ m : y ∈ row.take (row.idxOf x))).2
          omega
        · rcases List.mem_cons.mp m with z | z
          · subst z
            omega
          · exact z
  constructor
  · rintro ⟨a, b, e, q1, q2⟩
    obtain ⟨ex, ha, hb⟩ := parts e
    refine ⟨by rw [e]; simp, fun y hy h => q1 y ((hb y).mpr ⟨hy, h⟩), ?_⟩
    rcases q2 with ⟨a', f, ea, hf⟩ | ⟨h1, h2⟩
    · refine .inl ⟨f, ((ha f).mp (by rw [ea]; simp)).1, ?_, hf⟩
      have : row.idxOf f = a'.length := idx_at hd (by rw [e, ea]; simp)
      rw [this, ex, ea]
      simp
    · refine .inr ⟨fun y hy h => h1 y ((ha y).mpr ⟨hy, h⟩), fun y hy h => ?_⟩
      have := (hb y).mpr ⟨hy, h⟩
      rw [h2] at this
      cases this
  · rintro ⟨hx, q1, q2⟩
    obtain ⟨a, b, e⟩ := List.append_of_mem hx
    obtain ⟨ex, ha, hb⟩ := parts e
    refine ⟨a, b, e, fun y hy => q1 y ((hb y).mp hy).1 ((hb y).mp hy).2, ?_⟩
    rcases q2 with ⟨f, hf, h1, h2⟩ | ⟨h1, h2⟩
    · refine .inl ?_
      have hfa : f ∈ a := (ha f).mpr ⟨hf, by omega⟩
      have hne : a ≠ [] := fun z => by rw [z] at hfa; cases hfa
      refine ⟨a.dropLast, a.getLast hne, (List.dropLast_concat_getLast hne).symm, ?_⟩
      have ge : row[a.length - 1]? = some (a.getLast hne) := by
        have lp : 0 < a.length := List.length_pos_iff.mpr hne
        rw [e, List.getElem?_append_left (by omega), ← List.getLast?_eq_getElem?, List.getLast?_eq_some_getLast hne]
      have gf := ix_at hf
      rw [show row.idxOf f = a.length - 1 by omega, ge] at gf
      rw [Option.some.inj gf]
      exact h2
    · refine .inr ⟨fun y hy => h1 y ((ha y).mp hy).1 ((ha y).mp hy).2, ?_⟩
      cases b with
      | nil => rfl
      | cons y b => exact absurd ((hb y).mp List.mem_cons_self).2 (h2 y ((hb y).mp List.mem_cons_self).1)
theorem loose_bars {ps : List (Str × Str)} {row : List Str} {x : Str} (hd : row.Nodup) (hx : x ∈ row) : LooseIn ps row x ↔ ∀ b ∈ row, ¬ Bars ps row x b := by
  rw [loose_ix hd]
  constructor
  · rintro ⟨_, q1, q2⟩ b hb ⟨w, h⟩
    rcases h with ⟨_, h1, h2⟩ | ⟨_, ⟨h, h1, h2, h3, h4, h5⟩, h6⟩ | ⟨_, h1, h2⟩
    · rcases q2 with ⟨f, hf, e, hf2⟩ | ⟨_, h3⟩
      · rw [h1 f hf (by omega)] at hf2
        cases hf2
      · exact h3 b hb h2
    · rcases q2 with ⟨f, hf, e, hf2⟩ | ⟨h7, _⟩
      · have := h4 f hf (by omega) hf2
        omega
      · rw [h7 h h1 h3] at h2
        cases h2
    · rw [q1 b hb h1] at h2
      cases h2
  · intro q
    have fr : ∀ y ∈ row, row.idxOf x < row.idxOf y → frd ps x y = false := fun y hy h => by
      refine Bool.eq_false_iff.mpr fun c => ?_
      exact q y hy ⟨"friend", .inr (.inr ⟨rfl, h, c⟩)⟩
    refine ⟨hx, fr, ?_⟩
    by_cases c : ∃ h ∈ row, frd ps x h = true ∧ row.idxOf h < row.idxOf x
    · refine .inl ?_
      -- the last one of these
      have : ∀ n, ∀ h ∈ row, frd ps x h = true → row.idxOf h < row.idxOf x → row.idxOf x - row.idxOf h ≤ n → ∃ f ∈ row, row.idxOf f + 1 = row.idxOf x ∧ frd ps x f = true := by
        intro n
        induction n with
        | zero => intro h _ _ h3 h4; omega
        | succ n ih =>
          intro h h1 h2 h3 h4
          by_cases c2 : ∃ g ∈ row, row.idxOf g < row.idxOf x ∧ frd ps x g = true ∧ row.idxOf h < row.idxOf g
          · obtain ⟨g, g1, g2, g3, g4⟩ := c2
            exact ih g g1 g3 g2 (by omega)
          · refine ⟨h, h1, ?_, h2⟩
            refine Classical.byContradiction fun c3 => ?_
            have hl : row.idxOf h + 1 < row.length := Nat.lt_trans (by omega : row.idxOf h + 1 < row.idxOf x) (List.idxOf_lt_length_iff.mpr hx)
            have gz := List.getElem?_eq_getElem hl
            have iz := idx_at hd gz
            refine q _ (List.mem_of_getElem? gz) ⟨"between", .inr (.inl ⟨rfl, ⟨h, h1, h2, h3, fun g g1 g2 g3 => ?_, by omega⟩, by omega⟩)⟩
            exact Nat.not_lt.mp fun g4 => c2 ⟨g, g1, g2, g3, g4⟩
      obtain ⟨h, h1, h2, h3⟩ := c
      exact this _ h h1 h2 h3 (Nat.le_refl _)
    · have no : ∀ y ∈ row, row.idxOf y < row.idxOf x → frd ps x y = false := fun y hy h => Bool.eq_false_iff.mpr fun z => c ⟨y, hy, z, h⟩
      exact .inr ⟨no, fun y hy h => q y hy ⟨"behind", .inl ⟨rfl, no, h⟩⟩⟩
/-- of the others it changes nothing whether one who can have come last is there -/
theorem barsby_rem {ps : List (Str × Str)} {row : List Str} {x u v w : Str} (hd : row.Nodup) (lx : LooseIn ps row x) (hu : u ∈ row) (hv : v ∈ row) (nu : u ≠ x) (nv : v ≠ x) : BarsBy ps (rem row x) u v w ↔ BarsBy ps row u v w := by
  obtain ⟨hx, q1, _⟩ := (loose_ix hd).mp lx
  have nf : row.idxOf x < row.idxOf u → frd ps u x = false := fun h => by rw [frd_comm]; exact q1 u hu h
  have ii : ∀ {y z : Str}, y ∈ row → z ∈ row → y ≠ x → z ≠ x → ((rem row x).idxOf y < (rem row x).idxOf z ↔ row.idxOf y < row.idxOf z) := fun h1 h2 h3 h4 => rem_ix hd h1 h2 h3 h4
  unfold BarsBy
  refine or_congr (and_congr Iff.rfl (and_congr ?_ (ii hu hv nu nv))) (or_congr (and_congr Iff.rfl (and_congr ?_ (ii hv hu nv nu))) (and_congr Iff.rfl (and_congr (ii hu hv nu nv) Iff.rfl)))
  · constructor
    · intro h y hy hl
      by_cases c : y = x
      · rw [c] at hl ⊢
        exact nf hl
      · exact h y (mem_rem.mpr ⟨hy, c⟩) ((ii hy hu c nu).mpr hl)
    · intro h y hy hl
      have m := mem_rem.mp hy
      exact h y m.1 ((ii m.1 hu m.2 nu).mp hl)
  · constructor
    · rintro ⟨h, h1, h2, h3, h4, h5⟩
      have m := mem_rem.mp h1
      refine ⟨h, m.1, h2, (ii m.1 hu m.2 nu).mp h3, fun g g1 g2 g3 => ?_, (ii m.1 hv m.2 nv).mp h5⟩
      by_cases c : g = x
      · rw [c] at g2 g3
        rw [nf g2] at g3
        cases g3
      · have := h4 g (mem_rem.mpr ⟨g1, c⟩) ((ii g1 hu c nu).mpr g2) g3
        exact Nat.not_lt.mp fun z => absurd ((ii m.1 g1 m.2 c).mpr z) (by omega)
    · rintro ⟨h, h1, h2, h3, h4, h5⟩
      have nh : h ≠ x := fun z => by
        rw [z] at h2 h3
        rw [nf h3] at h2
        cases h2
      refine ⟨h, mem_rem.mpr ⟨h1, nh⟩, h2, (ii h1 hu nh nu).mpr h3, fun g g1 g2 g3 => ?_, (ii h1 hv nh nv).mpr h5⟩
      have m := mem_rem.mp g1
      have := h4 g m.1 ((ii m.1 hu m.2 nu).mp g2) g3
      exact Nat.not_lt.mp fun z => absurd ((ii h1 m.1 nh m.2).mp z) (by omega)
theorem idx_snoc {o : List Str} {x u : Str} (hu : u ∈ o) : (o ++ [x]).idxOf u = o.idxOf u := by
  rw [List.idxOf_append, if_pos hu]
theorem idx_snoc_last {o : List Str} {x : Str} (hx : x ∉ o) : (o ++ [x]).idxOf x = o.length := by
  rw [List.idxOf_append, if_neg hx]
  simp
/-- the orders are just the lists in which each stands ahead of all that it bars -/
theorem lin_iff {ps : List (Str × Str)} (irr : Irr ps) : ∀ (n : Nat) (order row : List Str), order.length = n → order.Nodup → order.Perm row → (standOf ps order = row ↔ ∀ u ∈ row, ∀ v ∈ row, Bars ps row u v → order.idxOf u < order.idxOf v)
  | 0, order, row, hn, hd, pm => by
    have e : order = [] := List.length_eq_zero_iff.mp hn
    subst e
    have e2 : row = [] := List.nil_perm.mp pm
    subst e2
    exact ⟨(fun _ u hu => nomatch hu), fun _ => rfl⟩
  | n + 1, order, row, hn, hd, pm => by
    rcases List.eq_nil_or_concat order with z | ⟨o, x, z⟩
    · rw [z] at hn
      cases hn
    rw [List.concat_eq_append] at z
    subst z
    have hdr : row.Nodup := pm.nodup_iff.mp hd
    have hd' : (x :: o).Nodup := ((List.perm_append_singleton x o).nodup_iff).mp hd
    obtain ⟨nx, hdo⟩ := List.nodup_cons.mp hd'
    have hx : x ∈ row := pm.mem_iff.mp (by simp)
    have on : o.length = n := by
      rw [List.length_append] at hn
      have : o.length + 1 = n + 1 := hn
      omega
    have pr : o.Perm (rem row x) := by
      have p1 : (x :: o).Perm row := (List.perm_append_singleton x o).symm.trans pm
      have p2 : (rem (x :: o) x).Perm (rem row x) := p1.filter _
      have e1 : rem (x :: o) x = o := rem_split (a := []) hd'
      rw [e1] at p2
      exact p2
    have mo : ∀ u ∈ row, u ≠ x → u ∈ o := fun u hu ne => pr.mem_iff.mpr (mem_rem.mpr ⟨hu, ne⟩)
    have ih := lin_iff irr n o (rem row x) on hdo pr
    rw [standOf_app]
    constructor
    · intro e u hu v hv bv
      have hs : (x :: standOf ps o).Nodup := ((stand_perm ps o).cons x).nodup_iff.mpr hd'
      have er := come_rem (ps := ps) hs
      have lx := come_loose ps (standOf ps o) x
      rw [e] at er lx
      have nu : u ≠ x := fun z => by
        subst z
        exact (loose_bars hdr hx).mp lx v hv bv
      have uo := mo u hu nu
      rw [idx_snoc uo]
      by_cases cv : v = x
      · subst cv
        rw [idx_snoc_last nx]
        exact List.idxOf_lt_length_iff.mpr uo
      · rw [idx_snoc (mo v hv cv)]
        obtain ⟨w, bw⟩ := bv
        exact ih.mp er.symm u (mem_rem.mpr ⟨hu, nu⟩) v (mem_rem.mpr ⟨hv, cv⟩) ⟨w, (barsby_rem hdr lx hu hv nu cv).mpr bw⟩
    · intro q
      have lx : LooseIn ps row x := (loose_bars hdr hx).mpr fun b hb bb => by
        have h := q x hx b hb bb
        rw [idx_snoc_last nx] at h
        have : (o ++ [x]).idxOf b < (o ++ [x]).length := List.idxOf_lt_length_iff.mpr (pm.mem_iff.mpr hb)
        rw [List.length_append] at this
        have : (o ++ [x]).idxOf b < o.length + 1 := this
        omega
      have es : standOf ps o = rem row x := ih.mpr fun u hu v hv ⟨w, bw⟩ => by
        have mu := mem_rem.mp hu
        have mv := mem_rem.mp hv
        have h := q u mu.1 v mv.1 ⟨w, (barsby_rem hdr lx mu.1 mv.1 mu.2 mv.2).mp bw⟩
        rw [idx_snoc (mo u mu.1 mu.2), idx_snoc (mo v mv.1 mv.2)] at h
        exact h
      rw [es]
      exact loose_come irr hdr lx
end Lk
set_option maxRecDepth 100000
set_option maxHeartbeats 4000000
namespace Lk
open PySem PySem.Spec PyProof.Rows L2

/-! ### rows, be they lists or tuples -/
theorem RowAt.sq {K : PySem.W.Frag} {H : Hp} {a : Addr} {row : List Str} (h : RowAt H a row) : SqL K H a (row.map V.str) ∨ SqT K H a (row.map V.str) := h.elim (fun e => .inr e.sq) (fun e => .inl (.inl (.inl e)))
theorem RowAt.at_ {H H' : Hp} {a : Addr} {row : List Str} (h : RowAt H a row) (e : H' a = H a) : RowAt H' a row := by
  rcases h with ⟨o, h1, h2⟩ | h
  · exact .inl ⟨o, h1, e.trans h2⟩
  · exact .inr (e.trans h)
theorem RowAt.some_ {H : Hp} {a : Addr} {row : List Str} (h : RowAt H a row) : ∃ o, H a = some o := h.elim (fun ⟨_, _, e⟩ => ⟨_, e⟩) (fun e => ⟨_, e⟩)
theorem same_eq {H H' : Hp} {a : Addr} {o : HO} (s : Same H H') (h : H a = some o) : H' a = H a := (s _ _ h).trans h.symm
theorem RowAt.kept {H H' : Hp} {a : Addr} {row : List Str} (h : RowAt H a row) (s : Same H H') : H' a = H a := by
  obtain ⟨o, e⟩ := h.some_
  exact same_eq s e
theorem RowAt.oth {H H' : Hp} {a b : Addr} {row : List Str} (h : RowAt H a row) (s : Oth b H H') (hb : IsBox H b) : RowAt H' a row := h.elim (fun e => .inl (e.oth s hb)) (fun e => .inr (s _ _ (hb.ne_strs e) e))
section
variable {X : Cx}
end

/-! ### list comprehensions that leave some out -/
end Lk
set_option maxRecDepth 100000
set_option maxHeartbeats 4000000
namespace Lk
open PySem PySem.Spec PyProof.Rows L2

/-! ### list comprehensions, by what comes of each one -/
section
variable {J : It} {n : Nat} {G : Hp → Prop} {Y : Nat → Hp → V → Hp → Prop} {g : TG} {tt : TT} {te : TE} {vs : List Nat} {σ : L2.St} {H1 : Hp} {D : Addr} {Qd : Hp → Prop}
/-- each one's value is f of its place -/
theorem lc_vals (w : Walk J n G Y) (f : Nat → V) (hn : n ≤ 1000) (hD : H1 D = none) (hG : ∀ H', Same H1 H' → G H')
    (hs : ∀ (i : Nat) (x : V) (H H' : Hp) (k : V → Hp → Prop), i < n → Same H1 H → Y i H x H' → (∀ H4, Same H H4 → k (f i) H4) → g x (wipe σ vs) H' fun σ2 H2 => wipe σ2 vs = wipe σ vs ∧ te σ2 H2 k)
    (hd : ∀ H, Same H1 H → H D = some (.lst ((List.range n).map f)) → Qd H) :
    ∃ W : Nat → Nat → Hp → Prop, (∃ m, W 0 m (upd H1 D (.lst []))) ∧ ∀ i m H, W i m H →
      (J.stop i H ∧ Qd H) ∨ (J.go i H ∧ ∃ Nx : Hp → Prop, (∀ H', Nx H' → ∃ m', m' < m ∧ W (i + 1) m' H') ∧ ∀ x H', J.yld i H x H' → g x (wipe σ vs) H' fun σ2 H2 => wipe σ2 vs = wipe σ vs ∧ tYes σ2 H2 fun b H3 =>
        if b = true then te σ2 H3 fun y H4 => ∃ acc, H4 D = some (.lst acc) ∧ acc.length < sizeLine ∧ Nx (upd H4 D (.lst (acc ++ [y]))) else Nx H3) := by
  refine lc_it w (fun i H' => Same H1 H' ∧ H' D = some (.lst ((List.range i).map f))) ⟨same_upd hD, upd_same⟩ (fun i H' _ h => hG H' h.1) ?_ (fun H h => hd H h.1 h.2)
  rintro i v H H' hi ⟨s1, d1⟩ y
  refine hs i v H H' _ hi s1 y fun H4 s4 => ?_
  refine ⟨_, s4 _ _ d1, ?_, fun b o e => ?_, ?_⟩
  · rw [List.length_map, List.length_range]
    exact small1000 (by omega)
  · rw [upd_ne (ne_of_none e hD)]
    exact s4 _ _ (s1 _ _ e)
  · rw [upd_same, List.range_succ, List.map_append]
    rfl
/-- one of each -/
theorem lc_list {α : Type} (w : Walk J n G Y) (xs : List α) (f : α → V) (hl : xs.length = n) (hn : n ≤ 1000) (hD : H1 D = none) (hG : ∀ H', Same H1 H' → G H')
    (hs : ∀ (i : Nat) (x : α) (v : V) (H H' : Hp) (k : V → Hp → Prop), xs[i]? = some x → Same H1 H → Y i H v H' → (∀ H4, Same H H4 → k (f x) H4) → g v (wipe σ vs) H' fun σ2 H2 => wipe σ2 vs = wipe σ vs ∧ te σ2 H2 k)
    (hd : ∀ H, Same H1 H → H D = some (.lst (xs.map f)) → Qd H) :
    ∃ W : Nat → Nat → Hp → Prop, (∃ m, W 0 m (upd H1 D (.lst []))) ∧ ∀ i m H, W i m H →
      (J.stop i H ∧ Qd H) ∨ (J.go i H ∧ ∃ Nx : Hp → Prop, (∀ H', Nx H' → ∃ m', m' < m ∧ W (i + 1) m' H') ∧ ∀ x H', J.yld i H x H' → g x (wipe σ vs) H' fun σ2 H2 => wipe σ2 vs = wipe σ vs ∧ tYes σ2 H2 fun b H3 =>
        if b = true then te σ2 H3 fun y H4 => ∃ acc, H4 D = some (.lst acc) ∧ acc.length < sizeLine ∧ Nx (upd H4 D (.lst (acc ++ [y]))) else Nx H3) := by
  refine lc_it w (fun i H' => Same H1 H' ∧ H' D = some (.lst ((xs.take i).map f))) ⟨same_upd hD, upd_same⟩ (fun i H' _ h => hG H' h.1) ?_ (fun H h => hd H h.1 ?_)
  · rintro i v H H' hi ⟨s1, d1⟩ y
    obtain ⟨x, hx⟩ : ∃ x, xs[i]? = some x := ⟨xs[i]'(by omega), List.getElem?_eq_getElem (by omega)⟩
    refine hs i x v H H' _ hx s1 y fun H4 s4 => ?_
    refine ⟨_, s4 _ _ d1, ?_, fun b o e => ?_, ?_⟩
    · rw [List.length_map, List.length_take]
      exact small1000 (by omega)
    · rw [upd_ne (ne_of_none e hD)]
      exact s4 _ _ (s1 _ _ e)
    · rw [upd_same, List.take_add_one, hx, List.map_append]
      rfl
  · have d1 := h.2
    rw [List.take_of_length_le (by omega)] at d1
    exact d1
end
end Lk
set_option maxRecDepth 100000
set_option maxHeartbeats 4000000
namespace Lk
open PySem PySem.Spec PyProof.Rows L2
/-! ### the set of a tuple of texts -/
section
variable {P : Program} {w : World} {A : Around} {E : Value → Shared → Prop} {s : Shared}
end
section
variable {X : Cx}
end
end Lk
set_option maxRecDepth 100000
set_option maxHeartbeats 4000000
namespace Lk
open PySem PySem.Spec PyProof.Rows L2
theorem ord_ring {ps : List (Str × Str)} {row : List Str} (irr : Irr ps) (hd : row.Nodup) (ne : goneR ps [] row ≠ []) : RingOk ps row (goneR ps [] row) (ringOf ps row (goneR ps [] row)) := by
  obtain ⟨r1, r2, _⟩ := gone_red (stay := []) irr row.length row rfl hd
  exact ringOf_ok hd r1 r2 ne
theorem ord_len {ps : List (Str × Str)} {row : List Str} {bs : List B3} (irr : Irr ps) (hd : row.Nodup) (ne : goneR ps [] row ≠ []) (e : bs.map (·.2) = ringOf ps row (goneR ps [] row)) : bs.length ≤ row.length := by
  obtain ⟨r1, _, _⟩ := gone_red (stay := []) irr row.length row rfl hd
  have h := ring_len (ord_ring irr hd ne)
  rw [← e, List.length_map] at h
  exact Nat.le_trans h r1.len
theorem OrdAt.lst {H : Hp} {p : Addr} {w : Str} {ps : List (Str × Str)} {row : List Str} (irr : Irr ps) (hd : row.Nodup) (hn : row.length ≤ 100) (h : OrdAt H p w ps row) : ∃ xs, H p = some (.lst xs) ∧ xs.length ≤ 100 ∧
    (∀ ke H', Same H H' → H' ke = some (.lst xs) → OrdAt H' ke w ps row) ∧ (∀ ke o', ke ≠ p → H ke = some (.lst xs) → OrdAt (upd H p o') ke w ps row) := by
  obtain ⟨_, _, gl⟩ := gone_red (stay := []) irr row.length row rfl hd
  rcases h with ⟨a1, a2, a3⟩ | ⟨a1, a2, bs, a3, a4, a5⟩
  · exact ⟨_, a3, by rw [List.length_map, List.length_reverse]; omega, fun ke H' s e => .inl ⟨a1, a2, e⟩, fun ke o' ne e => .inl ⟨a1, a2, (upd_ne ne).trans e⟩⟩
  · have bl := ord_len irr hd a1 a5
    refine ⟨_, a3, by show (bs.map _).length ≤ 100; rw [List.length_map]; omega, fun ke H' s e => .inr ⟨a1, a2, bs, e, a4.same s, a5⟩, fun ke o' ne e => .inr ⟨a1, a2, bs, (upd_ne ne).trans e, fun c hc => ?_, a5⟩⟩
    exact (upd_ne (ne_of (a4 c hc) a3 (fun z => nomatch z))).trans (a4 c hc)
end Lk
set_option maxRecDepth 100000
set_option maxHeartbeats 4000000
namespace Lk
open PySem PySem.Spec PyProof.Rows L2

/-! ### letters -/
theorem letter_ge {c : Nat} (h : 97 ≤ c) : (!decide (([c] : List Nat) < (("a" : Str)).cps.toList)) = true := by
  have e : (("a" : Str)).cps.toList = [97] := by decide +kernel
  rw [e]
  have : ¬ ([c] : List Nat) < [97] := fun z => by
    rcases List.cons_lt_cons_iff.mp z with z | ⟨_, z⟩
    · omega
    · exact absurd z (List.not_lt_nil _)
  rw [decide_eq_false this]
  rfl
theorem letter_le {c : Nat} (h : c ≤ 122) : (!decide ((("z" : Str)).cps.toList < ([c] : List Nat))) = true := by
  have e : (("z" : Str)).cps.toList = [122] := by decide +kernel
  rw [e]
  have : ¬ ([122] : List Nat) < [c] := fun z => by
    rcases List.cons_lt_cons_iff.mp z with z | ⟨_, z⟩
    · omega
    · exact absurd z (List.not_lt_nil _)
  rw [decide_eq_false this]
  rfl

def rLeS : R2 := fun x y H Q => ∃ i j, x = .str i ∧ y = .str j ∧ Q (.bl (!decide (j.cps.toList < i.cps.toList))) H
theorem op_leS {X : Cx} : OpR X (compareOp .LtE) rLeS := op_le_str
/-! ### promises of the small judges -/
def LinksOk (H : Hp) (p : Addr) (bs : List B3) : Prop := H p = some (.lst (refs bs)) ∧ PairsAt H bs ∧ (∀ b ∈ bs, NameOk b.2.1) ∧ (bs.map (·.2.1)).Nodup ∧ bs ≠ [] ∧ bs.length ≤ 100
theorem LinksOk.same {H H' : Hp} {p : Addr} {bs : List B3} (s : Same H H') (h : LinksOk H p bs) : LinksOk H' p bs := ⟨s _ _ h.1, h.2.1.same s, h.2.2⟩
def nextsL (bs : List B3) (last : Str) : List Str := (bs.drop 1).map (·.2.1) ++ [last]
end Lk
set_option maxRecDepth 100000
set_option maxHeartbeats 4000000
namespace Lk
open PySem PySem.Spec PyProof.Rows L2

/-! ### whoever comes, the same are left -/
/-- what order_of told, and who came since -/
def MatAt (H : Hp) (p : Addr) (word : Str) (ps : List (Str × Str)) (row more : List Str) : Prop :=
  (word = "ring" ∧ goneR ps [] row ≠ [] ∧ ∃ bs : List B3, H p = some (.lst (refs bs)) ∧ PairsAt H bs ∧ bs.map (·.2) = ringOf ps row (goneR ps [] row)) ∨ (word = "order" ∧ goneR ps [] row = [] ∧ H p = some (.lst (((goneO ps [] row).reverse ++ more).map V.str)))
theorem MatAt.same {H H' : Hp} {p : Addr} {word : Str} {ps : List (Str × Str)} {row more : List Str} (s : Same H H') (h : MatAt H p word ps row more) : MatAt H' p word ps row more :=
  h.elim (fun ⟨h1, h2, bs, h3, h4, h5⟩ => .inl ⟨h1, h2, bs, s _ _ h3, h4.same s, h5⟩) (fun ⟨h1, h2, h3⟩ => .inr ⟨h1, h2, s _ _ h3⟩)
theorem OrdAt.word {H : Hp} {p : Addr} {w : Str} {ps : List (Str × Str)} {row : List Str} (h : OrdAt H p w ps row) : (w = "ring" ∧ goneR ps [] row ≠ []) ∨ (w = "order" ∧ goneR ps [] row = []) := h.elim (fun h => .inr ⟨h.2.1, h.1⟩) (fun h => .inl ⟨h.2.1, h.1⟩)
end Lk
set_option maxRecDepth 100000
set_option maxHeartbeats 4000000
namespace Lk
open PySem PySem.Spec PyProof.Rows L2

/-! ### deeds: nobody: a serving; somebody: its coming -/
abbrev Deed := Option Str
def deedL : Deed → List Str
  | none => ["serve"]
  | some x => ["come", x]
abbrev LD := Addr × Deed
def refsD (ds : List LD) : List V := ds.map fun q => V.ref q.1
def DeedsAt (H : Hp) (ds : List LD) : Prop := ∀ q ∈ ds, TupAt H q.1 ((deedL q.2).map V.str)
theorem DeedsAt.same {H H' : Hp} {ds : List LD} (s : Same H H') (h : DeedsAt H ds) : DeedsAt H' ds := fun q hq => (h q hq).same s
/-- the row and those who were served, behind one deed -/
def stepD (ps : List (Str × Str)) (st : List Str × List Str) (met : List Str) : Deed → Option (List Str × List Str)
  | none => if st.1 = [] then none else some (st.1.drop 1, st.2 ++ st.1.take 1)
  | some x => if x ∈ met then none else some (comeTo ps st.1 x, st.2)
def comers (ds : List Deed) : List Str := ds.filterMap id
def goD (ps : List (Str × Str)) : List Deed → List Str × List Str → List Str → Option (List Str × List Str)
  | [], st, _ => some st
  | d :: ds, st, met => match stepD ps st met d with
    | none => none
    | some st' => goD ps ds st' (met ++ d.toList)
theorem goD_snoc (ps : List (Str × Str)) (d : Deed) : ∀ (ds : List Deed) (st : List Str × List Str) (met : List Str), goD ps (ds ++ [d]) st met = match goD ps ds st met with | none => none | some st' => stepD ps st' (met ++ comers ds) d
  | [], st, met => by
    show (match stepD ps st met d with | none => none | some st' => some st') = stepD ps st (met ++ comers []) d
    rw [show met ++ comers [] = met from List.append_nil met]
    cases stepD ps st met d <;> rfl
  | e :: ds, st, met => by
    show (match stepD ps st met e with | none => none | some st' => goD ps (ds ++ [d]) st' (met ++ e.toList)) = match (match stepD ps st met e with | none => none | some st' => goD ps ds st' (met ++ e.toList)) with | none => none | some st' => stepD ps st' (met ++ comers (e :: ds)) d
    cases h : stepD ps st met e with
    | none => rfl
    | some st' =>
      show goD ps (ds ++ [d]) st' (met ++ e.toList) = match goD ps ds st' (met ++ e.toList) with | none => none | some st'' => stepD ps st'' (met ++ comers (e :: ds)) d
      rw [goD_snoc ps d ds st' (met ++ e.toList)]
      have ec : met ++ e.toList ++ comers ds = met ++ comers (e :: ds) := by
        rw [List.append_assoc]
        cases e with
        | none => rfl
        | some x => rfl
      rw [ec]
/-- nobody is in it twice, and none but those who came or were there -/
theorem go_perm {ps : List (Str × Str)} : ∀ (ds : List Deed) (st : List Str × List Str) (met : List Str) (st' : List Str × List Str), goD ps ds st met = some st' → (st'.2 ++ st'.1).Perm (comers ds ++ (st.2 ++ st.1))
  | [], st, met, st', h => by
    have e : st = st' := Option.some.inj h
    subst e
    exact List.Perm.refl _
  | d :: ds, st, met, st', h => by
    have h' : (match stepD ps st met d with | none => none | some s2 => goD ps ds s2 (met ++ d.toList)) = some st' := h
    cases e : stepD ps st met d with
    | none => rw [e] at h'; cases h'
    | some s2 =>
      rw [e] at h'
      have ih := go_perm ds s2 (met ++ d.toList) st' h'
      refine ih.trans ?_
      cases d with
      | none =>
        have e2 : (if st.1 = [] then none else some (st.1.drop 1, st.2 ++ st.1.take 1)) = some s2 := e
        by_cases c : st.1 = []
        · rw [if_pos c] at e2
          cases e2
        · rw [if_neg c] at e2
          have e3 := Option.some.inj e2
          subst e3
          show (comers ds ++ ((st.2 ++ st.1.take 1) ++ st.1.drop 1)).Perm (comers ds ++ (st.2 ++ st.1))
          rw [List.append_assoc, List.take_append_drop]
      | some x =>
        have e2 : (if x ∈ met then none else some (comeTo ps st.1 x, st.2)) = some s2 := e
        by_cases c : x ∈ met
        · rw [if_pos c] at e2
          cases e2
        · rw [if_neg c] at e2
          have e3 := Option.some.inj e2
          subst e3
          show (comers ds ++ (st.2 ++ comeTo ps st.1 x)).Perm (x :: comers ds ++ (st.2 ++ st.1))
          have p1 : (st.2 ++ comeTo ps st.1 x).Perm (x :: (st.2 ++ st.1)) := (List.Perm.append_left _ (come_perm ps st.1 x)).trans List.perm_middle
          exact (List.Perm.append_left _ p1).trans List.perm_middle
/-! ### promises -/
end Lk
set_option maxRecDepth 100000
set_option maxHeartbeats 4000000
namespace Lk
open PySem PySem.Spec PyProof.Rows L2

/-! ### back through servings -/
/-- no friend of it stands behind it -/
def NoBeh (ps : List (Str × Str)) (row : List Str) (x : Str) : Prop := ∃ c d, row = c ++ x :: d ∧ ∀ y ∈ d, frd ps x y = false
theorem LooseIn.nb {ps : List (Str × Str)} {row : List Str} {x : Str} (h : LooseIn ps row x) : NoBeh ps row x := by
  obtain ⟨a, b, e, h1, _⟩ := h
  exact ⟨a, b, e, h1⟩
theorem NoBeh.mem {ps : List (Str × Str)} {row : List Str} {x : Str} (h : NoBeh ps row x) : x ∈ row := by
  obtain ⟨a, b, rfl, _⟩ := h
  simp
theorem NoBeh.cons {ps : List (Str × Str)} {row : List Str} {x : Str} (y : Str) (h : NoBeh ps row x) : NoBeh ps (y :: row) x := by
  obtain ⟨a, b, rfl, h1⟩ := h
  exact ⟨y :: a, b, rfl, h1⟩
theorem NoBeh.rem_ {ps : List (Str × Str)} {row : List Str} {x y : Str} (h : NoBeh ps row x) (ne : x ≠ y) : NoBeh ps (rem row y) x := by
  obtain ⟨a, b, rfl, h1⟩ := h
  refine ⟨rem a y, rem b y, ?_, fun z hz => h1 z (List.mem_filter.mp hz).1⟩
  unfold rem
  rw [List.filter_append, List.filter_cons]
  simp [ne]
theorem diamondN {ps : List (Str × Str)} {row : List Str} {x y : Str} (hd : row.Nodup) (hx : LooseIn ps row x) (hy : NoBeh ps row y) (ne : x ≠ y) : LooseIn ps (rem row y) x := by
  obtain ⟨a, b, e, h1, h2⟩ := hx
  have my : y ∈ row := hy.mem
  obtain ⟨c, d, e', g1⟩ := hy
  have my' : y ∈ a ∨ y ∈ b := by
    rw [e] at my
    rcases List.mem_append.mp my with z | z
    · exact .inl z
    · rcases List.mem_cons.mp z with z | z
      · exact absurd z.symm ne
      · exact .inr z
  rcases my' with m | m
  · obtain ⟨a1, a2, rfl⟩ := List.append_of_mem m
    have e2 : row = a1 ++ y :: (a2 ++ x :: b) := by rw [e]; simp
    have er : rem row y = (a1 ++ a2) ++ x :: b := by
      rw [e2, rem_split (by rw [← e2]; exact hd)]
      simp
    refine ⟨a1 ++ a2, b, er, h1, ?_⟩
    obtain ⟨_, u2⟩ := split_uniq hd e2 e'
    rcases h2 with ⟨a', f, ea, hf⟩ | ⟨na, nb⟩
    · rcases List.eq_nil_or_concat a2 with z | ⟨l, g, z⟩
      · subst z
        have q := List.append_inj' ea (by rfl)
        have ey : y = f := (List.cons.inj q.2).1
        have bad := g1 x (by rw [← u2]; simp)
        rw [frd_comm, ey, hf] at bad
        cases bad
      · rw [List.concat_eq_append] at z
        subst z
        have ea' : (a1 ++ y :: l) ++ [g] = a' ++ [f] := by rw [← ea]; simp
        have q := List.append_inj' ea' rfl
        have eg : g = f := (List.cons.inj q.2).1
        exact .inl ⟨a1 ++ l, g, by simp, by rw [eg]; exact hf⟩
    · exact .inr ⟨fun z hz => na z (by
        rcases List.mem_append.mp hz with w | w
        · exact List.mem_append_left _ w
        · exact List.mem_append_right _ (List.mem_cons_of_mem _ w)), nb⟩
  · obtain ⟨b1, b2, rfl⟩ := List.append_of_mem m
    have e2 : row = (a ++ x :: b1) ++ y :: b2 := by rw [e]; simp
    have er : rem row y = a ++ x :: (b1 ++ b2) := by
      rw [e2, rem_split (by rw [← e2]; exact hd)]
      simp
    refine ⟨a, b1 ++ b2, er, fun z hz => h1 z (by
        rcases List.mem_append.mp hz with w | w
        · exact List.mem_append_left _ w
        · exact List.mem_append_right _ (List.mem_cons_of_mem _ w)), ?_⟩
    rcases h2 with h | ⟨_, z⟩
    · exact .inl h
    · exact absurd z (by simp)
/-- back from a row, `m` served, to one with `m0` served: the last deed first; whoever has to stay at that moment stays -/
inductive Way (ps : List (Str × Str)) (stay : Nat → List Str) (sv : List Str) (m0 : Nat) : Nat → List Str → List Deed → List Str → Prop where
  | done (row : List Str) : Way ps stay sv m0 m0 row [] row
  | go {m : Nat} {row : List Str} {ds : List Deed} {fin : List Str} (x : Str) (h : LooseIn ps row x) (hs : x ∉ stay m) (t : Way ps stay sv m0 m (rem row x) ds fin) : Way ps stay sv m0 m row (some x :: ds) fin
  | back {m : Nat} {row : List Str} {ds : List Deed} {fin : List Str} (y : Str) (h : sv[m]? = some y) (t : Way ps stay sv m0 m (y :: row) ds fin) : Way ps stay sv m0 (m + 1) row (none :: ds) fin
section
variable {ps : List (Str × Str)} {stay stay' : Nat → List Str} {sv : List Str} {m0 m1 m : Nat} {row mid fin : List Str} {ds ds' : List Deed}
theorem Way.le (h : Way ps stay sv m0 m row ds fin) : m0 ≤ m := by
  induction h with
  | done _ => exact Nat.le_refl _
  | go x h hs t ih => exact ih
  | back y h t ih => omega
theorem Way.trans (h : Way ps stay sv m1 m row ds mid) : Way ps stay sv m0 m1 mid ds' fin → Way ps stay sv m0 m row (ds ++ ds') fin := by
  induction h with
  | done _ => exact id
  | go x h hs t ih => exact fun k => .go x h hs (ih k)
  | back y h t ih => exact fun k => .back y h (ih k)
theorem line_back {y : Str} (h : sv[m]? = some y) : sv.take (m + 1) ++ row = sv.take m ++ y :: row := by
  rw [List.take_add_one, h]
  simp
theorem nd_right {a b : List Str} (h : (a ++ b).Nodup) : b.Nodup := (List.nodup_append.mp h).2.1
theorem nd_rem {a b : List Str} {x : Str} (h : (a ++ b).Nodup) : (a ++ rem b x).Nodup := h.sublist (List.Sublist.append_left List.filter_sublist _)
theorem Way.sub (h : Way ps stay sv m0 m row ds fin) : ∀ x ∈ fin, x ∈ sv.take m ++ row := by
  induction h with
  | done _ => exact fun x hx => List.mem_append_right _ hx
  | go y h hs t ih =>
    intro x hx
    rcases List.mem_append.mp (ih x hx) with z | z
    · exact List.mem_append_left _ z
    · exact List.mem_append_right _ (List.mem_filter.mp z).1
  | back y h t ih =>
    intro x hx
    rw [line_back h]
    exact ih x hx
theorem rem_no {row : List Str} {x : Str} (h : x ∉ row) : rem row x = row := List.filter_eq_self.mpr fun y hy => by
  have : ¬ y = x := fun z => h (z ▸ hy)
  simp [this]
/-- who could go once may be gone at once -/
theorem Way.swap (h : Way ps stay sv m0 m row ds fin) : (sv.take m ++ row).Nodup → ∀ x, NoBeh ps row x → ∃ ds', Way ps stay sv m0 m (rem row x) ds' (rem fin x) := by
  induction h with
  | done row => exact fun _ x _ => ⟨[], .done _⟩
  | @go m row ds fin y hy hs t ih =>
    intro hd x hx
    by_cases e : y = x
    · subst e
      have ny : y ∉ fin := fun z => by
        have q := t.sub y z
        have dj := (List.nodup_append.mp hd).2.2
        rcases List.mem_append.mp q with u | u
        · exact dj y u y hx.mem rfl
        · have := (List.mem_filter.mp u).2
          simp at this
      rw [rem_no ny]
      exact ⟨ds, t⟩
    · obtain ⟨ds', w⟩ := ih (nd_rem hd) x (hx.rem_ (fun z => e z.symm))
      rw [rem_comm] at w
      exact ⟨some y :: ds', .go y (diamondN (nd_right hd) hy hx e) hs w⟩
  | @back m row ds fin y hy t ih =>
    intro hd x hx
    rw [line_back hy] at hd
    have ne : y ≠ x := fun z => by
      have := (List.nodup_cons.mp (nd_right hd)).1
      exact this (z ▸ hx.mem)
    obtain ⟨ds', w⟩ := ih hd x (hx.cons y)
    have e : rem (y :: row) x = y :: rem row x := by
      unfold rem
      rw [List.filter_cons]
      simp [ne]
    rw [e] at w
    exact ⟨none :: ds', .back y hy w⟩
/-- whoever can go goes, at every moment -/
def trace (ps : List (Str × Str)) (stay : Nat → List Str) (sv : List Str) : Nat → List Str → List Deed × List Str
  | 0, row => ((goneO ps (stay 0) row).map some, goneR ps (stay 0) row)
  | m + 1, row => ((goneO ps (stay (m + 1)) row).map some ++ none :: (trace ps stay sv m (sv.getD m "" :: goneR ps (stay (m + 1)) row)).1, (trace ps stay sv m (sv.getD m "" :: goneR ps (stay (m + 1)) row)).2)
theorem Red.nd2 {s : List Str} {a row n : List Str} (r : Red ps s row n) : (a ++ row).Nodup → (a ++ n).Nodup := by
  induction r with
  | done _ => exact id
  | go x _ _ t ih => exact fun h => ih (nd_rem h)
/-! ### histories are such ways -/
def Free (stay : Nat → List Str) : Nat → List Deed → Prop
  | _, [] => True
  | m, none :: ds => Free stay (m + 1) ds
  | m, some x :: ds => x ∉ stay m ∧ Free stay m ds
theorem go_pre : ∀ (ds : List Deed) {st : List Str × List Str} {met : List Str} {st' : List Str × List Str}, goD ps ds st met = some st' → ∃ e, st'.2 = st.2 ++ e
  | [], st, met, st', h => by
    have e : st = st' := Option.some.inj h
    subst e
    exact ⟨[], by simp⟩
  | d :: ds, st, met, st', h => by
    have h' : (match stepD ps st met d with | none => none | some s2 => goD ps ds s2 (met ++ d.toList)) = some st' := h
    cases e : stepD ps st met d with
    | none => rw [e] at h'; cases h'
    | some s2 =>
      rw [e] at h'
      obtain ⟨e3, q⟩ := go_pre ds h'
      cases d with
      | none =>
        have e2 : (if st.1 = [] then none else some (st.1.drop 1, st.2 ++ st.1.take 1)) = some s2 := e
        by_cases c : st.1 = []
        · rw [if_pos c] at e2
          cases e2
        · rw [if_neg c] at e2
          have e5 := Option.some.inj e2
          subst e5
          exact ⟨st.1.take 1 ++ e3, by rw [q, List.append_assoc]⟩
      | some x =>
        have e2 : (if x ∈ met then none else some (comeTo ps st.1 x, st.2)) = some s2 := e
        by_cases c : x ∈ met
        · rw [if_pos c] at e2
          cases e2
        · rw [if_neg c] at e2
          have e5 := Option.some.inj e2
          subst e5
          exact ⟨e3, q⟩
theorem go_way : ∀ (ds : List Deed) {st0 gn0 met st gn : List Str}, goD ps ds (st0, gn0) met = some (st, gn) → (∀ x ∈ gn0 ++ st0, x ∈ met) → (gn0 ++ st0).Nodup → Free stay gn0.length ds → (∃ more, sv = gn ++ more) → Way ps stay sv gn0.length gn.length st ds.reverse st0
  | [], st0, gn0, met, st, gn, h, _, _, _, _ => by
    have e : (st0, gn0) = (st, gn) := Option.some.inj h
    have e1 : st0 = st := congrArg Prod.fst e
    have e2 : gn0 = gn := congrArg Prod.snd e
    subst e1
    subst e2
    exact .done _
  | none :: ds, st0, gn0, met, st, gn, h, hm, hd, hf, hs => by
    have h' : (match (if st0 = [] then none else some (st0.drop 1, gn0 ++ st0.take 1)) with | none => none | some s2 => goD ps ds s2 (met ++ [])) = some (st, gn) := h
    cases st0 with
    | nil =>
      rw [if_pos rfl] at h'
      cases h'
    | cons y st1 =>
      rw [if_neg (by simp), List.append_nil] at h'
      have h2 : goD ps ds (st1, gn0 ++ [y]) met = some (st, gn) := h'
      have hd2 : ((gn0 ++ [y]) ++ st1).Nodup := by
        rw [List.append_assoc]
        exact hd
      have l1 : (gn0 ++ [y]).length = gn0.length + 1 := by simp
      have w := go_way ds h2 (fun x hx => hm x (by simpa using hx)) hd2 (by rw [l1]; exact hf) hs
      rw [l1] at w
      obtain ⟨e, q⟩ := go_pre ds h2
      obtain ⟨more, hmore⟩ := hs
      have at_ : sv[gn0.length]? = some y := by
        rw [hmore, show gn = (gn0 ++ [y]) ++ e from q]
        simp
      rw [List.reverse_cons]
      exact w.trans (.back y at_ (.done _))
  | some x :: ds, st0, gn0, met, st, gn, h, hm, hd, hf, hs => by
    have h' : (match (if x ∈ met then none else some (comeTo ps st0 x, gn0)) with | none => none | some s2 => goD ps ds s2 (met ++ [x])) = some (st, gn) := h
    by_cases c : x ∈ met
    · rw [if_pos c] at h'
      cases h'
    · rw [if_neg c] at h'
      have h2 : goD ps ds (comeTo ps st0 x, gn0) (met ++ [x]) = some (st, gn) := h'
      have nx : x ∉ gn0 ++ st0 := fun z => c (hm x z)
      have pm : (gn0 ++ comeTo ps st0 x).Perm (x :: (gn0 ++ st0)) := (List.Perm.append_left _ (come_perm ps st0 x)).trans List.perm_middle
      have hd2 : (gn0 ++ comeTo ps st0 x).Nodup := pm.nodup_iff.mpr (List.nodup_cons.mpr ⟨nx, hd⟩)
      have w := go_way ds h2 (fun y hy => by
        rcases List.mem_cons.mp (pm.mem_iff.mp hy) with z | z
        · rw [z]
          simp
        · exact List.mem_append_left _ (hm y z)) hd2 hf.2 hs
      rw [List.reverse_cons]
      refine w.trans (.go x (come_loose ps st0 x) hf.1 ?_)
      rw [come_rem (List.nodup_cons.mpr ⟨fun z => nx (List.mem_append_right _ z), nd_right hd⟩)]
      exact .done _
end
/-! ### traced_back -/
def waitN (ws : Option (Str × Nat)) (m : Nat) : List Str := match ws with
  | none => []
  | some (w, n) => if n = m then [] else [w]
def stayF (elders : List Str) (ws : Option (Str × Nat)) (m : Nat) : List Str := elders ++ waitN ws m
/-- they all stand in the line, one behind the other -/
def InLine (line elders : List Str) : Prop := (∀ x ∈ elders, x ∈ line) ∧ elders.Pairwise fun x y => line.idxOf x ≤ line.idxOf y
end Lk
set_option maxRecDepth 100000
set_option maxHeartbeats 4000000
namespace Lk
open PySem PySem.Spec PyProof.Rows L2
theorem sqT_same {K : PySem.W.Frag} {H H' : Hp} {a : Addr} {xs : List V} (s : Same H H') (h : SqT K H a xs) : SqT K H' a xs := h.imp (fun r => r.imp (s _ _) (fun ⟨o, e⟩ => ⟨o, s _ _ e⟩)) id
end Lk
set_option maxRecDepth 100000
set_option maxHeartbeats 4000000
namespace Lk
open PySem PySem.Spec PyProof.Rows L2
/-! ### deeds that can be done -/
/-! ### ways, one behind the other -/
theorem Way.shift {ps : List (Str × Str)} {stay : Nat → List Str} {sv : List Str} {m0 m c : Nat} {row fin : List Str} {ds : List Deed} (h : Way ps (fun k => stay (k + c)) (sv.drop c) m0 m row ds fin) : Way ps stay sv (m0 + c) (m + c) row ds fin := by
  induction h with
  | done _ => exact .done _
  | go x h hs t ih => exact .go x h hs ih
  | @back m row ds fin y h t ih =>
    rw [show m + 1 + c = (m + c) + 1 by omega]
    refine .back y ?_ ih
    rw [List.getElem?_drop] at h
    rw [show m + c = c + m by omega]
    exact h
end Lk
set_option maxRecDepth 100000
set_option maxHeartbeats 4000000
namespace Lk
open PySem PySem.Spec PyProof.Rows L2
/-! ### set(ns), ns a list of ints, none of them twice -/
section
variable {P : Program} {w : World} {A : Around} {E : Value → Shared → Prop} {s : Shared}
end
section
variable {X : Cx}
end
end Lk
set_option maxRecDepth 100000
set_option maxHeartbeats 4000000
namespace Lk
open PySem PySem.Spec PyProof.Rows L2
/-! ### a def whose last parameter, by its name alone, has a default: a bare tuple -/
structure CalK (P : Program) (w : World) (K : PySem.W.Frag) (mg : Str → Option Value) (base : Heap) (k : Nat) (x : Str) (ps : List Str) (n : Nat) (kw : Str) (sp : Sp) (E : Addr) : Prop where
  ex : ∃ f fd, FnOk P w K mg base CX0 k f fd ps sp ∧ mg x = some (.ref f) ∧ PySem.W.keepIn K (.ref f) = true ∧ KBn K fd ps n [kw] (fun us ws => us ++ ws) (fun vs zs => vs ++ zs) ∧ ∃ ds, Vals [V.ref E] ds ∧ Binds K fd ps ds
  emp : ∃ (o : Obj) (n : Nat), K.lookup E = some o ∧ o.cls = .type "tuple" ∧ o.data = .seq #[] n
theorem CalK.but {P : Program} {w : World} {K : PySem.W.Frag} {mg : Str → Option Value} {base : Heap} {k n : Nat} {x kw : Str} {ps : List Str} {sp : Sp} {E : Addr} (C : CalK P w K mg base k x ps n kw sp E) (H : Hp) : ButKeeps K H E [] := by
  obtain ⟨o, n, h1, h2, h3⟩ := C.emp
  exact fun _ _ => .inr (.inr ⟨o, #[], n, h1, h2, h3, Nat.zero_le _, .nil⟩)
section
variable {X : Cx} {k m n : Nat} {x kw : Str} {ps : List Str} {sp : Sp} {D : Addr} {p pos : Pos} {e : Expr} {es : List Expr} {t tk : TA} {kws : List Keyword}
end
end Lk
set_option maxRecDepth 100000
set_option maxHeartbeats 4000000
namespace Lk
open PySem PySem.Spec PyProof.Rows L2
/-! ### a story in two parts -/
section
variable {ps : List (Str × Str)}
theorem stepD_none {st gn met : List Str} {s2 : List Str × List Str} (h : stepD ps (st, gn) met none = some s2) : ∃ y st1, st = y :: st1 ∧ s2 = (st1, gn ++ [y]) := by
  have e2 : (if st = [] then none else some (st.drop 1, gn ++ st.take 1)) = some s2 := h
  cases st with
  | nil => rw [if_pos rfl] at e2; cases e2
  | cons y st1 =>
    rw [if_neg (by simp)] at e2
    exact ⟨y, st1, rfl, (Option.some.inj e2).symm⟩
theorem stepD_some {st gn met : List Str} {x : Str} {s2 : List Str × List Str} (h : stepD ps (st, gn) met (some x) = some s2) : x ∉ met ∧ s2 = (comeTo ps st x, gn) := by
  have e2 : (if x ∈ met then none else some (comeTo ps st x, gn)) = some s2 := h
  by_cases c : x ∈ met
  · rw [if_pos c] at e2
    cases e2
  · rw [if_neg c] at e2
    exact ⟨c, (Option.some.inj e2).symm⟩
theorem goD_cons {d : Deed} {ds : List Deed} {st st' : List Str × List Str} {met : List Str} (h : goD ps (d :: ds) st met = some st') : ∃ s2, stepD ps st met d = some s2 ∧ goD ps ds s2 (met ++ d.toList) = some st' := by
  have h' : (match stepD ps st met d with | none => none | some s2 => goD ps ds s2 (met ++ d.toList)) = some st' := h
  cases e : stepD ps st met d with
  | none => rw [e] at h'; cases h'
  | some s2 =>
    rw [e] at h'
    exact ⟨s2, rfl, h'⟩
theorem come_sub (ps : List (Str × Str)) (st : List Str) (x : Str) : st.Sublist (comeTo ps st x) := by
  unfold comeTo
  rw [List.append_assoc]
  have h : (st.take (spotOf ps st x) ++ st.drop (spotOf ps st x)).Sublist (st.take (spotOf ps st x) ++ ([x] ++ st.drop (spotOf ps st x))) := List.Sublist.append_left (List.sublist_cons_self _ _) _
  rw [List.take_append_drop] at h
  exact h
/-- the line keeps its order -/
theorem go_sub : ∀ (ds : List Deed) {st gn met st' gn' : List Str}, goD ps ds (st, gn) met = some (st', gn') → (gn ++ st).Sublist (gn' ++ st')
  | [], st, gn, met, st', gn', h => by
    have e : (st, gn) = (st', gn') := Option.some.inj h
    cases e
    exact List.Sublist.refl _
  | d :: ds, st, gn, met, st', gn', h => by
    obtain ⟨s2, h1, h2⟩ := goD_cons h
    cases d with
    | none =>
      obtain ⟨y, st1, rfl, rfl⟩ := stepD_none h1
      have := go_sub ds h2
      rw [List.append_assoc] at this
      exact this
    | some x =>
      obtain ⟨nx, rfl⟩ := stepD_some h1
      exact (List.Sublist.append_left (come_sub ps st x) gn).trans (go_sub ds h2)
theorem inLine_self {line : List Str} (nd : line.Nodup) : line.Pairwise fun x y => line.idxOf x ≤ line.idxOf y := by
  rw [List.pairwise_iff_getElem]
  intro i j hi hj hij
  rw [idx_at nd (List.getElem?_eq_getElem hi), idx_at nd (List.getElem?_eq_getElem hj)]
  omega
theorem inLine_sub {line elders : List Str} (nd : line.Nodup) (h : elders.Sublist line) : InLine line elders := ⟨fun _ hx => h.subset hx, (inLine_self nd).sublist h⟩
theorem sub_filter : ∀ {line a : List Str}, a.Sublist line → line.Nodup → a = line.filter fun x => decide (x ∈ a)
  | _, _, .slnil, _ => rfl
  | _, a, .cons (l₂ := l) x h, nd => by
    have nx : x ∉ a := fun z => (List.nodup_cons.mp nd).1 (h.subset z)
    rw [List.filter_cons]
    simp only [nx, decide_false]
    exact sub_filter h (List.nodup_cons.mp nd).2
  | _, _, .cons₂ (l₁ := a) (l₂ := l) x h, nd => by
    rw [List.filter_cons]
    simp only [List.mem_cons, true_or, decide_true, if_true]
    refine congrArg (x :: ·) ?_
    have e := sub_filter h (List.nodup_cons.mp nd).2
    refine e.trans (List.filter_congr fun y hy => ?_)
    have ny : ¬ y = x := fun z => (List.nodup_cons.mp nd).1 (z ▸ hy)
    simp [ny]
theorem Way.keep {stay : Nat → List Str} {sv : List Str} {m : Nat} {row fin : List Str} {ds : List Deed} {x : Str} (h : Way ps stay sv 0 m row ds fin) (hs : ∀ k, x ∈ stay k) : x ∈ sv.take m ++ row → x ∈ fin := by
  induction h with
  | done _ => exact fun z => by simpa using z
  | go y h hy t ih =>
    refine fun z => ih ?_
    rcases List.mem_append.mp z with u | u
    · exact List.mem_append_left _ u
    · refine List.mem_append_right _ (List.mem_filter.mpr ⟨u, ?_⟩)
      have : ¬ x = y := fun e => hy (e ▸ hs _)
      simp [this]
  | back y h t ih =>
    rw [line_back h]
    exact ih
/-! ### when somebody came -/
/-- a story's beginning and the rest of it -/
structure Parts (ps : List (Str × Str)) (ds1 ds2 : List Deed) (here sb st e : List Str) : Prop where
  g1 : goD ps ds1 ([], []) [] = some (here, sb)
  g2 : goD ps ds2 (here, []) (comers ds1) = some (st, e)
  nd : (comers ds1 ++ comers ds2).Nodup
namespace Parts
variable {ds1 ds2 : List Deed} {here sb st e : List Str}
theorem p1 (h : Parts ps ds1 ds2 here sb st e) : (sb ++ here).Perm (comers ds1) := by
  have := go_perm _ _ _ _ h.g1
  simpa using this
theorem p2 (h : Parts ps ds1 ds2 here sb st e) : (e ++ st).Perm (comers ds2 ++ here) := by
  have := go_perm _ _ _ _ h.g2
  simpa using this
theorem n1 (h : Parts ps ds1 ds2 here sb st e) : (sb ++ here).Nodup := h.p1.nodup_iff.mpr (List.nodup_append.mp h.nd).1
theorem dj (h : Parts ps ds1 ds2 here sb st e) : ∀ y ∈ comers ds2, y ∉ sb ++ here := fun y hy z => (List.nodup_append.mp h.nd).2.2 y (h.p1.mem_iff.mp z) y hy rfl
theorem n2 (h : Parts ps ds1 ds2 here sb st e) : (e ++ st).Nodup := h.p2.nodup_iff.mpr (List.nodup_append.mpr ⟨(List.nodup_append.mp h.nd).2.1, (List.nodup_append.mp h.n1).2.1, fun x hx y hy e => h.dj x hx (by rw [e]; exact List.mem_append_right _ hy)⟩)
theorem n3 (h : Parts ps ds1 ds2 here sb st e) : ((sb ++ e) ++ st).Nodup := by
  rw [List.append_assoc]
  refine List.nodup_append.mpr ⟨(List.nodup_append.mp h.n1).1, h.n2, fun x hx y hy q => ?_⟩
  subst q
  rcases List.mem_append.mp (h.p2.mem_iff.mp hy) with z | z
  · exact h.dj x z (List.mem_append_left _ hx)
  · exact (List.nodup_append.mp h.n1).2.2 x hx x z rfl
theorem w1 (h : Parts ps ds1 ds2 here sb st e) {stay : Nat → List Str} (hf : Free stay 0 ds1) : Way ps stay sb 0 sb.length here ds1.reverse [] := go_way ds1 h.g1 (fun _ z => nomatch z) List.nodup_nil hf ⟨[], (List.append_nil _).symm⟩
theorem w2 (h : Parts ps ds1 ds2 here sb st e) {stay : Nat → List Str} (hf : Free stay 0 ds2) : Way ps stay e 0 e.length st ds2.reverse here :=
  go_way ds2 h.g2 (fun x z => h.p1.mem_iff.mp (List.mem_append_right _ (by simpa using z))) (by simpa using (List.nodup_append.mp h.n1).2.1) hf ⟨[], (List.append_nil _).symm⟩
theorem far (h : Parts ps ds1 ds2 here sb st e) {stay : Nat → List Str} {d : List Deed} {m : List Str} (hw : Way ps (fun k => stay (k + sb.length)) e 0 e.length st d m) : Way ps stay (sb ++ e) sb.length (sb ++ e).length st d m := by
  have e1 : (sb ++ e).drop sb.length = e := by simp
  have := Way.shift (ps := ps) (stay := stay) (sv := sb ++ e) (m0 := 0) (m := e.length) (c := sb.length) (row := st) (fin := m) (ds := d) (by rw [e1]; exact hw)
  rw [Nat.zero_add, show e.length + sb.length = (sb ++ e).length by rw [List.length_append]; omega] at this
  exact this
theorem line (h : Parts ps ds1 ds2 here sb st e) : InLine (e ++ st) here := inLine_sub h.n2 (by simpa using go_sub ds2 h.g2)
end Parts
end

/-! ### comprehensions that leave some out -/
section
variable {J : It} {n : Nat} {G : Hp → Prop} {Y : Nat → Hp → V → Hp → Prop} {g : TG} {tt : TT} {te : TE} {vs : List Nat} {σ : L2.St} {H1 : Hp} {D : Addr} {Qd : Hp → Prop}
end
/-! ### deeds as data -/
/-! ### lists of whole numbers -/
section
variable {X : Cx}
end
end Lk
set_option maxRecDepth 100000
set_option maxHeartbeats 4000000
namespace Lk
open PySem PySem.Spec PyProof.Rows L2

/-! ### behind whom one came -/
end Lk
set_option maxRecDepth 100000
set_option maxHeartbeats 4000000
namespace Lk
open PySem PySem.Spec PyProof.Rows L2

/-! ### lists of lists -/
abbrev LA := Addr × List Str
def ListsAt (H : Hp) (ls : List LA) : Prop := ∀ q ∈ ls, H q.1 = some (.lst (q.2.map V.str))
theorem ListsAt.same {H H' : Hp} {ls : List LA} (s : Same H H') (h : ListsAt H ls) : ListsAt H' ls := fun q hq => s _ _ (h q hq)
theorem ListsAt.app {H : Hp} {ls ms : List LA} (h : ListsAt H ls) (h' : ListsAt H ms) : ListsAt H (ls ++ ms) := fun q hq => (List.mem_append.mp hq).elim (h q) (h' q)
end Lk
set_option maxRecDepth 100000
set_option maxHeartbeats 4000000
namespace Lk
open PySem PySem.Spec PyProof.Rows L2

/-! ### small things that can be written -/
structure Fit (n w : Nat) (d : PyData) : Prop where
  sh : d.showable = true
  nd : d.hasDict = false
  dp : d.depth ≤ n
  lv : d.leavesShort 13 = true
  wt : d.weight ≤ w
theorem Fit.mono {n w n' w' : Nat} {d : PyData} (h : Fit n w d) (h1 : n ≤ n') (h2 : w ≤ w') : Fit n' w' d := ⟨h.sh, h.nd, Nat.le_trans h.dp h1, h.lv, Nat.le_trans h.wt h2⟩
theorem Fit.fits {n w : Nat} {d : PyData} (h : Fit n w d) (hw : w ≤ 1048576) : d.shown.length ≤ sizeLine := PyData.shown_fits (B := 13) (by decide) (by decide) h.lv (Nat.le_trans h.wt (Nat.le_trans hw (by decide)))
theorem fit_none : Fit 0 0 .none := ⟨by simp only [PyData.showable], by simp only [PyData.hasDict], by simp only [PyData.depth, Nat.le_refl], by simp only [PyData.leavesShort], by simp only [PyData.weight, Nat.le_refl]⟩
theorem fit_bool (b : Bool) : Fit 0 0 (.bool b) := ⟨by simp only [PyData.showable], by simp only [PyData.hasDict], by simp only [PyData.depth, Nat.le_refl], by simp only [PyData.leavesShort], by simp only [PyData.weight, Nat.le_refl]⟩
theorem log2_40 {n : Nat} (h : n < 10 ^ 12) : n.log2 < 40 := by
  by_cases z : n = 0
  · subst z
    decide
  · exact (Nat.log2_lt z).mpr (Nat.lt_of_lt_of_le h (by decide))
theorem fit_int {i : Int} (h : i.natAbs < 10 ^ 12) : Fit 0 40 (.int i) := by
  have l := log2_40 h
  refine ⟨?_, by simp only [PyData.hasDict], by simp only [PyData.depth, Nat.le_refl], ?_, ?_⟩
  · simp only [PyData.showable, decide_eq_true_eq]
    omega
  · simp only [PyData.leavesShort, decide_eq_true_eq]
    exact PyData.shown_int_le h
  · simp only [PyData.weight]
    split <;> omega
theorem fit_str {x : Str} {m : Nat} (h : Good x) (hm : x.length ≤ m) : Fit 0 m (.str x) := by
  refine ⟨by simp only [PyData.showable], by simp only [PyData.hasDict], by simp only [PyData.depth, Nat.le_refl], ?_, by simp only [PyData.weight]; exact hm⟩
  simp only [PyData.leavesShort, List.all_eq_true, decide_eq_true_eq]
  intro c hc
  have h0 : x.cps.all (· < 0x110000) = true := h
  rw [← Array.all_toList, List.all_eq_true] at h0
  have := of_decide_eq_true (h0 c hc)
  have e : (16 : Nat) ^ 8 = 4294967296 := by decide
  omega
/-- what is written of a thing -/
def Shown (K : PySem.W.Frag) (H : Hp) (x : V) (d : PyData) : Prop := (∃ a, x = .ref a) ∧ Dp K H x d ∧ ∃ n w, Fit n w d ∧ n ≤ 60 ∧ w ≤ 1048576
section
variable {X : Cx}
def rReprS (K : PySem.W.Frag) : List V → Hp → VK → Prop := fun xs H Q => ∃ (x : V) (d : PyData), xs = [x] ∧ Shown K H x d ∧ Q (.str d.shown) H
theorem call_reprS {k : Nat} (z : Room k X.A) : CallR X (.builtin "repr") (rReprS X.K) := by
  intro pins s σ H xs us Q I r h
  obtain ⟨x, d, rfl, ⟨⟨a, rfl⟩, hd, n, w, f, h1, h2⟩, q⟩ := h
  exact call_repr z pins s σ H _ us Q I r ⟨a, d, rfl, hd, f.sh, f.nd, Nat.le_trans f.dp h1, f.fits h2, q⟩
end
theorem dpAll_map {α : Type} {K : PySem.W.Frag} {H : Hp} (f : α → V) (g : α → PyData) : ∀ {xs : List α}, (∀ x ∈ xs, Dp K H (f x) (g x)) → DpAll K H (xs.map f) (xs.map g)
  | [], _ => .nil
  | x :: xs, h => .cons (h x List.mem_cons_self) (dpAll_map f g fun y hy => h y (List.mem_cons_of_mem _ hy))
/-- friends, as they are written -/
def palsD (ps : List (Str × Str)) : PyData := .tuple (ps.map fun p => .tuple [.str p.1, .str p.2])
theorem PalsAt.dp {K : PySem.W.Frag} {H : Hp} {a : Addr} {ps : List (Str × Str)} (h : PalsAt H a ps) : Dp K H (.ref a) (palsD ps) := by
  obtain ⟨bs, h1, h2, rfl⟩ := h
  unfold palsD
  rw [List.map_map]
  refine .tup (.inl (.inl h1)) (dpAll_map _ _ fun b hb => ?_)
  exact .tup (.inl (.inl (h2 b hb))) (.cons (.str _) (.cons (.str _) .nil))
end Lk
set_option maxRecDepth 100000
set_option maxHeartbeats 4000000
namespace Lk
open PySem PySem.Spec PyProof.Rows L2

/-! ### neighbours exchanged -/
def swapL (l : List Str) (i : Nat) (x y : Str) : List Str := l.take i ++ [y, x] ++ l.drop (i + 2)
/-! ### how many pairs stand the other way about -/
/-! ### promises -/
end Lk
set_option maxRecDepth 100000
set_option maxHeartbeats 4000000
namespace Lk
open PySem PySem.Spec PyProof.Rows L2

/-! ### hosts, as they are told -/
abbrev B3O := Addr × Str × Option Str
def optV : Option Str → V
  | none => .non
  | some y => .str y
def PairsO (H : Hp) (qs : List B3O) : Prop := ∀ q ∈ qs, H q.1 = some (.tup [.str q.2.1, optV q.2.2])
theorem PairsO.same {H H' : Hp} {qs : List B3O} (s : Same H H') (h : PairsO H qs) : PairsO H' qs := fun b hb => s _ _ (h b hb)
/-! ### promises -/
/-- whom each bars, and more -/
def LedTo (H : Hp) (D : Addr) (ps : List (Str × Str)) (stand : List Str) (n : Nat) : Prop := ∃ kvs, H D = some (.dK kvs) ∧ kvs.length ≤ 100 ∧ ∀ x ∈ stand.take n, ∃ (la : Addr) (ys : List Str), valV kvs (.inr x) = some (.ref la) ∧ H la = some (.lst (ys.map V.str)) ∧ ys.Nodup ∧ (∀ y ∈ ys, y ∈ stand) ∧ ∀ y ∈ stand, wordsAt ps stand x y ≠ [] → y ∈ ys
theorem LedTo.same {H H' : Hp} {D : Addr} {ps : List (Str × Str)} {stand : List Str} {n : Nat} (s : Same H H') (h : LedTo H D ps stand n) : LedTo H' D ps stand n := by
  obtain ⟨kvs, h1, hk, h2⟩ := h
  refine ⟨kvs, s _ _ h1, hk, fun x hx => ?_⟩
  obtain ⟨la, ys, q1, q2, q3⟩ := h2 x hx
  exact ⟨la, ys, q1, s _ _ q2, q3⟩
end Lk
set_option maxRecDepth 100000
set_option maxHeartbeats 4000000
namespace Lk
open PySem PySem.Spec PyProof.Rows L2
/-! ### from one to another by what bars -/
inductive Leads (ps : List (Str × Str)) (row : List Str) : Str → Str → Prop where
  | one {u v : Str} (hu : u ∈ row) (hv : v ∈ row) (h : Bars ps row u v) : Leads ps row u v
  | more {u w v : Str} (hu : u ∈ row) (hw : w ∈ row) (h : Bars ps row u w) (t : Leads ps row w v) : Leads ps row u v
section
variable {ps : List (Str × Str)} {row order : List Str}
theorem Leads.left {u v : Str} (h : Leads ps row u v) : u ∈ row := by
  cases h with
  | one hu _ _ => exact hu
  | more hu _ _ _ => exact hu
theorem Leads.right {u v : Str} (h : Leads ps row u v) : v ∈ row := by
  induction h with
  | one _ hv _ => exact hv
  | more _ _ _ _ ih => exact ih
theorem Leads.trans {u w v : Str} (h : Leads ps row u w) : Leads ps row w v → Leads ps row u v := by
  induction h with
  | one hu hv h => exact fun t => .more hu hv h t
  | more hu hw h t ih => exact fun k => .more hu hw h (ih k)
/-- an order of a row -/
structure OrdOf (ps : List (Str × Str)) (row order : List Str) : Prop where
  nd : order.Nodup
  pm : order.Perm row
  st : standOf ps order = row
theorem OrdOf.len (h : OrdOf ps row order) : order.length = row.length := h.pm.length_eq
theorem OrdOf.bars (h : OrdOf ps row order) (irr : Irr ps) : ∀ u ∈ row, ∀ v ∈ row, Bars ps row u v → order.idxOf u < order.idxOf v := (lin_iff irr _ order row rfl h.nd h.pm).mp h.st
theorem Leads.idx {u v : Str} (irr : Irr ps) (o : OrdOf ps row order) (h : Leads ps row u v) : order.idxOf u < order.idxOf v := by
  induction h with
  | one hu hv h => exact o.bars irr _ hu _ hv h
  | more hu hw h t ih => exact Nat.lt_trans (o.bars irr _ hu _ hw h) ih
theorem Leads.ne {u v : Str} (irr : Irr ps) (o : OrdOf ps row order) (h : Leads ps row u v) : u ≠ v := fun e => by
  have := h.idx irr o
  rw [e] at this
  omega
theorem Leads.no {u v : Str} (irr : Irr ps) (o : OrdOf ps row order) (h : Leads ps row u v) : ¬ Leads ps row v u := fun z => (h.trans z).ne irr o rfl
noncomputable def leadsB (ps : List (Str × Str)) (row : List Str) (x y : Str) : Bool := @decide (Leads ps row x y) (Classical.propDecidable _)
/-! ### two parts of an order, one behind the other -/
/-- the early order: those ahead of it, it, all others -/
noncomputable def earlyO (ps : List (Str × Str)) (row order : List Str) (x : Str) : List Str := order.filter (fun y => leadsB ps row y x) ++ [x] ++ order.filter fun y => !leadsB ps row y x && !decide (y = x)
noncomputable def lateO (ps : List (Str × Str)) (row order : List Str) (x : Str) : List Str := order.filter (fun y => !leadsB ps row x y && !decide (y = x)) ++ [x] ++ order.filter (leadsB ps row x)
end
end Lk
set_option maxRecDepth 100000
set_option maxHeartbeats 4000000
namespace Lk
open PySem PySem.Spec PyProof.Rows L2
section
variable {X : Cx}
end
/-! ### a dict that is locked for a walk -/
/-! ### dicts whose values are all True -/
def trueK (ys : List Str) : List (Key × V) := ys.map fun y => ((Sum.inr y : Key), V.bl true)
def SetD (H : Hp) (d : Addr) (ys : List Str) : Prop := H d = some (.dK (trueK ys))
/-! ### who came behind whom -/
abbrev B4 := Str × Addr × List Str
def behK (qs : List B4) : List (Key × V) := qs.map fun q => ((Sum.inr q.1 : Key), V.ref q.2.1)
def BehAt (H : Hp) (D : Addr) (ps : List (Str × Str)) (row xs : List Str) : Prop := ∃ qs : List B4, H D = some (.dK (behK qs)) ∧ qs.map (·.1) = xs ∧ ∀ q ∈ qs, SetD H q.2.1 q.2.2 ∧ q.2.2.Nodup ∧ ∀ y, y ∈ q.2.2 ↔ Leads ps row q.1 y
theorem BehAt.same {H H' : Hp} {D : Addr} {ps : List (Str × Str)} {row xs : List Str} (s : Same H H') (h : BehAt H D ps row xs) : BehAt H' D ps row xs := by
  obtain ⟨qs, h1, h2, h3⟩ := h
  exact ⟨qs, s _ _ h1, h2, fun q hq => ⟨s _ _ (h3 q hq).1, (h3 q hq).2⟩⟩
/-- whom each bars -/
def barsL (ps : List (Str × Str)) (row : List Str) (x : Str) : List Str := row.filter fun y => !decide (wordsAt ps row x y = [])
def BarAt (H : Hp) (D : Addr) (ps : List (Str × Str)) (row : List Str) (n : Nat) : Prop := ∃ kvs, H D = some (.dK kvs) ∧ kvs.length ≤ n ∧ ∀ x ∈ row.take n, ∃ la, valV kvs (.inr x) = some (.ref la) ∧ H la = some (.lst ((barsL ps row x).map V.str))
theorem BarAt.same {H H' : Hp} {D : Addr} {ps : List (Str × Str)} {row : List Str} {n : Nat} (s : Same H H') (h : BarAt H D ps row n) : BarAt H' D ps row n := by
  obtain ⟨kvs, h1, h2, h3⟩ := h
  refine ⟨kvs, s _ _ h1, h2, fun x hx => ?_⟩
  obtain ⟨la, e1, e2⟩ := h3 x hx
  exact ⟨la, e1, s _ _ e2⟩
/-! ### put back at least, at most -/
section
variable {ps : List (Str × Str)} {row order : List Str}
noncomputable def leastN (ps : List (Str × Str)) (row : List Str) (x : Str) (i : Nat) : Nat := ((row.take i).filter (leadsB ps row x)).length
noncomputable def mostN (ps : List (Str × Str)) (row : List Str) (x : Str) (i : Nat) : Nat := ((row.take i).filter fun y => !leadsB ps row y x).length
end
/-! ### triples of a name and two numbers -/
abbrev B3T := Addr × Str × Nat × Nat
def TripAt (H : Hp) (qs : List B3T) : Prop := ∀ q ∈ qs, H q.1 = some (.tup [.str q.2.1, .int q.2.2.1, .int q.2.2.2])
theorem TripAt.same {H H' : Hp} {qs : List B3T} (s : Same H H') (h : TripAt H qs) : TripAt H' qs := fun b hb => s _ _ (h b hb)
/-! ### promises -/
/-- the dict of whom each leads to, by the law -/
def AftAt (H : Hp) (D : Addr) (ps : List (Str × Str)) (row xs : List Str) : Prop := ∃ kvs, H D = some (.dK kvs) ∧ kvs.length ≤ xs.length ∧ ∀ x ∈ xs, ∃ (la : Addr) (ys : List Str), valV kvs (.inr x) = some (.ref la) ∧ H la = some (.lst (ys.map V.str)) ∧ ys.Nodup ∧ ∀ y, y ∈ ys ↔ Leads ps row x y
theorem AftAt.same {H H' : Hp} {D : Addr} {ps : List (Str × Str)} {row xs : List Str} (s : Same H H') (h : AftAt H D ps row xs) : AftAt H' D ps row xs := by
  obtain ⟨kvs, h1, h2, h3⟩ := h
  refine ⟨kvs, s _ _ h1, h2, fun x hx => ?_⟩
  obtain ⟨la, ys, e1, e2, e3⟩ := h3 x hx
  exact ⟨la, ys, e1, s _ _ e2, e3⟩
/-- whom each bars, and more, but none that it does not lead to -/
def LedX (H : Hp) (D : Addr) (ps : List (Str × Str)) (stand : List Str) (n : Nat) : Prop := ∃ kvs, H D = some (.dK kvs) ∧ kvs.length ≤ 100 ∧ ∀ x ∈ stand.take n, ∃ (la : Addr) (ys : List Str), valV kvs (.inr x) = some (.ref la) ∧ H la = some (.lst (ys.map V.str)) ∧ ys.Nodup ∧ (∀ y ∈ ys, Leads ps stand x y) ∧ ∀ y ∈ stand, wordsAt ps stand x y ≠ [] → y ∈ ys
theorem LedX.same {H H' : Hp} {D : Addr} {ps : List (Str × Str)} {stand : List Str} {n : Nat} (s : Same H H') (h : LedX H D ps stand n) : LedX H' D ps stand n := by
  obtain ⟨kvs, h1, hk, h2⟩ := h
  refine ⟨kvs, s _ _ h1, hk, fun x hx => ?_⟩
  obtain ⟨la, ys, q1, q2, q3⟩ := h2 x hx
  exact ⟨la, ys, q1, s _ _ q2, q3⟩
/-- rows of pairs, one of each order -/
abbrev LN := Addr × List B3N
def RowsAt (H : Hp) (rs : List LN) : Prop := ∀ r ∈ rs, H r.1 = some (.lst (refsN r.2)) ∧ PairsN H r.2
theorem RowsAt.same {H H' : Hp} {rs : List LN} (s : Same H H') (h : RowsAt H rs) : RowsAt H' rs := fun r hr => ⟨s _ _ (h r hr).1, (h r hr).2.same s⟩
end Lk
set_option maxRecDepth 100000
set_option maxHeartbeats 4000000
namespace Lk
open PySem PySem.Spec PyProof.Rows L2
/-! ### how many pairs stand otherwise -/
section
variable {ps : List (Str × Str)} {row o o2 : List Str}
/-- places, exchanged at one behind the other, that lead from one order to another one -/
inductive Exs (ps : List (Str × Str)) (row : List Str) : List Str → List Nat → List Str → Prop where
  | nil (o : List Str) : Exs ps row o [] o
  | cons {o o' : List Str} {i : Nat} {ts : List Nat} (x y : Str) (hx : o[i]? = some x) (hy : o[i + 1]? = some y) (h : OrdOf ps row (swapL o i x y)) (t : Exs ps row (swapL o i x y) ts o') : Exs ps row o (i :: ts) o'
theorem Exs.at_ {o o' : List Str} {ts : List Nat} (h : Exs ps row o ts o') : ∀ (k : Nat), k ≤ ts.length → ∃ m, Exs ps row o (ts.take k) m ∧ Exs ps row m (ts.drop k) o' := by
  induction h with
  | nil o => exact fun k _ => ⟨o, by rw [List.take_nil]; exact .nil _, by rw [List.drop_nil]; exact .nil _⟩
  | @cons o o' i ts u v hu hv h t ih =>
    intro k hk
    cases k with
    | zero => exact ⟨_, .nil _, .cons u v hu hv h t⟩
    | succ k =>
      obtain ⟨m, m1, m2⟩ := ih k (by simpa using hk)
      exact ⟨m, .cons u v hu hv h m1, m2⟩
theorem Exs.uniq {o a : List Str} {ts : List Nat} (h : Exs ps row o ts a) : ∀ {b : List Str}, Exs ps row o ts b → a = b := by
  induction h with
  | nil o =>
    intro b h
    cases h with
    | nil _ => rfl
  | cons u v hu hv h t ih =>
    intro b k
    cases k with
    | cons x y hx hy h' t' =>
      rw [hu] at hx
      rw [hv] at hy
      cases hx
      cases hy
      exact ih t'
theorem Exs.ord {o a : List Str} {ts : List Nat} (h : Exs ps row o ts a) : OrdOf ps row o → OrdOf ps row a := by
  induction h with
  | nil o => exact id
  | cons u v hu hv h t ih => exact fun _ => ih h
/-! ### what is put back, all together -/
end
/-! ### promises -/
/-! ### a dict made of a list of pairs -/
abbrev B5 := Addr × Str × V
end Lk
set_option maxRecDepth 100000
set_option maxHeartbeats 4000000
namespace Lk
open PySem PySem.Spec PyProof.Rows L2
/-! ### dict(l), l a list of pairs whose first ones are tuples -/
section
variable {prog : Program} {w : World} {A : Around} {E : Value → Shared → Prop}
end
section
variable {X : Cx}
end
/-! ### friends as a dict of their pairs -/
def MatesAt (H : Hp) (a : Addr) (ps : List (Str × Str)) : Prop := ∃ kvs, H a = some (.dT kvs) ∧ ∀ x y, (valV kvs (k2 x y)).isSome = decide ((x, y) ∈ ps)
def PalX (H : Hp) (a : Addr) (ps : List (Str × Str)) : Prop := PalsAt H a ps ∨ MatesAt H a ps
theorem PalX.same {H H' : Hp} {a : Addr} {ps : List (Str × Str)} (s : Same H H') (h : PalX H a ps) : PalX H' a ps := h.elim (fun e => .inl (e.same s)) fun ⟨kvs, h1, h2⟩ => .inr ⟨kvs, s _ _ h1, h2⟩
theorem PalX.oth {H H' : Hp} {a b : Addr} {ps : List (Str × Str)} (s : Oth b H H') (hb : IsBox H b) (h : PalX H a ps) : PalX H' a ps := h.elim (fun e => .inl (e.oth s hb)) fun ⟨kvs, h1, h2⟩ => .inr ⟨kvs, s _ _ (hb.ne_dT h1) h1, h2⟩
end Lk
set_option maxRecDepth 100000
set_option maxHeartbeats 4000000
namespace Lk
open PySem PySem.Spec PyProof.Rows L2
/-! ### list.remove of a text -/
section
variable {X : Cx}
end
/-! ### `dict([(pair, True) for pair in pals])` -/
/-! ### whoever can go goes first -/
section
variable {ps : List (Str × Str)} {stay : Nat → List Str} {sv : List Str}
/-- from a row, `m` served, to another one: whoever can go goes, in any order; where none can the last one served is put back -/
inductive Gre (ps : List (Str × Str)) (stay : Nat → List Str) (sv : List Str) : Nat → List Str → Nat → List Str → Prop where
  | done (m : Nat) (row : List Str) : Gre ps stay sv m row m row
  | go {m m' : Nat} {row row' : List Str} (x : Str) (h : LooseIn ps row x) (hs : x ∉ stay m) (t : Gre ps stay sv m (rem row x) m' row') : Gre ps stay sv m row m' row'
  | back {m m' : Nat} {row row' : List Str} (y : Str) (h : sv[m]? = some y) (no : ∀ x, LooseIn ps row x → x ∈ stay (m + 1)) (t : Gre ps stay sv m (y :: row) m' row') : Gre ps stay sv (m + 1) row m' row'
theorem Gre.trans {m m1 m2 : Nat} {a b c : List Str} (h : Gre ps stay sv m a m1 b) : Gre ps stay sv m1 b m2 c → Gre ps stay sv m a m2 c := by
  induction h with
  | done _ _ => exact id
  | go x h hs t ih => exact fun k => .go x h hs (ih k)
  | back y h no t ih => exact fun k => .back y h no (ih k)
theorem Gre.le {m m1 : Nat} {a b : List Str} (h : Gre ps stay sv m a m1 b) : m1 ≤ m := by
  induction h with
  | done _ _ => exact Nat.le_refl _
  | go x h hs t ih => exact ih
  | back y h no t ih => omega
theorem Gre.way {m m1 : Nat} {a b : List Str} (h : Gre ps stay sv m a m1 b) : ∃ ds, Way ps stay sv m1 m a ds b := by
  induction h with
  | done _ _ => exact ⟨[], .done _⟩
  | go x h hs t ih =>
    obtain ⟨ds, w⟩ := ih
    exact ⟨_, .go x h hs w⟩
  | back y h no t ih =>
    obtain ⟨ds, w⟩ := ih
    exact ⟨_, .back y h w⟩
/-- a way from the beginning goes on from wherever this leads to, and no more are left -/
theorem Gre.follow {m m1 u : Nat} {a b : List Str} (h : Gre ps stay sv m a m1 b) : (sv.take m ++ a).Nodup → u ≤ m1 → ∀ {ds fin}, Way ps stay sv u m a ds fin → ∃ ds' fin', Way ps stay sv u m1 b ds' fin' ∧ ∀ x ∈ fin', x ∈ fin := by
  induction h with
  | done m row => exact fun _ _ {ds fin} w => ⟨ds, fin, w, fun _ h => h⟩
  | go x h hs t ih =>
    intro nd hu ds fin w
    obtain ⟨ds', w'⟩ := w.swap nd x h.nb
    obtain ⟨d2, f2, w2, s2⟩ := ih (nd_rem nd) hu w'
    exact ⟨d2, f2, w2, fun y hy => (List.mem_filter.mp (s2 y hy)).1⟩
  | @back m m' row row' y hy no t ih =>
    intro nd hu ds fin w
    have tl := t.le
    cases w with
    | done _ => omega
    | go x h hs t' => exact absurd (no x h) hs
    | back y' hy' t' =>
      rw [hy] at hy'
      cases hy'
      rw [line_back hy] at nd
      exact ih nd hu t'
/-- at the beginning, where none can go any more, the fewest are left -/
theorem Gre.least {m u : Nat} {a b : List Str} (h : Gre ps stay sv m a u b) (nd : (sv.take m ++ a).Nodup) (no : ∀ x, LooseIn ps b x → x ∈ stay u) {ds : List Deed} {fin : List Str} (w : Way ps stay sv u m a ds fin) : ∀ x ∈ b, x ∈ fin := by
  obtain ⟨ds', fin', w', s'⟩ := h.follow nd (Nat.le_refl _) w
  intro x hx
  refine s' x ?_
  cases w' with
  | done _ => exact hx
  | go y hy hs t => exact absurd (no y hy) hs
  | back y hy t =>
    have := t.le
    omega
end
/-! ### promises -/
end Lk
set_option maxRecDepth 100000
set_option maxHeartbeats 4000000
namespace Lk
open PySem PySem.Spec PyProof.Rows L2
/-! ### whether one can have come when so many had been served -/
section
variable {ps : List (Str × Str)} {stay stay' : Nat → List Str} {sv : List Str}
theorem Way.keepB {m0 m : Nat} {row fin : List Str} {ds : List Deed} {x : Str} (h : Way ps stay sv m0 m row ds fin) : (∀ k, m0 ≤ k → k ≤ m → x ∈ stay k) → x ∈ sv.take m ++ row → x ∈ sv.take m0 ++ fin := by
  induction h with
  | done _ => exact fun _ h => h
  | @go m row ds fin y h hs t ih =>
    intro hk hx
    refine ih hk ?_
    rcases List.mem_append.mp hx with z | z
    · exact List.mem_append_left _ z
    · refine List.mem_append_right _ (mem_rem.mpr ⟨z, fun e => ?_⟩)
      rw [← e] at hs
      exact hs (hk m t.le (Nat.le_refl _))
  | @back m row ds fin y h t ih =>
    intro hk hx
    rw [line_back h] at hx
    exact ih (fun k h1 h2 => hk k h1 (by omega)) hx
theorem Gre.keep {m m' : Nat} {a b : List Str} {x : Str} (h : Gre ps stay sv m a m' b) (hk : ∀ k, x ∈ stay k) (hx : x ∈ sv.take m ++ a) : x ∈ sv.take m' ++ b := by
  obtain ⟨ds, w⟩ := h.way
  exact w.keepB (fun k _ _ => hk k) hx
theorem Gre.change {m m' : Nat} {a b : List Str} (h : Gre ps stay sv m a m' b) : (∀ k x, m' ≤ k → x ∈ sv.take m ++ a → x ∉ stay k → x ∉ stay' k) → (∀ k x, m' < k → x ∈ stay k → x ∈ stay' k) → Gre ps stay' sv m a m' b := by
  induction h with
  | done _ _ => exact fun _ _ => .done _ _
  | @go m m' row row' y h hs t ih =>
    intro h1 h2
    refine .go y h (h1 m y t.le (List.mem_append_right _ h.mem) hs) (ih (fun k x hk hx => h1 k x hk ?_) h2)
    rcases List.mem_append.mp hx with z | z
    · exact List.mem_append_left _ z
    · exact List.mem_append_right _ (mem_rem.mp z).1
  | @back m m' row row' y h no t ih =>
    intro h1 h2
    have := t.le
    refine .back y h (fun x hx => h2 (m + 1) x (by omega) (no x hx)) (ih (fun k x hk hx => h1 k x hk ?_) h2)
    rw [line_back h]
    exact hx
end
section
variable {ps : List (Str × Str)} {olds gn st ins1 ins2 : List Str} {name : Str} {many : Nat}
end
end Lk
set_option maxRecDepth 100000
set_option maxHeartbeats 4000000
namespace Lk
open PySem PySem.Spec PyProof.Rows L2
/-! ### why one never comes -/
section
variable {ps : List (Str × Str)} {stay : Nat → List Str} {sv : List Str}
end
section
variable {ps : List (Str × Str)} {stay : Nat → List Str} {sv : List Str}
def behindL (line there : List Str) (who : Str) : List Str := (line.drop (line.idxOf who + 1)).filter fun x => decide (x ∈ there)
def betweenL (line there : List Str) (who : Str) (h : Nat) : List Str := ((line.take (line.idxOf who)).drop (h + 1)).filter fun x => decide (x ∈ there)
end
/-! ### promises -/
def reasonOf (ps : List (Str × Str)) (line : List Str) (many : Nat) (there : List Str) (who : Str) : Str × List Str :=
  match (behindL line there who).filter (frd ps who) with
  | f :: _ => ("friend", [f])
  | [] => match lastP (frd ps who) (line.take (line.idxOf who)) with
    | none => ("behind", (behindL line there who).take 1)
    | some h => ("between", (betweenL line there who h).take 1 ++ if h < many then (behindL line there who).take 1 else [])
/-- a reason: where it is, where its names are, who, the word, the names -/
abbrev LR := Addr × Addr × Str × Str × List Str
def ReasonAt (H : Hp) (q : LR) : Prop := TupAt H q.1 [.str q.2.2.1, .str q.2.2.2.1, .ref q.2.1] ∧ TupAt H q.2.1 (q.2.2.2.2.map V.str)
def refsR (rs : List LR) : List V := rs.map fun q => V.ref q.1
def ReasonsAt (H : Hp) (rs : List LR) : Prop := ∀ q ∈ rs, ReasonAt H q
theorem ReasonAt.same {H H' : Hp} {q : LR} (s : Same H H') (h : ReasonAt H q) : ReasonAt H' q := ⟨h.1.same s, h.2.same s⟩
theorem ReasonAt.oth {H H' : Hp} {b : Addr} {q : LR} (s : Oth b H H') (hb : IsBox H b) (h : ReasonAt H q) : ReasonAt H' q := ⟨h.1.oth s hb, h.2.oth s hb⟩
/-- who is left, in the line's order -/
def leftL (ps : List (Str × Str)) (elders svd row : List Str) : List Str := (trace ps (stayF elders none) svd svd.length row).2.filter fun x => !decide (x ∈ elders)
/-- what is told of a line -/
def ToldAt (H : Hp) (T : Addr) (ps : List (Str × Str)) (elders svd row : List Str) : Prop :=
  (leftL ps elders svd row = [] ∧ ∃ (u : Addr) (ds : List LD), TupAt H T [.str "deeds", .ref u] ∧ H u = some (.lst (refsD ds)) ∧ DeedsAt H ds ∧ ds.map (·.2) = (trace ps (stayF elders none) svd svd.length row).1.reverse) ∨
  (leftL ps elders svd row ≠ [] ∧ ∃ (p : Addr) (rs : List LR), TupAt H T [.str "none", .ref p] ∧ H p = some (.lst (refsR rs)) ∧ ReasonsAt H rs ∧ rs.map (fun q => q.2.2) = (leftL ps elders svd row).map (fun x => (x, reasonOf ps (svd ++ row) svd.length (leftL ps elders svd row ++ elders) x)))
theorem ToldAt.same {H H' : Hp} {T : Addr} {ps : List (Str × Str)} {elders svd row : List Str} (s : Same H H') (h : ToldAt H T ps elders svd row) : ToldAt H' T ps elders svd row := by
  rcases h with ⟨h0, u, ds, h1, h2, h3, h4⟩ | ⟨h0, p, rs, h1, h2, h3, h4⟩
  · exact .inl ⟨h0, u, ds, h1.same s, s _ _ h2, h3.same s, h4⟩
  · exact .inr ⟨h0, p, rs, h1.same s, s _ _ h2, (fun q hq => (h3 q hq).same s), h4⟩
theorem ToldAt.oth {H H' : Hp} {b T : Addr} {ps : List (Str × Str)} {elders svd row : List Str} (s : Oth b H H') (hb : IsBox H b) (h : ToldAt H T ps elders svd row) : ToldAt H' T ps elders svd row := by
  rcases h with ⟨h0, u, ds, h1, h2, h3, h4⟩ | ⟨h0, p, rs, h1, h2, h3, h4⟩
  · exact .inl ⟨h0, u, ds, h1.oth s hb, s _ _ (hb.ne_refs (xs := ds.map (·.1)) (by rw [List.map_map]; exact h2)) h2, (fun q hq => (h3 q hq).oth s hb), h4⟩
  · exact .inr ⟨h0, p, rs, h1.oth s hb, s _ _ (hb.ne_refs (xs := rs.map (·.1)) (by rw [List.map_map]; exact h2)) h2, (fun q hq => (h3 q hq).oth s hb), h4⟩
end Lk
set_option maxRecDepth 100000
set_option maxHeartbeats 4000000
namespace Lk
open PySem PySem.Spec PyProof.Rows L2
/-! ### goings in any order -/
section
variable {ps : List (Str × Str)} {stay : Nat → List Str} {sv : List Str}
end
/-! ### lists of texts that aren't alike -/
section
variable {X : Cx}
end
/-! ### promises -/
end Lk
set_option maxRecDepth 100000
set_option maxHeartbeats 4000000
namespace Lk
open PySem PySem.Spec PyProof.Rows L2
/-! ### any list beside [] -/
section
variable {X : Cx}
end
/-! ### a reason as data -/
/-! ### what a reason says -/
def ReasonOk (ps : List (Str × Str)) (line : List Str) (many : Nat) (x w : Str) (os : List Str) : Prop :=
  (∃ f, w = "friend" ∧ os = [f] ∧ f ∈ line ∧ line.idxOf x < line.idxOf f ∧ frd ps x f = true) ∨
  (∃ z, w = "behind" ∧ os = [z] ∧ z ∈ line ∧ line.idxOf x < line.idxOf z ∧ lastP (frd ps x) (line.take (line.idxOf x)) = none) ∨
  (∃ h y, w = "between" ∧ lastP (frd ps x) (line.take (line.idxOf x)) = some h ∧ y ∈ line ∧ h < line.idxOf y ∧ line.idxOf y < line.idxOf x ∧ ((h < many ∧ ∃ z, os = [y, z] ∧ z ∈ line ∧ line.idxOf x < line.idxOf z) ∨ (¬ h < many ∧ os = [y])))
theorem ReasonOk.mem {ps : List (Str × Str)} {line : List Str} {many : Nat} {x w : Str} {os : List Str} (h : ReasonOk ps line many x w os) : ∀ y ∈ os, y ∈ line := by
  rcases h with ⟨f, _, rfl, h, _⟩ | ⟨z, _, rfl, h, _⟩ | ⟨h, y, _, _, hy, _, _, ⟨_, z, rfl, hz, _⟩ | ⟨_, rfl⟩⟩
  · intro y hy
    rw [List.mem_singleton.mp hy]
    exact h
  · intro y hy
    rw [List.mem_singleton.mp hy]
    exact h
  · intro u hu
    rcases List.mem_cons.mp hu with z' | z'
    · rw [z']
      exact hy
    · rw [List.mem_singleton.mp z']
      exact hz
  · intro u hu
    rw [List.mem_singleton.mp hu]
    exact hy
/-! ### the deeds told are a history -/
section
variable {ps : List (Str × Str)} {stay : Nat → List Str} {sv : List Str}
theorem Way.len {m0 m : Nat} {row fin : List Str} {ds : List Deed} (h : Way ps stay sv m0 m row ds fin) : (sv.take m ++ row).Nodup → ds.length + fin.length + 2 * m0 = row.length + 2 * m := by
  induction h with
  | done row => exact fun _ => by simp
  | @go m row ds fin x hx hs t ih =>
    intro nd
    have := ih (nd_rem nd)
    have rl := rem_len (nd_right nd) hx.mem
    rw [List.length_cons]
    omega
  | @back m row ds fin y hy t ih =>
    intro nd
    rw [line_back hy] at nd
    have := ih nd
    rw [List.length_cons] at this
    rw [List.length_cons]
    omega
end
/-! ### promises -/
theorem good_words : Good "friend" ∧ Good "behind" ∧ Good "between" := by
  refine ⟨?_, ?_, ?_⟩ <;> (show PyData.strOk _ = true; decide +kernel)
theorem ReasonOk.good {ps : List (Str × Str)} {line : List Str} {many : Nat} {x w : Str} {os : List Str} (h : ReasonOk ps line many x w os) : Good w := by
  rcases h with ⟨f, rfl, _⟩ | ⟨z, rfl, _⟩ | ⟨h, y, rfl, _⟩
  · exact good_words.1
  · exact good_words.2.1
  · exact good_words.2.2
end Lk
set_option maxRecDepth 100000
set_option maxHeartbeats 4000000
namespace Lk
open PySem PySem.Spec PyProof.Rows L2
/-! ### set(ns), ns a list of ints, some of them twice -/
section
variable {P : Program} {w : World} {A : Around} {E : Value → Shared → Prop} {s : Shared}
end
section
variable {X : Cx}
end
end Lk
set_option maxRecDepth 100000
set_option maxHeartbeats 4000000
namespace Lk
open PySem PySem.Spec PyProof.Rows L2
/-! ### how many ways are left, at most -/
/-! ### histories begun -/
structure WE where
  T : Addr
  d : Addr
  t : Addr
  ds : List LD
  here : List Str
  m : Nat
def EntAt (H : Hp) (e : WE) : Prop := TupAt H e.T [.ref e.d, .ref e.t, .int (e.m : Nat)] ∧ TupAt H e.d (refsD e.ds) ∧ DeedsAt H e.ds ∧ TupAt H e.t (e.here.map V.str)
def EntsAt (H : Hp) (es : List WE) : Prop := ∀ e ∈ es, EntAt H e
theorem EntAt.same {H H' : Hp} {e : WE} (s : Same H H') (h : EntAt H e) : EntAt H' e := ⟨h.1.same s, h.2.1.same s, h.2.2.1.same s, h.2.2.2.same s⟩
theorem EntsAt.same {H H' : Hp} {es : List WE} (s : Same H H') (h : EntsAt H es) : EntsAt H' es := fun e he => (h e he).same s
/-- what of the line's history has been gone through -/
structure EntOk (ps : List (Str × Str)) (olds gn st : List Str) (k : Nat) (e : WE) : Prop where
  len : e.ds.length = k
  go : goD ps (e.ds.map (·.2)) (olds, []) olds = some (e.here, gn.take e.m)
  le : e.m ≤ gn.length
  sub : e.here.Sublist ((gn ++ st).drop e.m)
def leftN (gn st : List Str) (e : WE) : Nat := (gn ++ st).length - e.m - e.here.length
section
variable {ps : List (Str × Str)} {olds gn st : List Str} {k : Nat} {e : WE}
theorem take_line {m : Nat} (h : m ≤ gn.length) : (gn ++ st).take m = gn.take m := List.take_append_of_le_length h
theorem EntOk.new (h : EntOk ps olds gn st k e) (nd : (gn ++ st).Nodup) {x : Str} (hx : x ∈ (gn ++ st).drop e.m) (nx : x ∉ e.here) : x ∉ olds ++ comers (e.ds.map (·.2)) := fun z => by
  have pm := go_perm _ _ _ _ h.go
  have : x ∈ comers (e.ds.map (·.2)) ++ ([] ++ olds) := by
    rcases List.mem_append.mp z with u | u
    · exact List.mem_append_right _ (by simpa using u)
    · exact List.mem_append_left _ u
  rcases List.mem_append.mp (pm.mem_iff.mpr this) with u | u
  · have u' : x ∈ (gn ++ st).take e.m := by rw [take_line h.le]; exact u
    have nd' := nd
    rw [← List.take_append_drop e.m (gn ++ st)] at nd'
    exact (List.nodup_append.mp nd').2.2 x u' x hx rfl
  · exact nx u
/-- somebody more comes -/
theorem EntOk.comes (h : EntOk ps olds gn st k e) (nd : (gn ++ st).Nodup) {x : Str} (hx : x ∈ (gn ++ st).drop e.m) (nx : x ∉ e.here) {T d t a : Addr} (hs : (comeTo ps e.here x).Sublist ((gn ++ st).drop e.m)) : EntOk ps olds gn st (k + 1) ⟨T, d, t, e.ds ++ [((a, some x) : LD)], comeTo ps e.here x, e.m⟩ := by
  refine ⟨by rw [List.length_append, h.len]; rfl, ?_, h.le, hs⟩
  show goD ps ((e.ds ++ [((a, some x) : LD)]).map (·.2)) (olds, []) olds = some (comeTo ps e.here x, gn.take e.m)
  rw [List.map_append]
  show goD ps (e.ds.map (·.2) ++ [some x]) (olds, []) olds = _
  rw [goD_snoc, h.go]
  show (if x ∈ olds ++ comers (e.ds.map (·.2)) then none else some (comeTo ps e.here x, gn.take e.m)) = _
  rw [if_neg (h.new nd hx nx)]
/-- how many can come -/
theorem EntOk.few (h : EntOk ps olds gn st k e) (nd : (gn ++ st).Nodup) : (((gn ++ st).drop e.m).filter fun x => !decide (x ∈ e.here)).length = leftN gn st e := by
  have ndd := nd.sublist (List.drop_sublist e.m (gn ++ st))
  have e1 := sub_filter h.sub ndd
  have p := (List.filter_append_perm (fun x => decide (x ∈ e.here)) ((gn ++ st).drop e.m)).length_eq
  rw [← e1, List.length_append, List.length_drop] at p
  unfold leftN
  omega
end
/-! ### long lists -/
section
variable {J : It} {n : Nat} {G : Hp → Prop} {Y : Nat → Hp → V → Hp → Prop} {g : TG} {tt : TT} {te : TE} {vs : List Nat} {σ : L2.St} {H1 : Hp} {D : Addr} {Qd : Hp → Prop}
end
/-! ### promises -/
abbrev LW := Addr × List LD
def WaysAt (H : Hp) (ws : List LW) : Prop := ∀ q ∈ ws, TupAt H q.1 (refsD q.2) ∧ DeedsAt H q.2
theorem WaysAt.same {H H' : Hp} {ws : List LW} (s : Same H H') (h : WaysAt H ws) : WaysAt H' ws := fun q hq => ⟨(h q hq).1.same s, (h q hq).2.same s⟩
end Lk
set_option maxRecDepth 100000
set_option maxHeartbeats 4000000
namespace Lk
open PySem PySem.Spec PyProof.Rows L2
/-! ### ways as data -/
section
variable {K : PySem.W.Frag} {H : Hp}
end
end Lk
set_option maxRecDepth 100000
set_option maxHeartbeats 4000000
namespace Lk
open PySem PySem.Spec PyProof.Rows L2
/-! ### who was ever there -/
def BeenAt (H : Hp) (d : Addr) (met : List Str) : Prop := ∃ kvs, H d = some (.dK kvs) ∧ kvs.length ≤ met.length ∧ ∀ y, (valV kvs (.inr y)).isSome = decide (y ∈ met)
theorem BeenAt.same {H H' : Hp} {d : Addr} {met : List Str} (s : Same H H') (h : BeenAt H d met) : BeenAt H' d met := by
  obtain ⟨kvs, h1, h2, h3⟩ := h
  exact ⟨kvs, s _ _ h1, h2, h3⟩
/-! ### promises -/
/-! ### one more is served, one more comes -/
/-! ### two tuples of texts -/
/-- a history told, or none -/
def TellAt (H : Hp) (T : Addr) (ps : List (Str × Str)) (olds gn st : List Str) : Prop :=
  (∃ (u : Addr) (ds : List LD), TupAt H T [.str "deeds", .ref u] ∧ H u = some (.lst (refsD ds)) ∧ DeedsAt H ds ∧ goD ps (ds.map (·.2)) (olds, []) olds = some (st, gn) ∧ olds.length + ds.length ≤ st.length + 2 * gn.length) ∨
  (∃ (p : Addr), TupAt H T [.str "none", .ref p])
theorem TellAt.same {H H' : Hp} {T : Addr} {ps : List (Str × Str)} {olds gn st : List Str} (s : Same H H') (h : TellAt H T ps olds gn st) : TellAt H' T ps olds gn st := by
  rcases h with ⟨u, ds, h1, h2, h3, h4⟩ | ⟨p, h1⟩
  · exact .inl ⟨u, ds, h1.same s, s _ _ h2, h3.same s, h4⟩
  · exact .inr ⟨p, h1.same s⟩
end Lk
set_option maxRecDepth 100000
set_option maxHeartbeats 4000000
namespace Lk
open PySem PySem.Spec PyProof.Rows L2
/-! ### promises -/
end Lk
set_option maxRecDepth 100000
set_option maxHeartbeats 4000000
namespace Lk
open PySem PySem.Spec PyProof.Rows L2
/-! ### all are served, each one alone in the row -/
section
variable {ps : List (Str × Str)} {pool : List Str}
end
end Lk
set_option maxRecDepth 100000
set_option maxHeartbeats 4000000
namespace Lk
open PySem PySem.Spec PyProof.Rows L2
/-! ### len(set(xs)), xs a list of texts, some of them twice -/
section
variable {P : Program} {w : World} {A : Around} {E : Value → Shared → Prop} {s : Shared}
theorem strs_loopD {R : Result → Shared → Prop} {I S : Addr} {fp wr : List Addr} {G : Array GenState → Array GenState → Prop} {n : Nat} {Pv : Nat → Value → Prop} {St : Nat → Shared → Prop}
    (W : WalksS P w A.in1 I fp wr G n Pv St) (nf : S ∉ fp) {xs : List Str} (en : xs.length = n) (few : ∀ us : List Str, us.Nodup → (∀ y ∈ us, y ∈ xs) → us.length + 1 < scanBound) (hv : ∀ i v, Pv i v → ∃ x t, xs[i]? = some x ∧ v = .str x t) :
    ∀ (m i : Nat) (s : Shared) (us : List Str), i + m = n → St i s → us.Nodup → (∀ y, y ∈ us ↔ y ∈ xs.take i) → s.heap.SetOf (PySem.strKind P w) S (fun y => decide (y ∈ us)) us.length →
      (∀ (s' : Shared) (us : List Str), Moved (S :: wr) G s s' → us.Nodup → (∀ y, y ∈ us ↔ y ∈ xs) → s'.heap.SetOf (PySem.strKind P w) S (fun y => decide (y ∈ us)) us.length → R (.ok (.ret .none)) s') →
      codeAny (model P w) A (.builtin "set.update.loop" ⟨[.ref S, .ref I], []⟩) R s := by
  have nw : S ∉ wr := fun h => nf (W.sub _ h)
  have more : ∀ b ∈ wr, b ∈ S :: wr := fun b => List.mem_cons_of_mem _
  have stays : ∀ {s s' : Shared} {T : Str → Bool} {c : Nat}, Moved wr G s s' → s.heap.SetOf (PySem.strKind P w) S T c → s'.heap.SetOf (PySem.strKind P w) S T c := fun hm ⟨o, es, ep, t, ho, rest⟩ => ⟨o, es, ep, t, hm.heap S _ nw ho, rest⟩
  intro m
  induction m with
  | zero =>
    intro i s us e st nu mu so fin
    have ei : i = n := by omega
    subst ei
    refine codeAny_builtin PyProof.Rows.F.entry_set_update_loop ?_
    rw [Around.under_plainId PyProof.Rows.F.plain_set_update_loop _]
    show wpAny _ A.in1 (pyNext (.ref I) >>= _) _ _ s
    refine wpAny_bind (W.done s _ _ st fun s' hm => ?_)
    rw [← en, List.take_length] at mu
    exact wpAny_pure (fin s' us (hm.mono more) nu mu (stays hm so))
  | succ m ih =>
    intro i s us e st nu mu so fin
    refine codeAny_builtin PyProof.Rows.F.entry_set_update_loop ?_
    rw [Around.under_plainId PyProof.Rows.F.plain_set_update_loop _]
    show wpAny _ A.in1 (pyNext (.ref I) >>= _) _ _ s
    refine wpAny_bind (W.item i s _ _ (by omega) st fun v s' hP st' hm => ?_)
    obtain ⟨x, t, hx, rfl⟩ := hv i v hP
    have so' := stays hm so
    have fw : us.length + 1 < scanBound := few us nu fun y hy => List.mem_of_mem_take ((mu y).mp hy)
    show wpAny _ A.in1 (holding [Value.str x t] (setAdd S (.str x t)) >>= _) _ _ s'
    refine wpAny_bind (wpAny_holding ?_)
    unfold setAdd
    refine wpAny_holding (wpAny_bind ((PySem.strKind P w).pyHash (k := x) (strKind_is _ _ _ _) ?_))
    refine wpAny_setAddHashed_of (knd := PySem.strKind P w) (s := { s' with toks := s'.toks + 1 }) (strKind_is _ _ _ _) rfl so' fw fun h' sb so2 => ?_
    obtain ⟨us', nu', mu', so3⟩ : ∃ us' : List Str, us'.Nodup ∧ (∀ y, y ∈ us' ↔ y ∈ xs.take (i + 1)) ∧ h'.SetOf (PySem.strKind P w) S (fun y => decide (y ∈ us')) us'.length := by
      have tk : ∀ y, y ∈ xs.take (i + 1) ↔ y ∈ us ∨ y = x := fun y => by
        rw [List.take_add_one, hx, List.mem_append, ← mu y]
        simp
      by_cases c : x ∈ us
      · refine ⟨us, nu, fun y => ?_, SetOf_congr so2 (fun y => ?_) (by rw [decide_eq_true c]; rfl)⟩
        · rw [tk y]
          exact ⟨.inl, fun z => z.elim id fun z => z ▸ c⟩
        · by_cases c2 : y = x
          · subst c2
            simp [c]
          · simp [c2]
      · refine ⟨us ++ [x], ?_, fun y => ?_, SetOf_congr so2 (fun y => ?_) (by rw [decide_eq_false c, List.length_append]; rfl)⟩
        · rw [List.nodup_append]
          refine ⟨nu, List.nodup_cons.mpr ⟨fun h => (nomatch h), List.nodup_nil⟩, fun a ha b hb e => c ?_⟩
          rw [← List.mem_singleton.mp hb, ← e]
          exact ha
        · rw [tk y, List.mem_append, List.mem_singleton]
        · by_cases c2 : y = x
          · subst c2
            simp
          · simp [c2]
    refine wpAny_pure ⟨plainId_quiet PyProof.Rows.F.plain_set_update_loop _, ih (i + 1) _ us' (by omega) (W.frame _ s' _ _ st' (Nat.le_succ _) fun b hb o z => ?_) nu' mu' so3 fun s2 u2 hm2 n2 m2 so4 => ?_⟩
    · have nb : b ≠ S := fun q => nf (q ▸ hb)
      exact (sb.2 b nb).trans z
    · refine fin s2 u2 (Moved.trans W.gtrans ((hm.mono more).then_heap (Nat.le_succ _) fun b o hb z => ?_) hm2) n2 m2 so4
      have nb : b ≠ S := fun q => hb (q ▸ List.mem_cons_self)
      exact (sb.2 b nb).trans z
end
theorem nd_lenS : ∀ (l : List Str) (m : List Str), l.Nodup → (∀ x ∈ l, x ∈ m) → l.length ≤ m.length
  | [], _, _, _ => Nat.zero_le _
  | x :: l, m, h, s => by
    obtain ⟨n1, n2⟩ := List.nodup_cons.mp h
    obtain ⟨a, b, e⟩ := List.append_of_mem (s x (List.mem_cons_self ..))
    have ih := nd_lenS l (a ++ b) n2 fun y hy => by
      have ne : y ≠ x := fun z => n1 (z ▸ hy)
      have := s y (List.mem_cons_of_mem _ hy)
      rw [e] at this
      rcases List.mem_append.mp this with z | z
      · exact List.mem_append_left _ z
      · rcases List.mem_cons.mp z with z | z
        · exact absurd z ne
        · exact List.mem_append_right _ z
    rw [List.length_append] at ih
    rw [e, List.length_append, List.length_cons, List.length_cons]
    omega
section
variable {X : Cx}
end
/-! ### a row of which nobody is served yet -/
/-! ### papers that show nothing -/
/-- a text or a pair: no reason -/
def NoClause (H : Hp) (v : V) : Prop := (∃ x : Str, v = .str x) ∨ ∃ (t : Addr) (x y : Str), v = .ref t ∧ H t = some (.tup [.str x, .str y])
theorem NoClause.same {H H' : Hp} {v : V} (s : Same H H') (h : NoClause H v) : NoClause H' v := h.elim .inl fun ⟨t, x, y, e, h⟩ => .inr ⟨t, x, y, e, s _ _ h⟩
end Lk
set_option maxRecDepth 100000
set_option maxHeartbeats 4000000
namespace Lk
open PySem PySem.Spec PyProof.Rows L2
/-! ### led back, and what was done on the way -/
section
variable {ps : List (Str × Str)} {olds gn st ins1 ins2 : List Str} {name : Str} {many : Nat} {ds1 ds2 : List Deed}
theorem Way.coming {stay : Nat → List Str} {sv : List Str} {m0 m : Nat} {row fin : List Str} {ds : List Deed} (h : Way ps stay sv m0 m row ds fin) {x : Str} : some x ∈ ds → x ∈ sv.take m ++ row := by
  induction h with
  | done row => exact fun h => nomatch h
  | @go m row ds fin y hy hs t ih =>
    intro hm
    rcases List.mem_cons.mp hm with z | z
    · cases z
      exact List.mem_append_right _ hy.mem
    · rcases List.mem_append.mp (ih z) with w | w
      · exact List.mem_append_left _ w
      · exact List.mem_append_right _ (mem_rem.mp w).1
  | @back m row ds fin y h t ih =>
    intro hm
    rw [line_back h]
    rcases List.mem_cons.mp hm with z | z
    · cases z
    · exact ih z
end
/-- histories in a list -/
abbrev LH := Addr × List LD
def HistsAt (ps : List (Str × Str)) (olds gn st : List Str) (H : Hp) (ws : List LH) : Prop := ∀ q ∈ ws, H q.1 = some (.lst (refsD q.2)) ∧ DeedsAt H q.2 ∧ goD ps (q.2.map (·.2)) (olds, []) olds = some (st, gn)
theorem HistsAt.oth {ps : List (Str × Str)} {olds gn st : List Str} {H H' : Hp} {b : Addr} {ws : List LH} (o : Oth b H H') (hb : IsBox H b) (h : HistsAt ps olds gn st H ws) : HistsAt ps olds gn st H' ws := fun q hq => by
  obtain ⟨h1, h2, h3⟩ := h q hq
  exact ⟨o _ _ (hb.ne_refs (xs := q.2.map (·.1)) (by rw [List.map_map]; exact h1)) h1, fun d hd => (h2 d hd).oth o hb, h3⟩
theorem HistsAt.same {ps : List (Str × Str)} {olds gn st : List Str} {H H' : Hp} {ws : List LH} (s : Same H H') (h : HistsAt ps olds gn st H ws) : HistsAt ps olds gn st H' ws := fun q hq => by
  obtain ⟨h1, h2, h3⟩ := h q hq
  exact ⟨s _ _ h1, fun d hd => (h2 d hd).same s, h3⟩
end Lk
set_option maxRecDepth 100000
set_option maxHeartbeats 4000000
namespace Lk
open PySem PySem.Spec PyProof.Rows L2
/-! ### right papers show that nobody comes there -/
theorem ReasonOk.nd {ps : List (Str × Str)} {line : List Str} {many : Nat} {x w : Str} {os : List Str} (h : ReasonOk ps line many x w os) : os.Nodup ∧ os.length ≤ 2 := by
  rcases h with ⟨f, _, rfl, _⟩ | ⟨z, _, rfl, _⟩ | ⟨h, y, _, _, _, _, ly, ⟨_, z, rfl, _, lz⟩ | ⟨_, rfl⟩⟩
  · simp
  · simp
  · refine ⟨List.nodup_cons.mpr ⟨fun z => ?_, List.nodup_cons.mpr ⟨(fun z => nomatch z), List.nodup_nil⟩⟩, Nat.le_refl _⟩
    rw [List.mem_singleton.mp z] at ly
    omega
  · simp
end Lk
set_option maxRecDepth 100000
set_option maxHeartbeats 4000000
namespace Lk
open PySem PySem.Spec PyProof.Rows L2
/-! ### calls that may raise, in a try -/
section
variable {X : Cx} {CX : CXT} {k n m : Nat} {f : Addr} {fd : FuncData} {ps ks : List Str} {sp : Sp} {E : L2.St → XK} {x : Str} {p pos : Pos} {kws : List Keyword} {tk t : TA} {g : List Value → List Value → List Value} {gV : List V → List V → List V} {e : Expr} {es : List Expr}
end
section
variable {X : Cx} {k m n : Nat} {x kw : Str} {ps : List Str} {sp : Sp} {p pos : Pos} {e : Expr} {es : List Expr} {t tk : TA} {kws : List Keyword} {W : WX}
end
/-! ### the class of a bad deed -/
theorem FnOk.or {P : Program} {w : World} {K : PySem.W.Frag} {mg : Str → Option Value} {base : Heap} {CX : CXT} {k : Nat} {f : Addr} {fd : FuncData} {ps : List Str} {s1 s2 : Sp} (F1 : FnOk P w K mg base CX k f fd ps s1) (F2 : FnOk P w K mg base CX k f fd ps s2) : FnOk P w K mg base CX k f fd ps (fun vs H Q E => s1 vs H Q E ∨ s2 vs H Q E) :=
  ⟨fun vs H Q E h => h.elim (F1.len vs H Q E) (F2.len vs H Q E), fun A out s H ar us vs Q E z e b v m => m.elim (F1.run A out s H ar us vs Q E z e b v) (F2.run A out s H ar us vs Q E z e b v)⟩
end Lk
set_option maxRecDepth 100000
set_option maxHeartbeats 4000000
/-! own exception classes right over a built-in one, with an __init__ of their own -/
namespace Lk
open PySem PySem.Spec PySem.W PySem.Calls PyProof.Rows PySem.HandSPX Builtin Builtin.ObjectAttr
section
variable {prog : Program} {w : World} {A : Around} {E : Value → Shared → Prop} {R : Result → Shared → Prop} {hp : Heap} {g : Array GenState} {d : Drawn} {t : Nat} {os : OsState} {T newId initId : String} {K : Frag} {name : Str} {tk : Tok} {v : Value} {x C : Addr} {fv : Array Value} {cd : ClassData}
end
end Lk

namespace Lk
open PySem PySem.Spec PyProof.Rows L2
section
variable {X : Cx} {pins : List (Addr × Obj)} {σ : L2.St} {H : Hp} {s : Shared} {a C dx : Addr} {f : Str} {y : V} {u : Value} {fs : List (Str × V)} {Q : Unit → Shared → Prop} {E : Value → Shared → Prop} {A : Around} {T newId initId : String}
end
/-! ### readings -/
section
variable {X : Cx} {o e : Expr} {es : List Expr} {to te : TE} {ta : TA} {f : Str} {p p' p1 p2 pos : Pos} {T newId initId : String} {tn : Str}
section
variable {CX : CXT} {x : Str} {C fI : Addr} {k : Nat} {fd : FuncData} {ps : List Str} {sp : Sp}
end
end
end Lk

namespace Lk
open PySem PySem.Spec PyProof.Rows L2
/-- a class of exceptions as it is named -/
structure ClsK (K : PySem.W.Frag) (mg : Str → Option Value) (x : Str) (C : Addr) : Prop where
  g : mg x = some (.ref C)
  is : PySem.W.isClsIn K C = true
  ty : PySem.W.typeIn K (.ref C) = some (.type "type")
  ex : PySem.W.subIn K (.ref C) (.type "BaseException") = some true
  self : PySem.W.subIn K (.ref C) (.ref C) = some true
  non : PySem.W.subIn K (.type "NoneType") (.ref C) = some false
section
variable {K : PySem.W.Frag} {mg : Str → Option Value} {x y tn : Str} {C D fI : Addr} {T newId initId : String} {b : Bool}
theorem ClsK.kit {t : Value} (k : ClsK K mg x C) (h : PySem.W.subIn K t (.ref C) = some b) : PySem.W.kitCls K t (.ref C) = some b := by
  have c : (PySem.W.clsIn K C).isSome = true := k.is
  unfold PySem.W.kitCls
  show (if ((PySem.W.clsIn K C).isSome && PySem.W.typeIn K (.ref C) == some (.type "type")) = true then PySem.W.subIn K t (.ref C) else none) = some b
  rw [if_pos (by rw [c, k.ty]; rfl)]
  exact h
/-- isinstance of the class D, C asked -/
theorem ClsK.one (k : ClsK K mg x C) (h : PySem.W.subIn K (.ref D) (.ref C) = some b) : PySem.W.kitOne K (.ref D) (.ref C) = some b := by
  unfold PySem.W.kitOne
  by_cases e : D = C
  · subst e
    rw [if_pos (by simp)]
    rw [k.self] at h
    exact h
  · rw [if_neg (by simpa using e)]
    exact k.kit h
theorem ClsK.none (k : ClsK K mg x C) : PySem.W.kitOne K (.type "NoneType") (.ref C) = some false := by
  unfold PySem.W.kitOne
  rw [if_neg (by simp)]
  exact k.kit k.non
end
end Lk
namespace Lk
open PySem PySem.Spec PyProof.Rows L2
end Lk
set_option maxRecDepth 100000
set_option maxHeartbeats 4000000
namespace Lk
open PySem PySem.Spec PySem.Calls PyProof.Rows PySem.W
section
variable {M : Model} {K : Frag} {h : Heap} {A : Around} {E : Value → Shared → Prop}
end
end Lk
namespace Lk
open PySem PySem.Spec PyProof.Rows L2
/-- a caught exception, held as a value -/
def ExV (cls : Value) (d : Option Addr) (a : Addr) : HO := .ext fun h => ∃ (oe : Obj) (vs : Array Value), h.get? a = some oe ∧ Zc cls d oe ∧ oe.data = .fields vs
section
variable {X : Cx} {pins : List (Addr × Obj)} {σ : L2.St} {H : Hp} {s : Shared}
end
/-- the names of a tuple of classes -/
inductive TupNames (X : Cx) : List Expr → List Value → Prop
  | nil : TupNames X [] []
  | cons {x : Str} {c : Value} {np : Pos} {es : List Expr} {cs : List Value} (h : Names X x c) (r : TupNames X es cs) : TupNames X (.Name x np :: es) (c :: cs)
theorem TupNames.run {X : Cx} {es : List Expr} {cs : List Value} (T : TupNames X es cs) {a : Addr} {pn : List (Addr × Obj)} {σ : L2.St} {H : Hp} {s : Shared} {tpos : Pos} (S : Inv (X.suite a pn) [] σ H s) {E : Value → Shared → Prop} : ∀ {Q : List Value → Shared → Prop}, Q cs s →
    wpAny (model X.prog X.w) (X.A.mark (some (.ref a))) (spliced (backTo tpos (starEach es X.env))) Q E s := by
  induction T with
  | nil => intro Q q; exact wpAny_items_nil q
  | cons hc r ih =>
    intro Q q
    refine wpAny_items_cons ?_
    obtain ⟨hg, hdbg, hm | ⟨hm, hv, hnn⟩⟩ := hc
    · exact ld_glob (X := X.suite a pn) S hg hm (ih q) hdbg
    · exact ld_blt (X := X.suite a pn) S hg hm hv (ih q) hnn hdbg
theorem TupNames.length {X : Cx} {es : List Expr} {cs : List Value} (T : TupNames X es cs) : cs.length = es.length := by
  induction T with
  | nil => rfl
  | cons _ _ ih => rw [List.length_cons, List.length_cons, ih]
section
variable {X : Cx} {n : Str} {cs : List Value} {es : List Expr} {i kk : Nat} {body suite : List Stmt} {b₀ : Stmt} {tpos pos pos' : Pos} {tb : WX → TS} {ts : Addr → Value → Option Addr → TS} {Wout : WX}
end
end Lk
namespace Lk
open PySem PySem.Spec PySem.Calls PySem.W
section
variable {K : Frag} {D : Addr} {od : Option Obj}
end
end Lk
namespace Lk
open PySem PySem.Spec PyProof.Rows L2
/-- an exception that was caught stands at a, its fields (none, or those of its dict) -/
def Held (H : Hp) (a D : Addr) (fs : List (Str × V)) : Prop := ∃ d, H a = some (ExV (.ref D) d a) ∧ ((d = none ∧ fs = []) ∨ ∃ dd, d = some dd ∧ H dd = some (.xd fs))
theorem Held.look {P : Program} {w : World} {H : Hp} {h : Heap} {a D : Addr} {fs : List (Str × V)} (x : Held H a D fs) (ok : HOk P w H h) : ∃ oe od, PySem.W.InstAt h a oe D od ∧ ((od = none ∧ fs = []) ∨ ∃ (o : Obj) (mA : Str → Option Value), od = some o ∧ (∀ name, PySem.W.lookIn name o = some (mA name)) ∧ ∀ f, RelO (fs.lookup f) (mA f)) := by
  obtain ⟨d, ha, hd⟩ := x
  obtain ⟨⟨oe, vs, e, ⟨z1, z2⟩, hv⟩, _⟩ := (show ObjOk P w H h a (ExV (.ref D) d a) from ok a _ ha)
  have nc : PySem.W.notCls oe = true := by unfold PySem.W.notCls; rw [hv]
  rcases hd with ⟨rfl, hf⟩ | ⟨dd, rfl, hx⟩
  · exact ⟨oe, none, ⟨e, z1, nc, by rw [z2]; trivial⟩, .inl ⟨rfl, hf⟩⟩
  · obtain ⟨mA, n, r⟩ := (show ObjOk P w H h dd (.xd fs) from ok dd _ hx)
    obtain ⟨o, ho, hl⟩ := lookIn_ns n
    exact ⟨oe, some o, ⟨e, z1, nc, by rw [z2]; exact ho⟩, .inr ⟨o, mA, rfl, hl, r⟩⟩
section
variable {X : Cx}
end
end Lk
namespace Lk
open PySem PySem.Spec PyProof.Rows L2
theorem Held.same {H H' : Hp} {a D : Addr} {fs : List (Str × V)} (s : Same H H') (x : Held H a D fs) : Held H' a D fs := by
  obtain ⟨d, ha, hd⟩ := x
  exact ⟨d, s _ _ ha, hd.imp id fun ⟨dd, e, q⟩ => ⟨dd, e, s _ _ q⟩⟩
end Lk

namespace Lk
open PySem PySem.Spec PyProof.Rows L2
section
variable {X : Cx} {k m : Nat} {x : Str} {ps : List Str} {sp : Sp} {p pos : Pos} {e : Expr} {es : List Expr} {t : TA} {W : WX}
end
end Lk
set_option maxRecDepth 100000
set_option maxHeartbeats 4000000
namespace Lk
open PySem PySem.Spec PyProof.Rows L2

/-! ### texts in order -/
theorem risingS_pw : ∀ (l : List Str) (p : Str), risingS p l = true → (p :: l).Pairwise (fun a b => tlx a ≤ tlx b)
  | [], p, _ => List.pairwise_singleton _ _
  | x :: r, p, h => by
    have h' : (!ltCps x.cps.toList p.cps.toList && risingS x r) = true := h
    rw [Bool.and_eq_true] at h'
    have ih := risingS_pw r x h'.2
    have px : tlx p ≤ tlx x := by
      have e := h'.1
      rw [ltCps_eq, Bool.not_eq_true', decide_eq_false_iff_not] at e
      exact List.not_lt.mp e
    refine List.pairwise_cons.mpr ⟨fun y hy => ?_, ih⟩
    rcases List.mem_cons.mp hy with rfl | hy
    · exact px
    · exact List.le_trans px (List.rel_of_pairwise_cons ih hy)
theorem sortedS_pw : ∀ {l : List Str}, sortedS l = true → l.Pairwise (fun a b => tlx a ≤ tlx b)
  | [], _ => List.Pairwise.nil
  | x :: r, h => risingS_pw r x h
theorem sortedS_uniq {xs ys : List Str} (p : xs.Perm ys) (hx : sortedS xs = true) (hy : sortedS ys = true) : xs = ys :=
  List.Perm.eq_of_pairwise (le := fun a b => tlx a ≤ tlx b) (fun a b _ _ h1 h2 => str_ext (List.le_antisymm h1 h2)) (sortedS_pw hx) (sortedS_pw hy) p

/-! ### a dict that is walked where it is made -/
section
variable {X : Cx}
def rListOf (K : PySem.W.Frag) : List V → Hp → VK → Prop := fun xs H Q => ∃ p ys, xs = [.ref p] ∧ (SqL K H p ys ∨ SqT K H p ys) ∧ ∀ l, H l = none → Q (.ref l) (upd H l (.lst ys))
theorem call_listN : CallR X (.type "list") (rListOf X.K) := call_list_of
end

/-! ### friends, their pairs tuples or lists -/
def PairX (H : Hp) (bs : List B3) : Prop := (∀ b ∈ bs, H b.1 = some (.tup [.str b.2.1, .str b.2.2])) ∨ ∀ b ∈ bs, H b.1 = some (.lst [.str b.2.1, .str b.2.2])
theorem PairX.same {H H' : Hp} {bs : List B3} (s : Same H H') (h : PairX H bs) : PairX H' bs := h.elim (fun e => .inl fun b hb => s _ _ (e b hb)) (fun e => .inr fun b hb => s _ _ (e b hb))
/-- those whom a dict has beside one -/
def other1 (who : Str) (k : List Key) : Option Str := match k with
  | [Sum.inr a, Sum.inr b] => if a = who then some b else none
  | _ => none
def others (who : Str) (kvs : List (List Key × V)) : List Str := kvs.filterMap fun e => other1 who e.1
theorem ofpool_mem {pool : List Str} {ps : List (Str × Str)} (h : OfPool pool ps) {x y : Str} (e : frd ps x y = true) : x ∈ pool ∧ y ∈ pool := by
  have key : ∀ u v : Str, (u, v) ∈ ps → u ∈ pool ∧ v ∈ pool := fun u v huv => by
    obtain ⟨m, q, hm, hq, _, e⟩ := h _ huv
    cases e
    rcases lmin_or m q with ⟨e1, e2⟩ | ⟨e1, e2⟩
    · rw [e1, e2]
      exact ⟨hm, hq⟩
    · rw [e1, e2]
      exact ⟨hq, hm⟩
  rcases of_decide_eq_true e with e | e
  · exact key _ _ e
  · exact (key _ _ e).symm
theorem OfPool.fit {pool : List Str} {ps : List (Str × Str)} (h : OfPool pool ps) (ok : ∀ x ∈ pool, NameOk x) : ∀ p ∈ ps, (Good p.1 ∧ p.1.length ≤ 8) ∧ Good p.2 ∧ p.2.length ≤ 8 := fun p hp => by
  obtain ⟨h1, h2⟩ := ofpool_mem h (x := p.1) (y := p.2) (decide_eq_true (.inl hp))
  exact ⟨⟨(ok _ h1).good, (ok _ h1).len⟩, (ok _ h2).good, (ok _ h2).len⟩
/-! ### promises -/
/-! ### names of one stem -/
end Lk
set_option maxRecDepth 100000
set_option maxHeartbeats 4000000
namespace Lk
open PySem PySem.Spec PyProof.Rows L2
/-! ### pairs of friends, each once -/
def OfN (pool : List Str) (ps : List (Str × Str)) (i j : Nat) : Prop := ps.Nodup ∧ ∀ p ∈ ps, ∃ a c m n, c < a ∧ (a < i ∨ a = i ∧ c < j) ∧ pool[a]? = some m ∧ pool[c]? = some n ∧ p = (lmin m n, lmax m n)
theorem OfN.nil {pool : List Str} {i j : Nat} : OfN pool [] i j := ⟨List.nodup_nil, fun _ h => nomatch h⟩
theorem OfN.step {pool : List Str} {ps : List (Str × Str)} {i j : Nat} (h : OfN pool ps i j) : OfN pool ps i (j + 1) := ⟨h.1, fun p hp => by
  obtain ⟨a, c, m, n, h1, h2, h3⟩ := h.2 p hp
  exact ⟨a, c, m, n, h1, by omega, h3⟩⟩
theorem OfN.next {pool : List Str} {ps : List (Str × Str)} {i : Nat} (h : OfN pool ps i i) : OfN pool ps (i + 1) 0 := ⟨h.1, fun p hp => by
  obtain ⟨a, c, m, n, h1, h2, h3⟩ := h.2 p hp
  exact ⟨a, c, m, n, h1, by omega, h3⟩⟩
theorem mm_cases (m n : Str) : (lmin m n = m ∧ lmax m n = n) ∨ (lmin m n = n ∧ lmax m n = m) := by
  unfold lmin lmax
  by_cases h : n.cps.toList < m.cps.toList
  · by_cases g : m.cps.toList < n.cps.toList
    · exact absurd (List.lt_trans h g) (List.lt_irrefl _)
    · have e : ¬ m.cps.toList < n.cps.toList := g
      rw [if_pos h]
      by_cases g2 : m.cps.toList < n.cps.toList
      · exact absurd g2 g
      · refine .inr ⟨rfl, ?_⟩
        rw [if_neg g2]
  · rw [if_neg h]
    by_cases g : m.cps.toList < n.cps.toList
    · exact .inl ⟨rfl, if_pos g⟩
    · have e : m = n := by
        have h1 : m.cps.toList ≤ n.cps.toList := List.not_lt.mp h
        have h2 : n.cps.toList ≤ m.cps.toList := List.not_lt.mp g
        exact str_ext (List.le_antisymm h1 h2)
      subst e
      exact .inl ⟨rfl, if_neg g⟩
theorem OfN.put {pool : List Str} {ps : List (Str × Str)} {i j : Nat} {m n : Str} (h : OfN pool ps i j) (nd : pool.Nodup) (hj : j < i) (hm : pool[i]? = some m) (hn : pool[j]? = some n) : OfN pool (ps ++ [(lmin m n, lmax m n)]) i (j + 1) := by
  refine ⟨List.nodup_append.mpr ⟨h.1, List.pairwise_singleton _ _, fun p hp q hq e => ?_⟩, fun p hp => ?_⟩
  · rw [List.mem_singleton.mp hq] at e
    obtain ⟨a, c, m', n', h1, h2, h3, h4, h5⟩ := h.2 p hp
    rw [e] at h5
    have e1 := congrArg Prod.fst h5
    have e2 := congrArg Prod.snd h5
    simp only at e1 e2
    have key : (m = m' ∧ n = n') ∨ (m = n' ∧ n = m') := by
      rcases mm_cases m n with ⟨k1, k2⟩ | ⟨k1, k2⟩ <;> rcases mm_cases m' n' with ⟨k3, k4⟩ | ⟨k3, k4⟩ <;> rw [k1, k3] at e1 <;> rw [k2, k4] at e2
      · exact .inl ⟨e1, e2⟩
      · exact .inr ⟨e1, e2⟩
      · exact .inr ⟨e2, e1⟩
      · exact .inl ⟨e2, e1⟩
    rcases key with ⟨rfl, rfl⟩ | ⟨rfl, rfl⟩
    · have := nd_ix nd hm h3
      have := nd_ix nd hn h4
      omega
    · have := nd_ix nd hm h4
      have := nd_ix nd hn h3
      omega
  · rcases List.mem_append.mp hp with z | z
    · exact h.step.2 p z
    · exact ⟨i, j, m, n, hj, by omega, hm, hn, List.mem_singleton.mp z⟩
theorem OfN.of {pool : List Str} {ps : List (Str × Str)} {i j : Nat} (h : OfN pool ps i j) (nd : pool.Nodup) : OfPool pool ps := fun p hp => by
  obtain ⟨a, c, m, n, h1, h2, h3, h4, h5⟩ := h.2 p hp
  refine ⟨m, n, List.mem_of_getElem? h3, List.mem_of_getElem? h4, fun z => ?_, h5⟩
  rw [← z] at h4
  have := nd_ix nd h3 h4
  omega
/-! ### words with a sign between, and back -/
/-! ### pairs of texts, one below the other -/
section
variable {X : Cx}
def pltB (p q : Str × Str) : Bool := PySem.W.dataLt (.tuple [.str p.1, .str p.2]) (.tuple [.str q.1, .str q.2])
def rLtTT (K : PySem.W.Frag) : R2 := fun x y H Q => ∃ (a b : Addr) (p q : Str × Str), x = .ref a ∧ y = .ref b ∧ SqT K H a [.str p.1, .str p.2] ∧ SqT K H b [.str q.1, .str q.2] ∧ Q (.bl (pltB p q)) H
theorem op_ltTT (hu : X.A.units + 64 < cLine) : OpR X (compareOp .Lt) (rLtTT X.K) := by
  intro pins s σ H x y v u Q I rx ry h
  obtain ⟨a, b, p, q, rfl, rfl, ha, hb, k⟩ := h
  obtain ⟨as, ra⟩ := Dp.reads I (.tuple [.str p.1, .str p.2]) (.ref a) v (.tup ha (.cons (.str _) (.cons (.str _) .nil))) rx
  obtain ⟨bs, rb⟩ := Dp.reads I (.tuple [.str q.1, .str q.2]) (.ref b) u (.tup hb (.cons (.str _) (.cons (.str _) .nil))) ry
  refine PySem.W.rcLt_alike _ _ _ _ _ _ as bs ra rb (by simp [PySem.W.alike, PySem.W.alikeAll]) (fun z => by cases z) ?_ X.prog X.w _ _ ⟨.bl (pltB p q), H, I, rfl, k⟩
  have : (PyData.tuple [.str p.1, .str p.2]).depth = 1 := by simp [PyData.depth, PyData.depthAll]
  have : min (PyData.tuple [.str p.1, .str p.2]).depth (PyData.tuple [.str q.1, .str q.2]).depth ≤ 1 := by omega
  omega
theorem toks_inj {p q : Str × Str} (h : PySem.W.keyToks (.tuple [.str p.1, .str p.2]) = PySem.W.keyToks (.tuple [.str q.1, .str q.2])) : p = q := by
  simp [PySem.W.keyToks, PySem.W.keyToksAll] at h
  exact Prod.ext (str_ext (congrArg Array.toList h.1)) (str_ext (congrArg Array.toList h.2))
theorem rise_of {bs : List B3} (srt : ∃ cs : List B3, bs = cs.mergeSort (PySem.W.dataLe false encP)) (nd : (bs.map (·.2)).Nodup) : ∀ (i : Nat) (p q : B3), bs[i]? = some p → bs[i + 1]? = some q → pltB p.2 q.2 = true := fun i p q hp hq => by
  obtain ⟨cs, rfl⟩ := srt
  have tot := PySem.W.sortLe_total (listOrd itemOrd) false (fun b : B3 => PySem.W.keyToks (encP b))
  have pw : (cs.mergeSort (PySem.W.dataLe false encP)).Pairwise (fun a b => PySem.W.dataLe false encP a b = true) := List.pairwise_mergeSort (fun a b c => tot.trans a b c) (fun a b => by rw [Bool.or_eq_true]; exact tot.total a b) cs
  have li := (List.getElem?_eq_some_iff.mp hp)
  have lj := (List.getElem?_eq_some_iff.mp hq)
  have le := List.pairwise_iff_getElem.mp pw i (i + 1) li.1 lj.1 (Nat.lt_succ_self _)
  rw [li.2, lj.2] at le
  have le' : (!PyProof.Rows.lexLt itemOrd (PySem.W.keyToks (encP q)) (PySem.W.keyToks (encP p))) = true := le
  rw [Bool.not_eq_true'] at le'
  cases e : pltB p.2 q.2 with
  | true => rfl
  | false =>
    have eq := (listOrd itemOrd).total (PySem.W.keyToks (encP p)) (PySem.W.keyToks (encP q)) e le'
    have eq2 : p.2 = q.2 := toks_inj eq
    have h1 : ((cs.mergeSort (PySem.W.dataLe false encP)).map (·.2))[i]? = some p.2 := by rw [List.getElem?_map, hp]; rfl
    have h2 : ((cs.mergeSort (PySem.W.dataLe false encP)).map (·.2))[i + 1]? = some q.2 := by rw [List.getElem?_map, hq]; rfl
    rw [← eq2] at h2
    have l1 := (List.getElem?_eq_some_iff.mp h1)
    have l2 := (List.getElem?_eq_some_iff.mp h2)
    exact absurd (l1.2.trans l2.2.symm) (List.pairwise_iff_getElem.mp nd i (i + 1) l1.1 l2.1 (Nat.lt_succ_self _))
theorem mm_lt {m n : Str} (ne : m ≠ n) : (lmin m n).cps.toList < (lmax m n).cps.toList := by
  unfold lmin lmax
  by_cases h : n.cps.toList < m.cps.toList
  · rw [if_pos h, if_neg (fun z => List.lt_irrefl _ (List.lt_trans h z))]
    exact h
  · by_cases g : m.cps.toList < n.cps.toList
    · rw [if_neg h, if_pos g]
      exact g
    · exact absurd (str_ext (List.le_antisymm (List.not_lt.mp h) (List.not_lt.mp g))) ne
end
/-! ### a def of one argument, by its name too -/
structure Cal1 (P : Program) (w : World) (K : PySem.W.Frag) (mg : Str → Option Value) (base : Heap) (k : Nat) (x p : Str) (sp : Sp) : Prop where
  ex : ∃ f fd, FnOk P w K mg base CX0 k f fd [p] sp ∧ mg x = some (.ref f) ∧ PySem.W.keepIn K (.ref f) = true ∧ Binds K fd [p] [] ∧ KBinds K fd [p] [p] gRev gRev
theorem Cal1.cal {P : Program} {w : World} {K : PySem.W.Frag} {mg : Str → Option Value} {base : Heap} {k : Nat} {x p : Str} {sp : Sp} (C : Cal1 P w K mg base k x p sp) : Cal P w K mg base k x [p] sp := by
  obtain ⟨f, fd, F, hm, hk, hb, _⟩ := C.ex
  exact ⟨f, fd, F, hm, hk, hb⟩
section
variable {X : Cx} {k n : Nat} {x q : Str} {sp : Sp} {p pos : Pos} {kws : List Keyword} {tk : TA}
theorem pe_cal1 (C : Cal1 X.prog X.w X.K X.mg X.base k x q sp) (hr : Room n X.A) (hkw : PK X kws tk) (hle : k ≤ n := by first | decide | omega) (hg : Gl X x := by rfl) (hdb : (x == ("__debug__" : Str)) = false := by decide)
    (hall : (backToKw pos (keywordEach kws X.env)).all (·.1.isSome) = true := by rfl) (hks : (backToKw pos (keywordEach kws X.env)).filterMap (·.1) = [q] := by rfl)
    (hpl : ((backTo pos (starEach [] X.env)).any (·.1) || (backToKw pos (keywordEach kws X.env)).any (·.1.isNone)) = false := by rfl) :
    PE X (.Call (.Name x p) [] kws pos) (tCallK sp gRev E0 tNil tk) := by
  obtain ⟨f, fd, F, hm, hk, _, hb⟩ := C.ex
  exact pe_callK0 F (hr.mono hle) hg hm hk hb pass0 hkw hall hks hdb hpl
end
section
variable {X : Cx}
end
/-! ### promises -/
/-- pairs as tuples that are known to be tuples -/
def PairsT (H : Hp) (qs : List B3) : Prop := ∀ q ∈ qs, TupAt H q.1 [.str q.2.1, .str q.2.2]
theorem PairsT.same {H H' : Hp} {qs : List B3} (s : Same H H') (h : PairsT H qs) : PairsT H' qs := fun q hq => (h q hq).same s
end Lk
set_option maxRecDepth 100000
set_option maxHeartbeats 4000000
namespace Lk
open PySem PySem.Spec PyProof.Rows L2
/-! ### sets whose members are tuples of anything that is carried by value (texts, numbers): below 64 members -/
section
variable {P : Program} {w : World} {A : Around} {E : Value → Shared → Prop} {s : Shared} {κ : Type} [DecidableEq κ] {knd : KeyKind P w κ}
/-- the members, with the places of their tuples -/
abbrev Mem (κ : Type) := List (Addr × List κ)
abbrev tHash (knd : KeyKind P w κ) (k : List κ) : Int := tupleKeyHash knd k
def hashesOf (knd : KeyKind P w κ) (L : Mem κ) : List Int := L.map fun z => tHash knd z.2
def entsOf (knd : KeyKind P w κ) (L : Mem κ) : List (Int × Value) := L.map fun z => (tHash knd z.2, Value.ref z.1)
theorem cls_val {v : Value} (c : carriedByValue v = true) (n : Nat) : ofAClassStatement n v = pure false := by
  cases v <;> first | (cases c; done) | (cases n <;> rfl)
theorem byval_val {v : Value} (c : carriedByValue v = true) (n : Nat) : ∃ b, hashByValue n v = pure b := by
  cases v <;> first | (cases c; done) | (cases n <;> exact ⟨_, rfl⟩)
theorem cls_tup {k : List κ} {x : Addr} {Q : Bool → Shared → Prop} (z : IsTupleKey knd s.heap k x) (q : Q false s) : wpAny (model P w) A (ofAClassStatement 8 (.ref x)) Q E s := by
  have ty := z.typeIs
  obtain ⟨ob, its, n, g, _, dat, al⟩ := z
  unfold ofAClassStatement
  refine wpAny_bind (wpAny_typeOf ty ?_)
  simp only [show (("tuple" : String) == "tuple") = true from by decide, if_true]
  try refine wpAny_bind (wpAny_pure ?_)
  simp only [Bool.not_true, Bool.false_eq_true, if_false]
  refine wpAny_bind (wpAny_seqItems g dat (wpAny_bind ?_))
  show wpAny _ _ (forIn its _ _) _ _ s
  rw [← Array.forIn_toList]
  refine wpAny_forIn_list _ (fun more acc s1 => acc.1 = none ∧ s1 = s ∧ ∀ v ∈ more, carriedByValue v = true) _ ?_ ?_ _ _ ⟨rfl, rfl, al.byValue⟩
  · rintro v more acc s1 ⟨e, rfl, all⟩
    rw [cls_val (all v List.mem_cons_self)]
    refine wpAny_bind (wpAny_pure ?_)
    simp only [Bool.false_eq_true, if_false]
    exact wpAny_pure ⟨rfl, rfl, fun y m => all y (List.mem_cons_of_mem _ m)⟩
  · rintro ⟨e1, e2⟩ s1 ⟨e, rfl, _⟩
    cases e
    exact wpAny_pure q
theorem byval_tup {k : List κ} {x : Addr} {Q : Bool → Shared → Prop} (z : IsTupleKey knd s.heap k x) (q : ∀ b, Q b s) : wpAny (model P w) A (hashByValue 8 (.ref x)) Q E s := by
  have ty := z.typeIs
  obtain ⟨ob, its, n, g, _, dat, al⟩ := z
  unfold hashByValue
  refine wpAny_bind (wpAny_specialOf ty PySem.F.slot_tuple_hash.lookup ?_)
  refine wpAny_bind (wpAny_seqItems g dat (wpAny_bind ?_))
  show wpAny _ _ (forIn its _ _) _ _ s
  rw [← Array.forIn_toList]
  refine wpAny_forIn_list _ (fun more _ s1 => s1 = s ∧ ∀ v ∈ more, carriedByValue v = true) _ ?_ ?_ _ _ ⟨rfl, al.byValue⟩
  · rintro v more acc s1 ⟨rfl, all⟩
    obtain ⟨b, eb⟩ := byval_val (all v List.mem_cons_self) 7
    rw [eb]
    refine wpAny_bind (wpAny_pure ?_)
    cases b
    · exact wpAny_pure (wpAny_pure (q _))
    · exact wpAny_pure ⟨rfl, fun y m => all y (List.mem_cons_of_mem _ m)⟩
  · rintro ⟨e1, e2⟩ s1 ⟨rfl, _⟩
    cases e1 <;> exact wpAny_pure (q _)
theorem unseen_tup {k : List κ} {x : Addr} {Q : Bool → Shared → Prop} (z : IsTupleKey knd s.heap k x) {ys : List Value} (al : ∀ y ∈ ys, ∃ k' c, y = Value.ref c ∧ IsTupleKey knd s.heap k' c) (q : Q false s) :
    wpAny (model P w) A (searchCouldBeSeen (.ref x) ys) Q E s := by
  unfold searchCouldBeSeen
  refine wpAny_bind (wpAny_forIn_list _ (fun more acc s1 => acc.1 = none ∧ s1 = s ∧ ∀ y ∈ more, ∃ k' c, y = Value.ref c ∧ IsTupleKey knd s.heap k' c) _ ?_ ?_ _ _ ⟨rfl, rfl, al⟩)
  · rintro y more acc s1 ⟨e, rfl, all⟩
    obtain ⟨k2, c, rfl, zc⟩ := all y List.mem_cons_self
    have left : ∀ y ∈ more, ∃ k' c, y = Value.ref c ∧ IsTupleKey knd s1.heap k' c := fun y m => all y (List.mem_cons_of_mem _ m)
    dsimp only
    rcases Bool.eq_false_or_eq_true (x == c || (carriedByValue (.ref x) && carriedByValue (.ref c))) with very | very
    · exact wp_if_pos very (wpAny_pure ⟨rfl, rfl, left⟩)
    · refine wp_if_neg (by rw [very]; exact Bool.false_ne_true) ?_
      refine wpAny_bind (wpAny_eqIsQuiet_tuple z ?_)
      simp only [Bool.not_true, Bool.false_eq_true, if_false]
      refine wpAny_bind (wpAny_eqIsQuiet_tuple zc ?_)
      simp only [Bool.not_true, Bool.false_eq_true, if_false]
      refine wpAny_bind (cls_tup z ?_)
      simp only [Bool.false_eq_true, if_false]
      refine wpAny_bind (cls_tup zc ?_)
      simp only [Bool.false_eq_true, if_false]
      exact wpAny_pure ⟨rfl, rfl, left⟩
  · rintro ⟨e1, e2⟩ s1 ⟨e, rfl, _⟩
    cases e
    exact wpAny_pure q
/-- a set that lies at a -/
structure HSet (knd : KeyKind P w κ) (h : Heap) (a : Addr) (L : Mem κ) (es : Array (Int × Value)) (ep : Nat) (t : SetTable) : Prop where
  obj : ∃ o, h.get? a = some o ∧ o.ExactSet ∧ o.data = .set es ep t
  ent : es.toList = entsOf knd L
  tab : TabOk t (hashesOf knd L)
  once : (L.map (·.2)).Nodup
  lie : ∀ z ∈ L, IsTupleKey knd h z.2 z.1
  led : w.params.followText "set-order" = true ∨ t.led = true
  free : L.length * 5 < t.mask * 3
  small : L.length < 64
variable {a : Addr} {L : Mem κ} {es : Array (Int × Value)} {ep : Nat} {t : SetTable}
theorem ents_len (e : es.toList = entsOf knd L) : es.size = L.length := by
  rw [← Array.length_toList, e, entsOf, List.length_map]
theorem ents_at (e : es.toList = entsOf knd L) {i : Nat} {z : Addr × List κ} (g : L[i]? = some z) : es[i]? = some (tHash knd z.2, Value.ref z.1) := by
  rw [← Array.getElem?_toList, e, entsOf, List.getElem?_map, g]
  rfl
theorem HSet.size (R : HSet knd s.heap a L es ep t) : es.size = L.length := ents_len R.ent
theorem HSet.places (R : HSet knd s.heap a L es ep t) : t.place.size = L.length := by
  rw [R.tab.sz, hashesOf, List.length_map]
theorem fits_of (e1 : t.place.size = es.size) (e2 : t.dummies = #[]) (le : es.size ≤ t.mask) : t.fits es.size = true := by
  unfold SetTable.fits SetTable.fill
  rw [e2, e1]
  show (es.size == es.size && decide (es.size + 0 ≤ t.mask)) = true
  rw [beq_self_eq_true, Bool.true_and, decide_eq_true (by omega)]
theorem HSet.fits (R : HSet knd s.heap a L es ep t) : t.fits es.size = true :=
  fits_of (R.places.trans R.size.symm) R.tab.dm (by have := R.size; have := R.free; omega)
theorem HSet.whole (R : HSet knd s.heap a L es ep t) : ¬ t.gaveWay = true := by
  unfold SetTable.gaveWay
  rw [mask_odd R.tab.mok]
  decide
/-- the c-th state of the way of a hash -/
abbrev stp (t : SetTable) (h : Int) (c : Nat) : SetTable.Probe := nth t.mask (runAt t.mask (SetTable.bits h % (t.mask + 1)) (SetTable.bits h)) c
theorem stp_bare (t : SetTable) (h : Int) : ∀ c, (stp t h c).dummy = none
  | 0 => rfl
  | c + 1 => by
    have ih := stp_bare t h c
    show (nth t.mask _ (c + 1)).dummy = none
    rw [nth_succ]
    unfold adv
    split <;> exact ih
theorem stp_more (t : SetTable) (h : Int) (c d : Nat) : nth t.mask (stp t h c) d = stp t h (c + d) := (nth_add t.mask c _ d).symm
/-- a member is looked for, from the c-th step of its way on -/
theorem look_from (R : HSet knd s.heap a L es ep t) {x : Addr} {k : List κ} (z : IsTupleKey knd s.heap k x) (hu : A.units < cLine) {h : Int} (eh : tHash knd k = h) {N : Nat} (nf : N < 10 * SetTable.turns t.mask)
    (ne : way t.mask h N ∉ t.place.toList) (nb : ∀ c, c < N → way t.mask h c ∈ t.place.toList) {Q : SetFound → Shared → Prop}
    (qi : k ∈ L.map (·.2) → Q (.there none) s) (qo : k ∉ L.map (·.2) → Q (.free (way t.mask h N) false) s) :
    ∀ (f c : Nat) (st : Option SetTable.Probe), st.getD (t.probeStart h) = stp t h c → c ≤ N → N < f + c →
      (∀ (i : Nat) y, L[i]? = some y → y.2 = k → ∃ d, c ≤ d ∧ d < N ∧ t.place.toList[i]? = some (way t.mask h d)) →
      wpAny (model P w) A (setSearchFrom a (.ref x) h true f st) Q E s := by
  intro f
  induction f with
  | zero => intro c st _ h1 h2; omega
  | succ f ih =>
    intro c st e0 c1 c2 old
    obtain ⟨o, g, ex, dat⟩ := R.obj
    have hsh : ∀ (i : Nat) y, L[i]? = some y → (es[i]?.map (·.1)).getD 0 = tHash knd y.2 := fun i y e => by
      rw [ents_at R.ent e]
      rfl
    have wj : ∀ d, (nth t.mask (stp t h c) d).j = way t.mask h (c + d) := fun d => congrArg SetTable.Probe.j (stp_more t h c d)
    have G := go_spec t R.tab.ris R.tab.dm (fun i => (es[i]?.map (·.1)).getD 0) h (10 * SetTable.turns t.mask) (N - c) (stp t h c) (stp_bare t h c) (by omega)
      (fun d hd => by rw [wj]; exact nb _ (by omega)) (by rw [wj, Nat.add_sub_cancel' c1]; exact ne)
    rw [setSearchFrom_succ]
    refine wpAny_bind (wpAny_setState_of g dat R.fits ?_)
    dsimp only
    refine wp_if_neg R.whole ?_
    try refine wpAny_bind (wpAny_pure ?_)
    rcases G with ⟨d, i, hd, hi, hh, hno, go⟩ | ⟨hno, go⟩
    · have go' : t.probe (fun i => (es[i]?.map (·.1)).getD 0) h (st.getD (t.probeStart h)) = some (.candidate (way t.mask h (c + d)) i (stp t h (c + (d + 1)))) := by
        rw [e0, ← wj, ← stp_more]
        exact go
      rw [go']
      dsimp only
      rw [wj] at hi
      have il : i < L.length := by
        rw [← R.places, ← Array.length_toList]
        exact (List.getElem?_eq_some_iff.mp hi).1
      obtain ⟨y, ey⟩ : ∃ y, L[i]? = some y := ⟨_, List.getElem?_eq_getElem il⟩
      have my := List.mem_of_getElem? ey
      have sl : t.slot (way t.mask h (c + d)) = .live i := slot_live R.tab.ris hi
      have on : wpAny (model P w) A (searchRest a (.ref x) h true f es t (way t.mask h (c + d)) i (stp t h (c + (d + 1)))) Q E s := by
        unfold searchRest
        rw [ents_at R.ent ey]
        dsimp only
        refine wpAny_bind (wpAny_holding (wpAny_eqBool_tuple hu (R.lie y my) z ?_))
        refine wpAny_bind (wpAny_setState_of g dat R.fits ?_)
        dsimp only
        by_cases ek : y.2 = k
        · exact wp_if_pos (by simp [ek]) (wpAny_pure (qi (List.mem_map.mpr ⟨y, my, ek⟩)))
        · refine wp_if_neg (by simp [ek]) ?_
          try refine wpAny_bind (wpAny_pure ?_)
          rw [sameMem]
          dsimp only
          simp only [if_true, sl, ents_at R.ent ey]
          refine wpAny_bind (wpAny_isSame_ref_self (wpAny_bind (wpAny_pure ?_)))
          simp only [if_true]
          refine wp_if_neg (by simp [ek]) ?_
          refine ih (c + (d + 1)) _ rfl (by omega) (by omega) fun i0 y0 g0 k0 => ?_
          obtain ⟨b, b1, b2, b3⟩ := old i0 y0 g0 k0
          refine ⟨b, ?_, b2, b3⟩
          have h0 : (es[i0]?.map (·.1)).getD 0 = h := by rw [hsh i0 y0 g0, k0, eh]
          rcases Nat.lt_trichotomy b (c + d) with lt | eq | gt
          · refine absurd h0 (hno (b - c) i0 (by omega) ?_)
            rw [wj, Nat.add_sub_cancel' b1]
            exact b3
          · rw [eq] at b3
            have s0 := slot_live R.tab.ris b3
            rw [sl] at s0
            cases s0
            rw [ey] at g0
            cases g0
            exact absurd k0 ek
          · omega
      by_cases ld : t.led = true
      · refine wp_if_neg (by simp [ld]) ?_
        try refine wpAny_bind (wpAny_pure ?_)
        exact on
      · refine wp_if_pos (by simp [ld]) (wpAny_bind (unseen_tup z (fun u mu => ?_) ?_))
        · obtain ⟨e, me, rfl⟩ := List.mem_map.mp mu
          have m2 : e ∈ es.toList := by
            have : e ∈ es ∧ e.1 = h := by simpa using me
            simpa using this.1
          rw [R.ent] at m2
          obtain ⟨y2, m3, rfl⟩ := List.mem_map.mp m2
          exact ⟨y2.2, y2.1, rfl, R.lie y2 m3⟩
        · refine wp_if_neg Bool.false_ne_true ?_
          try refine wpAny_bind (wpAny_pure ?_)
          exact on
    · have go' : t.probe (fun i => (es[i]?.map (·.1)).getD 0) h (st.getD (t.probeStart h)) = some (.empty (way t.mask h N) none) := by
        have e1 : way t.mask h N = (nth t.mask (stp t h c) (N - c)).j := by rw [wj, Nat.add_sub_cancel' c1]
        rw [e0, e1]
        exact go
      rw [go']
      dsimp only
      refine wpAny_pure (qo fun m => ?_)
      obtain ⟨y, my, ek⟩ := List.mem_map.mp m
      obtain ⟨i, ey⟩ := List.getElem?_of_mem my
      obtain ⟨b, b1, b2, b3⟩ := old i y ey ek
      refine hno (b - c) i (by omega) ?_ (by rw [hsh i y ey, ek, eh])
      rw [wj, Nat.add_sub_cancel' b1]
      exact b3
theorem look_at (R : HSet knd s.heap a L es ep t) {x : Addr} {k : List κ} (z : IsTupleKey knd s.heap k x) (hu : A.units < cLine) {Q : SetFound → Shared → Prop}
    (qi : k ∈ L.map (·.2) → Q (.there none) s)
    (qo : ∀ N, k ∉ L.map (·.2) → way t.mask (tHash knd k) N ∉ t.place.toList → (∀ c, c < N → way t.mask (tHash knd k) c ∈ t.place.toList) → Q (.free (way t.mask (tHash knd k) N) false) s) :
    wpAny (model P w) A (setSearch a (.ref x) (tHash knd k) true) Q E s := by
  have fr := R.free
  obtain ⟨N, n1, n2, n3⟩ := R.tab.first (by rw [hashesOf, List.length_map]; omega) (tHash knd k)
  have few : N < 100000 := by
    have : 10 * SetTable.turns t.mask < 100000 := by
      unfold SetTable.turns
      rcases R.tab.mok with e | e | e <;> omega
    omega
  unfold setSearch
  refine look_from R z hu rfl n1 n2 n3 qi (fun no => qo N no n2 n3) 100000 0 none rfl (Nat.zero_le _) (by omega) fun i y ey ek => ?_
  have il : i < t.place.toList.length := by
    rw [Array.length_toList, R.places]
    exact (List.getElem?_eq_some_iff.mp ey).1
  obtain ⟨c, c1, c2⟩ := R.tab.before n2 (i := i) (by rw [hashesOf, List.getElem?_map, ey, ← ek]; rfl) (List.getElem?_eq_getElem il)
  exact ⟨c, Nat.zero_le _, c1, by rw [List.getElem?_eq_getElem il, c2]⟩
/-! one more member -/
theorem lie_still {h h' : Heap} {k : List κ} {x : Addr} {o : Obj} (z : IsTupleKey knd h k x) (g : h.get? a = some o) (dat : o.data = .set es ep t) (sb : Heap.SameBut a h h') : IsTupleKey knd h' k x := by
  obtain ⟨ob, its, n, g2, c, d, al⟩ := z
  by_cases e : x = a
  · rw [e, g] at g2
    cases g2
    rw [dat] at d
    cases d
  · exact ⟨ob, its, n, (sb.2 x e).trans g2, c, d, al⟩
theorem lie_kept {h h' : Heap} {k : List κ} {x : Addr} (z : IsTupleKey knd h k x) (kp : ∀ b o, h.get? b = some o → h'.get? b = some o) : IsTupleKey knd h' k x := by
  obtain ⟨ob, its, n, g, r⟩ := z
  exact ⟨ob, its, n, kp _ _ g, r⟩
theorem all_ix {α : Type} : ∀ l : List α, (List.range l.length).filterMap (fun i => l[i]?) = l
  | [] => rfl
  | x :: l => by
    rw [List.length_cons, List.range_succ_eq_map, List.filterMap_cons, List.filterMap_map]
    show x :: (List.range l.length).filterMap (fun i => l[i]?) = _
    rw [all_ix l]
/-- the members in another order -/
theorem ents_order {order : Array Nat} (en : es.toList = entsOf knd L) (pm : order.toList.Perm (List.range L.length)) :
    ∃ M : Mem κ, (order.filterMap (es[·]?)).toList = entsOf knd M ∧ M.Perm L ∧ hashesOf knd M = order.toList.map fun i => (es.map (·.1)).getD i 0 := by
  have at_ : ∀ i, es[i]? = (L[i]?).map fun z : Addr × List κ => (tHash knd z.2, Value.ref z.1) := fun i => by
    rw [← Array.getElem?_toList, en, entsOf, List.getElem?_map]
  refine ⟨order.toList.filterMap fun i => L[i]?, ?_, ?_, ?_⟩
  · rw [Array.toList_filterMap, entsOf, List.map_filterMap]
    congr 1
    funext i
    exact at_ i
  · have := pm.filterMap fun i => L[i]?
    rw [all_ix] at this
    exact this
  · have key : ∀ l : List Nat, (∀ i ∈ l, i < L.length) → hashesOf knd (l.filterMap fun i => L[i]?) = l.map fun i => (es.map (·.1)).getD i 0 := by
      intro l
      induction l with
      | nil => intro _; rfl
      | cons i l ih =>
        intro lt
        obtain ⟨z, g⟩ : ∃ z, L[i]? = some z := ⟨_, List.getElem?_eq_getElem (lt i List.mem_cons_self)⟩
        have e : (es.map (·.1)).getD i 0 = tHash knd z.2 := by
          rw [Array.getD_eq_getD_getElem?, Array.getElem?_map, at_ i, g]
          rfl
        rw [List.filterMap_cons_some g, List.map_cons, e, ← ih fun j m => lt j (List.mem_cons_of_mem _ m)]
        rfl
    exact key _ fun i m => List.mem_range.mp (pm.mem_iff.mp m)
/-- the table is laid anew -/
theorem lay_at {o : Obj} (g : s.heap.get? a = some o) (ex : o.ExactSet) (dat : o.data = .set es ep t) (en : es.toList = entsOf knd L) (pl : t.place.size = es.size) (dm : t.dummies = #[]) (le : es.size ≤ t.mask)
    (once : (L.map (·.2)).Nodup) (lie : ∀ z ∈ L, IsTupleKey knd s.heap z.2 z.1) (led : w.params.followText "set-order" = true ∨ t.led = true) (small : L.length < 64) {wanted M : Nat}
    (sz : SetTable.sizeAbove wanted - 1 = M) (mo : MaskOk M) (low : SetTable.sizeAbove wanted ≤ 128) (fr : L.length * 5 < M * 3) {Q : Unit → Shared → Prop}
    (q : ∀ h' L' es' ep' t', Heap.SameBut a s.heap h' → HSet knd h' a L' es' ep' t' → L'.Perm L → Q () { s with heap := h' }) : wpAny (model P w) A (setRelay a wanted) Q E s := by
  have len := ents_len en
  obtain ⟨t2, order, er, pm, tab, em, el, _, _⟩ := relaid_ok t (hs := es.map (·.1)) (wanted := wanted) sz mo (by rw [Array.size_map, len]; omega)
  rw [Array.size_map, len] at pm
  obtain ⟨L2, n1, n2, n3⟩ := ents_order en pm
  rw [← n3] at tab
  have len2 : (order.filterMap (es[·]?)).size = es.size := by rw [ents_len n1, n2.length_eq, len]
  rw [setRelay_eq]
  refine wpAny_bind (wpAny_setState_of g dat (fits_of pl dm le) ?_)
  dsimp only
  refine wp_if_neg (by rw [sizeLine_eq]; omega) ?_
  try refine wpAny_bind (wpAny_pure ?_)
  rw [er]
  dsimp only
  refine wpAny_bind (wp_if_neg (by rw [len2]; simp) ?_)
  try refine wpAny_bind (wpAny_pure ?_)
  refine wpAny_pure ?_
  dsimp only
  have sb : Heap.SameBut a s.heap (s.heap.update a (Obj.putSet (order.filterMap (es[·]?)) t2)) := Heap.SameBut.update ..
  refine wpAny_storeSet_of g dat (q _ L2 _ (ep + 1) t2 sb { obj := ⟨_, store_at g dat, ⟨ex.1, ex.2.1, ex.2.2⟩, rfl⟩, ent := n1, tab := tab, once := (n2.map (·.2)).nodup_iff.mpr once, lie := fun z m => lie_still (lie z (n2.mem_iff.mp m)) g dat sb, led := by rw [el]; exact led, free := by rw [n2.length_eq, em]; exact fr, small := by rw [n2.length_eq]; exact small } n2) (by rw [len2, len, sizeLine_eq]; omega)
theorem byval_if {α : Type} {c : Bool} {f : Bool → Sem α} {k : List κ} {x : Addr} {Q : α → Shared → Prop} (z : IsTupleKey knd s.heap k x) (q : ∀ b, wpAny (model P w) A (f b) Q E s) :
    wpAny (model P w) A (if c = true then hashByValue 8 (.ref x) >>= f else pure true >>= f) Q E s := by
  cases c
  · exact wpAny_bind (wpAny_pure (q true))
  · exact wpAny_bind (byval_tup z q)
theorem put_in {α : Type} (l : List α) (p : Nat) (x : α) : (l.take p ++ x :: l.drop p).Perm (x :: l) := by
  refine List.perm_middle.trans ?_
  rw [List.take_append_drop]
theorem add_in (R : HSet knd s.heap a L es ep t) {x : Addr} {k : List κ} (z : IsTupleKey knd s.heap k x) (hu : A.units < cLine) (room : L.length + 1 < 64) {Q : Bool → Shared → Prop}
    (q : ∀ b h' L' es' ep' t', Heap.SameBut a s.heap h' → HSet knd h' a L' es' ep' t' → (k ∈ L.map (·.2) ∧ L' = L ∨ L'.Perm ((x, k) :: L)) → Q b { s with heap := h' }) :
    wpAny (model P w) A (setAddHashed a (.ref x) (tHash knd k)) Q E s := by
  obtain ⟨o, g, ex, dat⟩ := R.obj
  have len := R.size
  have fr := R.free
  unfold setAddHashed
  refine wpAny_holding ?_
  rw [show (100000 : Nat) = 99999 + 1 from rfl, setAddHashedIn_succ]
  refine wpAny_bind (wpAny_setState_of g dat R.fits ?_)
  dsimp only
  refine wp_if_neg (by simp [byScan, Value.scannable]) ?_
  try refine wpAny_bind (wpAny_pure ?_)
  refine wpAny_bind (look_at R z hu (fun m => ?_) fun N m n2 n3 => ?_)
  · dsimp only
    exact wpAny_pure (q false s.heap L es ep t (Heap.SameBut.refl a s.heap) R (.inl ⟨m, rfl⟩))
  dsimp only
  refine wpAny_bind (wpAny_setState_of g dat R.fits ?_)
  dsimp only
  obtain ⟨q1, q2, q3, q4, q5, _, _, _, q9⟩ := R.tab.put n2 n3
  generalize t.put (way t.mask (tHash knd k) N) = pt at q1 q3 q4 q5 q9 ⊢
  obtain ⟨t1, p⟩ := pt
  dsimp only at q1 q3 q4 q5 q9 ⊢
  subst q1
  have en1 : (SetTable.insertAt es (SetTable.below t.place (way t.mask (tHash knd k) N)) (tHash knd k, Value.ref x)).toList = entsOf knd (L.take (SetTable.below t.place (way t.mask (tHash knd k) N)) ++ (x, k) :: L.drop (SetTable.below t.place (way t.mask (tHash knd k) N))) := by
    rw [SetTable.toList_insertAt, R.ent, entsOf, entsOf, List.map_append, List.map_cons, List.map_take, List.map_drop]
  have eh : hashesOf knd (L.take (SetTable.below t.place (way t.mask (tHash knd k) N)) ++ (x, k) :: L.drop (SetTable.below t.place (way t.mask (tHash knd k) N))) = (hashesOf knd L).take (SetTable.below t.place (way t.mask (tHash knd k) N)) ++ tHash knd k :: (hashesOf knd L).drop (SetTable.below t.place (way t.mask (tHash knd k) N)) := by
    rw [hashesOf, hashesOf, List.map_append, List.map_cons, List.map_take, List.map_drop]
  rw [← eh] at q3
  generalize SetTable.below t.place (way t.mask (tHash knd k) N) = p at q2 q3 en1 ⊢
  have pm := put_in L p (x, k)
  generalize L.take p ++ (x, k) :: L.drop p = L1 at pm q3 en1
  have len1 : L1.length = L.length + 1 := pm.length_eq
  generalize SetTable.insertAt es p (tHash knd k, Value.ref x) = es1 at en1 ⊢
  have esz : es1.size = L.length + 1 := (ents_len en1).trans len1
  have once1 : (L1.map (·.2)).Nodup := (pm.map (·.2)).nodup_iff.mpr (by rw [List.map_cons]; exact List.nodup_cons.mpr ⟨m, R.once⟩)
  have fill1 : t1.fill = L.length + 1 := by rw [q9, hashesOf, List.length_map]
  refine byval_if z fun b => ?_
  generalize ht : (if b = true then t1 else { t1 with plain := false }) = t2
  have T : TabOk t2 (hashesOf knd L1) ∧ t2.mask = t.mask ∧ t2.led = t.led ∧ t2.fill = L.length + 1 := by
    cases b
    · cases ht
      exact ⟨⟨q3.ris, q3.dm, q3.sz, q3.mok, q3.bd, q3.reach⟩, q4, q5, fill1⟩
    · cases ht
      exact ⟨q3, q4, q5, fill1⟩
  obtain ⟨r3, r4, r5, r9⟩ := T
  refine wpAny_bind (wpAny_storeSet_of g dat ?_ (by rw [esz, sizeLine_eq]; omega))
  have sb : Heap.SameBut a s.heap (s.heap.update a (Obj.putSet es1 t2)) := Heap.SameBut.update ..
  have g1 := store_at (es' := es1) (t' := t2) g dat
  generalize s.heap.update a (Obj.putSet es1 t2) = h1 at sb g1 ⊢
  have lie1 : ∀ y ∈ L1, IsTupleKey knd h1 y.2 y.1 := fun y my => by
    rcases List.mem_cons.mp (pm.mem_iff.mp my) with e | my
    · rw [e]; exact lie_still z g dat sb
    · exact lie_still (R.lie y my) g dat sb
  have led1 : w.params.followText "set-order" = true ∨ t2.led = true := by rw [r5]; exact R.led
  by_cases full : t2.tooFull = true
  · first
      | (refine wpAny_bind ?_; refine wp_if_pos (by simp [full]) ?_)
      | (refine wp_if_pos (by simp [full]) ?_; refine wpAny_bind ?_)
    have many : t2.mask * 3 ≤ (L.length + 1) * 5 := by
      have := full
      unfold SetTable.tooFull at this
      rw [decide_eq_true_eq, r9] at this
      exact this
    rw [len]
    have pl1 : t2.place.size = es1.size := by rw [r3.sz, hashesOf, List.length_map, esz, len1]
    have which : (t.mask = 7 ∧ L.length = 4) ∨ (t.mask = 31 ∧ L.length = 18) := by
      rw [r4] at many
      rcases R.tab.mok with e | e | e <;> rw [e] at many fr
      · exact .inl ⟨e, by omega⟩
      · exact .inr ⟨e, by omega⟩
      · omega
    have anew : ∀ M, SetTable.sizeAbove (SetTable.grown (L.length + 1)) - 1 = M → MaskOk M → SetTable.sizeAbove (SetTable.grown (L.length + 1)) ≤ 128 → (L.length + 1) * 5 < M * 3 →
        wpAny (model P w) A (setRelay a (SetTable.grown (L.length + 1))) (fun _ s' => wpAny (model P w) A (pure true) Q E s') E { s with heap := h1 } := fun M m1 m2 m3 m4 => by
      refine lay_at (s := { s with heap := h1 }) g1 ⟨ex.1, ex.2.1, ex.2.2⟩ rfl en1 pl1 r3.dm (by rw [esz, r4]; rcases which with ⟨e1, e2⟩ | ⟨e1, e2⟩ <;> omega) once1 lie1 led1 (by rw [len1]; exact room) m1 m2 m3 (by rw [len1]; exact m4) ?_
      intro h2 L2 es2 ep2 t3 sb2 R2 pm2
      exact wpAny_pure (q true h2 L2 es2 ep2 t3 (sb.trans sb2) R2 (.inr (pm2.trans pm)))
    rcases which with ⟨_, e⟩ | ⟨_, e⟩
    · exact anew 31 (by rw [e, size_20]) (.inr (.inl rfl)) (by rw [e, size_20]; decide) (by omega)
    · exact anew 127 (by rw [e, size_76]) (.inr (.inr rfl)) (by rw [e, size_76]; decide) (by omega)
  · first
      | refine wp_if_neg (by simp [full]) ?_
      | (refine wpAny_bind ?_; refine wp_if_neg (by simp [full]) ?_; refine wpAny_pure ?_)
    refine wpAny_pure (q true h1 L1 es1 (ep + 1) t2 sb { obj := ⟨_, g1, ⟨ex.1, ex.2.1, ex.2.2⟩, rfl⟩, ent := en1, tab := r3, once := once1, lie := lie1, led := led1, free := ?_, small := by rw [len1]; exact room } (.inr pm))
    have := full
    unfold SetTable.tooFull at this
    rw [decide_eq_true_eq, r9] at this
    rw [len1]
    omega
/-! set(xs) -/
/-- what a set has taken up of a list -/
def Fed (ks L : Mem κ) : Prop := (∀ z ∈ L, z ∈ ks) ∧ (∀ z ∈ ks, z.2 ∈ L.map (·.2)) ∧ L.length ≤ ks.length
theorem Fed.nil : Fed ([] : Mem κ) [] := ⟨fun _ m => m, fun _ m => absurd m List.not_mem_nil, Nat.le_refl _⟩
theorem Fed.step {ks L L' : Mem κ} {z : Addr × List κ} (f : Fed ks L) (c : z.2 ∈ L.map (·.2) ∧ L' = L ∨ L'.Perm (z :: L)) : Fed (ks ++ [z]) L' := by
  obtain ⟨f1, f2, f3⟩ := f
  rcases c with ⟨m, rfl⟩ | pm
  · refine ⟨fun y my => List.mem_append_left _ (f1 y my), fun y my => ?_, by rw [List.length_append]; omega⟩
    rcases List.mem_append.mp my with my | my
    · exact f2 y my
    · rw [List.mem_singleton.mp my]; exact m
  · refine ⟨fun y my => ?_, fun y my => ?_, by rw [List.length_append, pm.length_eq]; exact Nat.succ_le_succ f3⟩
    · rcases List.mem_cons.mp (pm.mem_iff.mp my) with e | my
      · exact List.mem_append_right _ (List.mem_singleton.mpr e)
      · exact List.mem_append_left _ (f1 y my)
    · rw [(pm.map (·.2)).mem_iff, List.map_cons]
      rcases List.mem_append.mp my with my | my
      · exact List.mem_cons_of_mem _ (f2 y my)
      · rw [List.mem_singleton.mp my]; exact List.mem_cons_self
theorem HSet.kept {h h' : Heap} (R : HSet knd h a L es ep t) (g : ∀ o, h.get? a = some o → h'.get? a = some o) (l : ∀ z ∈ L, IsTupleKey knd h' z.2 z.1) : HSet knd h' a L es ep t :=
  { R with obj := let ⟨o, e, r⟩ := R.obj; ⟨o, g o e, r⟩, lie := l }
theorem HSet.new {h : Heap} (g : h.get? a = some (setOb (!w.params.followText "set-order"))) : HSet knd h a [] #[] 0 (.fresh 0 0 (!w.params.followText "set-order")) where
  obj := ⟨_, g, ⟨rfl, rfl, rfl⟩, rfl⟩
  ent := rfl
  tab := { ris := List.Pairwise.nil, dm := rfl, sz := rfl, mok := .inl rfl, bd := fun _ m => (nomatch m), reach := fun i _ _ e => (by rw [show hashesOf knd ([] : Mem κ) = [] from rfl, List.getElem?_nil] at e; cases e) }
  once := .nil
  lie := fun _ m => nomatch m
  led := by
    cases e : w.params.followText "set-order"
    · exact .inr rfl
    · exact .inl rfl
  free := by show 0 * 5 < 7 * 3; decide
  small := by show 0 < 64; decide
/-! sorted(a set) -/
theorem perm_refs {L : Mem κ} {h : Heap} (once : (L.map (·.2)).Nodup) (lie : ∀ z ∈ L, IsTupleKey knd h z.2 z.1) {vs : List Value} (pm : vs.Perm (L.map fun z => Value.ref z.1)) : ∃ M : Mem κ, vs = M.map (fun z => Value.ref z.1) ∧ M.Perm L := by
  induction vs generalizing L with
  | nil =>
    have := pm.length_eq
    rw [List.length_map] at this
    rw [List.length_eq_zero_iff.mp this.symm]
    exact ⟨[], rfl, .refl _⟩
  | cons v vs ih =>
    obtain ⟨z, mz, rfl⟩ := List.mem_map.mp (pm.mem_iff.mp List.mem_cons_self)
    obtain ⟨L1, L2, rfl⟩ := List.append_of_mem mz
    have p1 : (L1 ++ z :: L2).Perm (z :: (L1 ++ L2)) := List.perm_middle
    have p2 := pm.trans (p1.map fun z => Value.ref z.1)
    rw [List.map_cons] at p2
    have o2 := (p1.map (·.2)).nodup_iff.mp once
    rw [List.map_cons] at o2
    obtain ⟨M, rfl, pM⟩ := ih (L := L1 ++ L2) (List.nodup_cons.mp o2).2 (fun y my => lie y (p1.mem_iff.mpr (List.mem_cons_of_mem _ my))) (List.Perm.cons_inv p2)
    exact ⟨z :: M, rfl, (pM.cons z).trans p1.symm⟩
end
end Lk
set_option maxRecDepth 100000
set_option maxHeartbeats 4000000
namespace Lk
open PySem PySem.Spec PyProof.Rows L2
/-! ### sorted(set(xs)), xs a list of pairs of texts -/
abbrev Prs := List (Addr × Str × Str)
def memOf (b : Addr × Str × Str) : Addr × List Str := (b.1, [b.2.1, b.2.2])
def prsOf (z : Addr × List Str) : Addr × Str × Str := (z.1, z.2.headD Str.empty, z.2.getD 1 Str.empty)
section
variable {P : Program} {w : World} {A : Around} {E : Value → Shared → Prop} {s : Shared}
theorem str_shape {k : Str} {v : Value} (h : (PySem.strKind P w).is k v = true) : ∃ t, v = .str k t := by
  cases v <;> first | (simp [PySem.strKind, Value.isStrOf] at h; done) | skip
  rename_i x t
  have : x = k := by simpa [PySem.strKind, Value.isStrOf] using h
  exact ⟨t, by rw [this]⟩
theorem reads_two {h : Heap} {z : Addr × List Str} {x y : Str} (e : z.2 = [x, y]) (l : IsTupleKey (PySem.strKind P w) h z.2 z.1) : Reads h (.ref z.1) (encP (prsOf z)) [] := by
  obtain ⟨ob, its, n, g, c, dat, al⟩ := l
  rw [e] at al
  generalize eq : its.toList = us at al
  cases al with
  | cons i1 al =>
    cases al with
    | cons i2 al =>
      cases al
      obtain ⟨t1, rfl⟩ := str_shape i1
      obtain ⟨t2, rfl⟩ := str_shape i2
      have e2 : its = [Value.str x t1, Value.str y t2].toArray := by rw [← eq, Array.toArray_toList]
      subst e2
      unfold encP prsOf
      rw [e]
      exact Reads.tuple (as := []) g c dat (.cons (as := []) (bs := []) (.str _ _) (.cons (as := []) (bs := []) (.str _ _) .nil))
theorem sort_mem {a : Addr} {L : Mem Str} {es : Array (Int × Value)} {ep : Nat} {t : SetTable} {Q : Value → Shared → Prop} (R : HSet (PySem.strKind P w) s.heap a L es ep t) (hh : A.handled = none) (hu : A.units + 64 < cLine) (two : ∀ z ∈ L, ∃ x y, z.2 = [x, y])
    (q : ∀ s' D c (M : Mem Str), (∀ b o, s.heap.get? b = some o → s'.heap.get? b = some o) → s'.gens = s.gens → s'.os = s.os → s.heap.objs.size ≤ D → M.Perm L →
      s'.heap.get? D = some (seqObj "list" ((M.mergeSort (PySem.W.dataLe false fun z => encP (prsOf z))).map fun z => Value.ref z.1).toArray c) → Q (.ref D) s') :
    wpAny (model P w) A (call (.builtin "sorted") [.ref a]) Q E s := by
  obtain ⟨o, g, ex, dat⟩ := R.obj
  have len := R.size
  have small := R.small
  refine Calls.call_function_entry kind_sorted plain_sorted entry_sorted (args_sorted1 _) ?_
  unfold Builtin.«sorted»
  refine wpAny_bind (m := checkCount "sorted" 1 1 _) (wpAny_pure (wpAny_bind (collect_set (A := A.in1) hh ⟨o, g, ex.1, dat⟩ R.fits (by unfold scanBound; omega) R.tab.ris R.led fun s1 vs kp sz g1 o1 pm => ?_)))
  have em : es.toList.map (·.2) = L.map fun z => Value.ref z.1 := by
    rw [R.ent, entsOf, List.map_map]
    rfl
  rw [em] at pm
  obtain ⟨M, rfl, pM⟩ := perm_refs R.once R.lie pm
  have lM := pM.length_eq
  refine wpAny_bind (wpAny_newList ?_ (by rw [List.length_map, sizeLine_eq]; omega))
  have gl : (s1.heap.push (seqObj "list" (M.map fun z => Value.ref z.1).toArray 0)).get? s1.heap.objs.size = some (seqObj "list" (M.map fun z => Value.ref z.1).toArray 0) := Heap.get?_push_size _ rfl
  have kp2 : ∀ b o, s.heap.get? b = some o → (s1.heap.push (seqObj "list" (M.map fun z => Value.ref z.1).toArray 0)).get? b = some o := fun b o e => Heap.get?_push_of_some _ (kp b o e)
  have ea : ∀ N : Mem Str, PySem.W.EachIs (fun v (z : Addr × List Str) => v = Value.ref z.1) (N.map fun z => Value.ref z.1) N := by
    intro N
    induction N with
    | nil => exact .nil
    | cons z N ih => exact .cons rfl ih
  have er : ∀ N : Mem Str, (∀ z ∈ N, z ∈ L) → PySem.W.EachIs (fun v z => ∃ as, Reads (s1.heap.push (seqObj "list" (M.map fun z => Value.ref z.1).toArray 0)) v (encP (prsOf z)) as ∧ s1.heap.objs.size ∉ as) (N.map fun z => Value.ref z.1) N := by
    intro N
    induction N with
    | nil => intro _; exact .nil
    | cons z N ih =>
      intro sub
      obtain ⟨x, y, e⟩ := two z (sub z List.mem_cons_self)
      exact .cons ⟨[], reads_two e (lie_kept (R.lie z (sub z List.mem_cons_self)) kp2), List.not_mem_nil⟩ (ih fun y my => sub y (List.mem_cons_of_mem _ my))
  refine wpAny_bind (wpAny_holding (PySem.W.list_sort_data (s := { s1 with heap := s1.heap.push (seqObj "list" (M.map fun z => Value.ref z.1).toArray 0) }) (bs := M) (enc := fun z => encP (prsOf z)) gl (ea M) (er M fun z m => pM.mem_iff.mp m) (PySem.W.AllAlike.of fun b b' => ?_) (PySem.W.Sortable.tuples fun b => ⟨_, _, rfl⟩) (by rw [lM, sizeLine_eq]; omega) (fun b _ => ?_) fun out ho eo => ?_))
  · simp [encP, PySem.W.alike, PySem.W.alikeAll]
  · have : (encP (prsOf b)).depth = 1 := by simp [encP, PyData.depth, PyData.depthAll]
    rw [this]
    show A.units + 1 + 1 + 1 < cLine
    omega
  · have eo2 : out = (M.mergeSort (PySem.W.dataLe false fun z => encP (prsOf z))).map fun z => Value.ref z.1 := by
      generalize M.mergeSort (PySem.W.dataLe false fun z => encP (prsOf z)) = N at eo
      clear ho
      induction eo with
      | nil => rfl
      | cons e _ ih => rw [e, ih]; rfl
    obtain ⟨c, hc⟩ := sortedHeap_at (vs := M.map fun z => Value.ref z.1) (out := out.toArray) gl
    rw [eo2] at hc
    refine wpAny_pure ⟨_, rfl, q _ s1.heap.objs.size c M (fun b u e => ?_) g1 o1 sz pM (by rw [eo2]; exact hc)⟩
    have lt := Heap.lt_size (kp b u e)
    show (sortedHeap (s1.heap.push (seqObj "list" (M.map fun z => Value.ref z.1).toArray 0)) s1.heap.objs.size (M.map fun z => Value.ref z.1) out.toArray).get? b = some u
    rw [sortedHeap_old (Nat.ne_of_lt lt) (by rw [size_push']; exact Nat.lt_succ_of_lt lt)]
    exact kp2 b u e
end
section
variable {X : Cx}
end
end Lk
set_option maxRecDepth 100000
set_option maxHeartbeats 4000000
namespace Lk
open PySem PySem.Spec PyProof.Rows L2
/-! ### enumerate over an iterator whose own step may make things (a zip) -/
section
variable {prog : Program} {w : World} {A : Around} {E : Value → Shared → Prop} {s : Shared}
/-! ### a zip's step, where its pair before is let go -/
/-! ### whichever way -/
/-- the state of a zip that another iterator asks: nothing handed out yet, or the pair T -/
def ZipSt (h : Heap) (z TI TO : Addr) : Prop := IsZip h z TI TO .none ∨ ∃ T f, IsZipHeld h z TI TO T f
theorem ZipSt.obj {h : Heap} {z TI TO : Addr} (x : ZipSt h z TI TO) : ∃ o vs, h.get? z = some o ∧ o.cls = .type "zip" ∧ o.data = .fields vs := by
  rcases x with e | ⟨T, f, e⟩
  · exact ⟨_, _, e, rfl, rfl⟩
  · exact ⟨_, _, e, rfl, rfl⟩
theorem ZipSt.at {h h' : Heap} {z TI TO : Addr} (x : ZipSt h z TI TO) (k : ∀ o, h.get? z = some o → h'.get? z = some o) : ZipSt h' z TI TO := x.imp (k _) fun ⟨T, f, e⟩ => ⟨T, f, k _ e⟩
open AutoSeq1 (wpAny_loadPart') in
end
end Lk
set_option maxRecDepth 100000
set_option maxHeartbeats 4000000
namespace Lk
open PySem PySem.Spec PyProof.Rows L2
/-- exchanged at the first place where neighbours stand the other way about, again and again -/
inductive ExF (f : Str → Nat) : List Str → List Nat → List Str → Prop where
  | nil (o : List Str) : ExF f o [] o
  | cons {o o' : List Str} {i : Nat} {ts : List Nat} (x y : Str) (hx : o[i]? = some x) (hy : o[i + 1]? = some y) (up : (o.take (i + 1)).Pairwise fun u v => f u < f v) (lt : f y < f x) (t : ExF f (swapL o i x y) ts o') : ExF f o (i :: ts) o'
theorem up_pair {f : Str → Nat} {l : List Str} {k i : Nat} {x y : Str} (h : (l.take k).Pairwise fun u v => f u < f v) (hi : i + 1 < k) (hx : l[i]? = some x) (hy : l[i + 1]? = some y) : f x < f y := by
  have h1 : (l.take k)[i]? = some x := by rw [List.getElem?_take, if_pos (by omega)]; exact hx
  have h2 : (l.take k)[i + 1]? = some y := by rw [List.getElem?_take, if_pos hi]; exact hy
  obtain ⟨b1, e1⟩ := List.getElem?_eq_some_iff.mp h1
  obtain ⟨b2, e2⟩ := List.getElem?_eq_some_iff.mp h2
  have := List.pairwise_iff_getElem.mp h i (i + 1) b1 b2 (by omega)
  rw [e1, e2] at this
  exact this
theorem ExF.uniq {f : Str → Nat} {o a : List Str} {ts : List Nat} (h : ExF f o ts a) (ha : a.Pairwise fun u v => f u < f v) : ∀ {b : List Str} {us : List Nat}, ExF f o us b → (b.Pairwise fun u v => f u < f v) → ts = us := by
  induction h with
  | nil o =>
    intro b us h hb
    cases h with
    | nil => rfl
    | @cons _ _ i us x y hx hy up lt t =>
      have := up_pair (k := o.length) (by rw [List.take_of_length_le (Nat.le_refl _)]; exact ha) (List.getElem?_eq_some_iff.mp hy).1 hx hy
      omega
  | @cons o o' i ts x y hx hy up lt t ih =>
    intro b us h hb
    cases h with
    | nil =>
      have := up_pair (k := o.length) (by rw [List.take_of_length_le (Nat.le_refl _)]; exact hb) (List.getElem?_eq_some_iff.mp hy).1 hx hy
      omega
    | @cons _ _ j us u v hu hv up2 lt2 t2 =>
      have e : i = j := by
        rcases Nat.lt_trichotomy i j with z | z | z
        · have := up_pair up2 (by omega) hx hy
          omega
        · exact z
        · have := up_pair up (by omega) hu hv
          omega
      subst e
      rw [hx] at hu
      cases hu
      rw [hy] at hv
      cases hv
      rw [ih ha t2 hb]
end Lk
set_option maxRecDepth 100000
set_option maxHeartbeats 4000000
namespace Lk
open PySem PySem.Spec PyProof.Rows L2
/-! ### the first of the elders who is astray -/
theorem TupAt.but {K : PySem.W.Frag} {H : Hp} {e : Addr} {elders : List Str} (h : TupAt H e (elders.map V.str)) : ButKeeps K H e elders := fun H' s => .inr (h.same s).sq
end Lk
namespace Lk
open PySem PySem.Spec PyProof.Rows L2
end Lk
set_option maxRecDepth 100000
set_option maxHeartbeats 4000000
namespace Lk
open PySem PySem.Spec PyProof.Rows L2
/-! ### the set of a tuple of texts, some twice -/
section
variable {P : Program} {w : World} {A : Around} {E : Value → Shared → Prop} {s : Shared}
theorem set_strsTD {l : Addr} {its : List Value} {xs : List Str} {Q : Value → Shared → Prop} (hh : A.handled = none) (hl : s.heap.IsTuple l its.toArray) (hi : PyProof.Rows.StrsAre its xs) (few : ∀ us : List Str, us.Nodup → (∀ y ∈ us, y ∈ xs) → us.length + 1 < scanBound)
    (h : ∀ (h' : Heap) (tk : Nat) (us : List Str), us.Nodup → (∀ y, y ∈ us ↔ y ∈ xs) → h'.SetOf (PySem.strKind P w) s.heap.objs.size (fun y => decide (y ∈ us)) us.length → (∀ b o, s.heap.get? b = some o → h'.get? b = some o) → Q (.ref s.heap.objs.size) { s with heap := h', toks := tk }) :
    wpAny (model P w) A (call (.type "set") [.ref l]) Q E s := by
  obtain ⟨c, tl, hmro⟩ := PySem.F.called_set.mro
  have k1 := PySem.F.called_set.made
  have k2 := PySem.F.called_set.sub
  refine wpAny_call (codeAny_of_tree (show wpAny _ _ (callAny (.type "set") _) _ _ _ from wpAny_pure ⟨Code.quiet_builtin _ (by decide +kernel), codeAny_builtin PySem.F.entry_type_call ?_⟩))
  rw [Around.under_plain (weight_type_call_type "set" [.ref l] []) rfl]
  have k3 := PySem.F.called_set.notType
  have k4 := PySem.F.called_set.canCreate
  have k5 := PySem.F.typeCall_set_1 (.ref l)
  repeat (any_goals (first | assumption | wp_step))
  refine codeAny_mono (code_set_new_1 (.ref l) (E := E) (Q₁ := fun obj s1 => ∃ led : Bool, obj = .ref s.heap.objs.size ∧ s1 = { s with heap := s.heap.push (setOb led) }) fun led => ⟨led, rfl, rfl⟩) fun r s1 hr => ?_
  match r, hr with
  | .error e, hr => exact hr
  | .ok .next, hr => exact hr.elim
  | .ok .brk, hr => exact hr.elim
  | .ok .cont, hr => exact hr.elim
  | .ok (.ret obj), hr =>
    obtain ⟨led, rfl, rfl⟩ := hr
    have gS : (s.heap.push (setOb led)).get? s.heap.objs.size = some (setOb led) := Heap.get?_push_size _ rfl
    have tS : Shared.TypeIs { s with heap := s.heap.push (setOb led) } (.ref s.heap.objs.size) "set" := ⟨_, gS, rfl⟩
    have k6 := PySem.F.called_set.init.lookup
    have k7 := PySem.F.called_set.init.bind (.ref s.heap.objs.size)
    repeat (any_goals (first | assumption | wp_step))
    refine codeAny_mono (codeAny_call_builtin (R := wants (fun r s2 => r = .none ∧ ∃ h' tk, s2 = { s with heap := h', toks := tk } ∧ ∃ us : List Str, us.Nodup ∧ (∀ y, y ∈ us ↔ y ∈ xs) ∧ h'.SetOf (PySem.strKind P w) s.heap.objs.size (fun y => decide (y ∈ us)) us.length ∧ (∀ b o, s.heap.get? b = some o → h'.get? b = some o)) E)
      PySem.F.called_set.init.plain PySem.F.entry_set_init (check_set_init_1 tS ?_)) fun r2 s2 hr2 => ?_
    · obtain ⟨⟨oc, od, oa, os⟩, lo, lc, nl, ld⟩ := hl
      simp only at lc ld
      subst lc ld
      have lt : l < s.heap.objs.size := Heap.lt_size lo
      have lo1 : (s.heap.push (setOb led)).get? l = some { cls := .type "tuple", dict := od, data := .seq its.toArray nl, slots := os } := Heap.get?_push_of_some _ lo
      have k8 := PySem.F.sub_tuple_set
      have k9 := PySem.F.sub_tuple_frozenset
      have k10 : (Value.type "tuple" == Value.type "dict") = false := by decide
      have l1 : (s.heap.push (setOb led)).IsTuple l its.toArray := ⟨_, lo1, rfl, nl, rfl⟩
      unfold Builtin.«set.__init__» noKeywords Builtin.Frozenset.updateFrom
      generalize hP : pyIter = Pi
      wp_walk
      subst hP
      refine wpAny_pyIter_tuple l1 (wpAny_bind (wpAny_runValue ?_))
      have sz : (s.heap.push (setOb led)).objs.size = s.heap.objs.size + 1 := Heap.size_push ..
      have ni : l ≠ (s.heap.push (setOb led)).objs.size := by rw [sz]; exact Nat.ne_of_lt (Nat.lt_succ_of_lt lt)
      have h3 : A.in1.in1.in1.handled = none := by simp [hh]
      have nf : s.heap.objs.size ∉ [(s.heap.push (setOb led)).objs.size, l] := fun z => by
        rcases List.mem_cons.mp z with z | z
        · rw [sz] at z
          exact Nat.ne_of_lt (Nat.lt_succ_self _) z
        · exact Nat.ne_of_gt lt (List.mem_singleton.mp z)
      have el : xs.length = its.toArray.size := by rw [← StrsAre.len_eq hi, List.size_toArray]
      refine strs_loopD ((Walks.tuple h3 _ l ni its.toArray).toS) nf el few (fun i v hv => ?_) its.toArray.size 0 _ [] (Nat.zero_add _) ⟨⟨_, Heap.get?_push_size _ rfl, rfl, rfl⟩, l1.push _⟩ List.nodup_nil (fun y => by simp) ?_ fun s' us hm nu mu so => ?_
      · obtain ⟨t, e⟩ := SS.strs_at hi i v (by rw [← Array.getElem?_toList] at hv; simpa using hv)
        have li : i < xs.length := by
          have := (Array.getElem?_eq_some_iff.mp hv).1
          omega
        exact ⟨xs.getD i Str.empty, t, by rw [List.getD_eq_getElem?_getD, List.getElem?_eq_getElem li]; rfl, e⟩
      · have g2 := Heap.get?_push_of_some { cls := .type "tuple_iterator", data := .fields #[.ref l, .int 0 0] } gS
        exact SetOf_congr ((setObjOf_fresh (knd := PySem.strKind P w) led).setOf g2 (by unfold scanBound; omega)) (fun _ => rfl) rfl
      · obtain ⟨h', g', d', tk', os'⟩ := s'
        obtain rfl : g' = s.gens := hm.gens
        obtain rfl : d' = s.drawn := hm.drawn
        obtain rfl : os' = s.os := hm.os
        refine wpAny_pure (show wpAny _ _ (ret Value.none) _ _ _ from wpAny_pure ⟨rfl, h', tk', rfl, us, nu, mu, so, fun b o z => ?_⟩)
        have bl := Heap.lt_size z
        refine hm.heap b o (fun q => ?_) (Heap.get?_push_of_some _ (Heap.get?_push_of_some _ z))
        rcases List.mem_cons.mp q with q | q
        · exact Nat.ne_of_lt bl q
        · have := List.mem_singleton.mp q
          rw [sz] at this
          exact Nat.ne_of_lt (Nat.lt_succ_of_lt bl) this
    · match r2, hr2 with
      | .error e, hr2 => exact hr2
      | .ok .next, hr2 => exact hr2.elim
      | .ok .brk, hr2 => exact hr2.elim
      | .ok .cont, hr2 => exact hr2.elim
      | .ok (.ret r), hr2 =>
        obtain ⟨rfl, h', tk, rfl, us, nu, mu, so, kp⟩ := hr2
        repeat (any_goals (first | assumption | wp_step))
        exact h _ _ us nu mu so kp
end
section
variable {X : Cx}
end
end Lk
set_option maxRecDepth 100000
set_option maxHeartbeats 4000000
namespace Lk
open PySem PySem.Spec PyProof.Rows L2
/-! ### texts that may be anything -/
def nb (x : Str) : Bool := decide (1 ≤ x.length) && decide (x.length ≤ 8) && x.cps.toList.all fun c => decide (97 ≤ c) && decide (c ≤ 122)
theorem nb_iff {x : Str} : nb x = true ↔ NameOk x := by
  unfold nb NameOk
  rw [len_tlx]
  simp only [Bool.and_eq_true, decide_eq_true_eq, List.all_eq_true]
  constructor
  · rintro ⟨⟨h1, h2⟩, h3⟩
    exact ⟨h1, h2, fun c hc => h3 c hc⟩
  · rintro ⟨h1, h2, h3⟩
    exact ⟨⟨h1, h2⟩, fun c hc => h3 c hc⟩
def wordsL (T : Str) : List Str := if T = "-" then [] else Txt.split T " "
/-- a row -/
def rowB (ws : List Str) : Bool := ws.all nb && decide ws.Nodup
/-- pairs -/
def fpB : List Str → Bool
  | [x, y] => nb x && nb y && decide (x.cps.toList < y.cps.toList)
  | _ => false
def splitW (x : Str) : List Str := Txt.split x "-"
def p2 (w : List Str) : Str × Str := (w.getD 0 "", w.getD 1 "")
def riseB : List (Str × Str) → Bool
  | [] => true
  | [_] => true
  | p :: q :: r => pltB p q && riseB (q :: r)
theorem rise_iff : ∀ {ps : List (Str × Str)}, riseB ps = true ↔ ∀ (i : Nat) (p q : Str × Str), ps[i]? = some p → ps[i + 1]? = some q → pltB p q = true
  | [] => ⟨fun _ i p q h => (by simp at h), fun _ => rfl⟩
  | [x] => ⟨fun _ i p q _ h => (by simp at h), fun _ => rfl⟩
  | x :: y :: r => by
    show (pltB x y && riseB (y :: r)) = true ↔ _
    rw [Bool.and_eq_true, rise_iff (ps := y :: r)]
    constructor
    · rintro ⟨h1, h2⟩ i p q hp hq
      cases i with
      | zero => cases hp; cases hq; exact h1
      | succ i => exact h2 i p q hp hq
    · exact fun h => ⟨h 0 x y rfl rfl, fun i p q hp hq => h (i + 1) p q hp hq⟩
def pairsB (T : Str) : Bool := ((wordsL T).map splitW).all fpB
def psOf (T : Str) : List (Str × Str) := (wordsL T).map fun x => p2 (splitW x)
def frB (T : Str) : Bool := pairsB T && riseB (psOf T)
/-- sorted and without repeats: rising -/
theorem plt_trans {p q r : Str × Str} (h : pltB p q = true) (k : pltB q r = true) : pltB p r = true := (listOrd itemOrd).trans (PySem.W.keyToks (.tuple [.str p.1, .str p.2])) (PySem.W.keyToks (.tuple [.str q.1, .str q.2])) (PySem.W.keyToks (.tuple [.str r.1, .str r.2])) h k
theorem plt_irr (p : Str × Str) : pltB p p = false := (listOrd itemOrd).irrefl (PySem.W.keyToks (.tuple [.str p.1, .str p.2]))
theorem rise_pw : ∀ {ps : List (Str × Str)}, riseB ps = true → ps.Pairwise fun p q => pltB p q = true
  | [], _ => .nil
  | [x], _ => List.pairwise_singleton _ x
  | x :: y :: r, h => by
    have h' : (pltB x y && riseB (y :: r)) = true := h
    rw [Bool.and_eq_true] at h'
    have ih := rise_pw h'.2
    refine List.pairwise_cons.mpr ⟨fun z hz => ?_, ih⟩
    rcases List.mem_cons.mp hz with e | e
    · rw [e]
      exact h'.1
    · exact plt_trans h'.1 ((List.pairwise_cons.mp ih).1 z e)
theorem rise_uniq : ∀ {xs ys : List (Str × Str)}, xs.Pairwise (fun p q => pltB p q = true) → ys.Pairwise (fun p q => pltB p q = true) → (∀ z, z ∈ xs ↔ z ∈ ys) → xs = ys
  | [], [], _, _, _ => rfl
  | [], y :: r, _, _, h => nomatch (h y).mpr List.mem_cons_self
  | x :: r, [], _, _, h => nomatch (h x).mp List.mem_cons_self
  | x :: r, y :: t, h1, h2, h => by
    obtain ⟨a1, a2⟩ := List.pairwise_cons.mp h1
    obtain ⟨b1, b2⟩ := List.pairwise_cons.mp h2
    have e : x = y := by
      rcases List.mem_cons.mp ((h x).mp List.mem_cons_self) with e | e
      · exact e
      rcases List.mem_cons.mp ((h y).mpr List.mem_cons_self) with k | k
      · exact k.symm
      have := plt_trans (a1 y k) (b1 x e)
      rw [plt_irr] at this
      cases this
    subst e
    refine congrArg (x :: ·) (rise_uniq a2 b2 fun z => ⟨fun hz => ?_, fun hz => ?_⟩)
    · rcases List.mem_cons.mp ((h z).mp (List.mem_cons_of_mem _ hz)) with e | e
      · have := a1 z hz
        rw [e, plt_irr] at this
        cases this
      · exact e
    · rcases List.mem_cons.mp ((h z).mpr (List.mem_cons_of_mem _ hz)) with e | e
      · have := b1 z hz
        rw [e, plt_irr] at this
        cases this
      · exact e
/-! ### promises -/
/-- tuples of texts -/
abbrev W3 := Addr × List Str
def WsT (H : Hp) (qs : List W3) : Prop := ∀ q ∈ qs, TupAt H q.1 (q.2.map V.str) ∧ q.2.length ≤ 900 ∧ ∀ x ∈ q.2, x.length ≤ 1000
theorem WsT.same {H H' : Hp} {qs : List W3} (s : Same H H') (h : WsT H qs) : WsT H' qs := fun q hq => ⟨(h q hq).1.same s, (h q hq).2⟩
def refsTx (qs : List W3) : List V := qs.map fun q => V.ref q.1
/-- what is told of a text: friends, or it is refused with it -/
def FriAt (H : Hp) (t : Addr) (T : Str) : Prop := ∃ qs : List W3, TupAt H t (refsTx qs) ∧ WsT H qs ∧ qs.map (·.2) = (wordsL T).map splitW
def lb (c : Nat) : Bool := decide (97 ≤ c) && decide (c ≤ 122)
theorem letter_lt {c : Nat} (h : c < 97) : (!decide (([c] : List Nat) < (("a" : Str)).cps.toList)) = false := by
  have e : (("a" : Str)).cps.toList = [97] := by decide +kernel
  rw [e, decide_eq_true (List.cons_lt_cons_iff.mpr (.inl h))]
  rfl
theorem letter_gt {c : Nat} (h : 122 < c) : (!decide ((("z" : Str)).cps.toList < ([c] : List Nat))) = false := by
  have e : (("z" : Str)).cps.toList = [122] := by decide +kernel
  rw [e, decide_eq_true (List.cons_lt_cons_iff.mpr (.inl h))]
  rfl
theorem nb_in {x : Str} (h1 : 1 ≤ x.length) (h2 : x.length ≤ 8) : nb x = (x.cps.toList.map lb).all id := by
  unfold nb
  rw [decide_eq_true h1, decide_eq_true h2, List.all_map]
  rfl
/-- what is told of each, gathered -/
theorem bools_map {α : Type} (f : α → Bool) (xs : List α) : (xs.map fun x => V.bl (f x)) = (xs.map f).map V.bl := by rw [List.map_map]; rfl
theorem nodupLen2 : ∀ {line us : List Str}, us.Nodup → (∀ y ∈ line, y ∈ us) → line.length ≤ us.length → (∀ y ∈ us, y ∈ line) → line.Nodup
  | [], _, _, _, _, _ => List.nodup_nil
  | x :: l, us, nu, h, le, hb => by
    have hx := h x List.mem_cons_self
    have e := nu.erase x
    have me : ∀ y, y ∈ us.erase x ↔ y ≠ x ∧ y ∈ us := fun y => nu.mem_erase_iff
    have le' : (us.erase x).length + 1 = us.length := by
      rw [List.length_erase_of_mem hx]
      have := List.length_pos_of_mem hx
      omega
    have nx : x ∉ l := fun z => by
      have s1 : ∀ y ∈ us, y ∈ l := fun y hy => by
        rcases List.mem_cons.mp (hb y hy) with q | q
        · subst q; exact z
        · exact q
      have := nd_len us l nu s1
      have : (x :: l).length = l.length + 1 := rfl
      omega
    refine List.nodup_cons.mpr ⟨nx, nodupLen2 e (fun y hy => (me y).mpr ⟨fun q => nx (q ▸ hy), h y (List.mem_cons_of_mem _ hy)⟩) ?_ fun y hy => ?_⟩
    · have : (x :: l).length = l.length + 1 := rfl
      omega
    · rcases List.mem_cons.mp (hb y ((me y).mp hy).2) with q | q
      · exact absurd q ((me y).mp hy).1
      · exact q
theorem set_len {us xs : List Str} (nu : us.Nodup) (mu : ∀ y, y ∈ us ↔ y ∈ xs) : decide (V.int (us.length : Nat) = V.int (xs.length : Nat)) = decide xs.Nodup := by
  by_cases h : xs.Nodup
  · have l1 := nd_len us xs nu fun x hx => (mu x).mp hx
    have l2 := nd_len xs us h fun x hx => (mu x).mpr hx
    rw [decide_eq_true h, decide_eq_true (by rw [show us.length = xs.length by omega])]
  · rw [decide_eq_false h]
    refine decide_eq_false fun e => ?_
    have e' := V.int.inj e
    exact h (nodupLen2 nu (fun y hy => (mu y).mpr hy) (by omega) fun y hy => (mu y).mp hy)
section
variable {X : Cx}
end
theorem FriAt.same {H H' : Hp} {t : Addr} {T : Str} (s : Same H H') (h : FriAt H t T) : FriAt H' t T := by
  obtain ⟨qs, h1, h2, h3⟩ := h
  exact ⟨qs, h1.same s, h2.same s, h3⟩
/-- what is due: friends, or the text in a list -/
def DueF (H : Hp) (v : V) (T : Str) : Prop := (frB T = true ∧ ∃ t, v = .ref t ∧ FriAt H t T) ∨ (frB T = false ∧ ∃ l, v = .ref l ∧ H l = some (.lst [.str T]))
def DueR (H : Hp) (v : V) (T : Str) : Prop := (rowB (wordsL T) = true ∧ ∃ t, v = .ref t ∧ TupAt H t ((wordsL T).map V.str)) ∨ (rowB (wordsL T) = false ∧ ∃ l, v = .ref l ∧ H l = some (.lst [.str T]))
theorem DueF.same {H H' : Hp} {v : V} {T : Str} (s : Same H H') (h : DueF H v T) : DueF H' v T :=
  h.imp (fun ⟨e, t, z, f⟩ => ⟨e, t, z, f.same s⟩) fun ⟨e, l, z, f⟩ => ⟨e, l, z, s _ _ f⟩
theorem DueR.same {H H' : Hp} {v : V} {T : Str} (s : Same H H') (h : DueR H v T) : DueR H' v T :=
  h.imp (fun ⟨e, t, z, f⟩ => ⟨e, t, z, f.same s⟩) fun ⟨e, l, z, f⟩ => ⟨e, l, z, s _ _ f⟩
section
variable {J : It} {n : Nat} {G : Hp → Prop} {Y : Nat → Hp → V → Hp → Prop} {g : TG} {te : TE} {vs : List Nat} {σ : L2.St} {H1 : Hp} {D : Addr} {Qd : Hp → Prop}
end
/-- due, or none -/
def NotF (H : Hp) (v : V) (T : Str) : Prop := (frB T = true ∧ ∃ t, v = .ref t ∧ FriAt H t T) ∨ (frB T = false ∧ v = .non)
def NotR (H : Hp) (v : V) (T : Str) : Prop := (rowB (wordsL T) = true ∧ ∃ t, v = .ref t ∧ TupAt H t ((wordsL T).map V.str)) ∨ (rowB (wordsL T) = false ∧ v = .non)
theorem NotF.same {H H' : Hp} {v : V} {T : Str} (s : Same H H') (h : NotF H v T) : NotF H' v T := h.imp (fun ⟨e, t, z, f⟩ => ⟨e, t, z, f.same s⟩) id
theorem NotR.same {H H' : Hp} {v : V} {T : Str} (s : Same H H') (h : NotR H v T) : NotR H' v T := h.imp (fun ⟨e, t, z, f⟩ => ⟨e, t, z, f.same s⟩) id
/-- the two that are due; the list that gathers them is another -/
def CDue (D : Addr) (T : Str) (i : Nat) (y : V) (H : Hp) : Prop := (∀ l, y = .ref l → l ≠ D) ∧ (i = 0 → DueF H y T) ∧ (i = 1 → DueR H y T)
theorem CDue.same {D : Addr} {T : Str} {i : Nat} {y : V} {H H' : Hp} (s : Same H H') (h : CDue D T i y H) : CDue D T i y H' := ⟨h.1, fun e => (h.2.1 e).same s, fun e => (h.2.2 e).same s⟩
end Lk
set_option maxRecDepth 100000
set_option maxHeartbeats 4000000
namespace Lk
open PySem PySem.Spec PyProof.Rows L2
/-! ### things of any shape: atoms, lists and tuples of them, nested; bad: where none of it lies -/
mutual
def Tr (bad : Addr → Prop) (H : Hp) : PyData → V → Prop
  | .none, v => v = .non
  | .bool c, v => v = .bl c
  | .int i, v => v = .int i
  | .str s, v => v = .str s
  | .list ds, v => ∃ a xs, v = .ref a ∧ ¬ bad a ∧ H a = some (.lst xs) ∧ TrAll bad H ds xs
  | .tuple ds, v => ∃ a xs, v = .ref a ∧ ¬ bad a ∧ TupX H a xs ∧ TrAll bad H ds xs
  | .dict _, _ => False
def TrAll (bad : Addr → Prop) (H : Hp) : List PyData → List V → Prop
  | [], xs => xs = []
  | d :: ds, xs => ∃ x r, xs = x :: r ∧ Tr bad H d x ∧ TrAll bad H ds r
end
theorem TupX.keep {H H' : Hp} {a : Addr} {xs : List V} (k : ∀ o, H a = some o → H' a = some o) (h : TupX H a xs) : TupX H' a xs := by
  rcases h with h | ⟨o, h1, h2⟩
  · exact .inl (k _ h)
  · exact .inr ⟨o, h1, k _ h2⟩
mutual
theorem Tr.keep {bad : Addr → Prop} {H H' : Hp} (k : ∀ a o, ¬ bad a → H a = some o → H' a = some o) : ∀ {d : PyData} {v : V}, Tr bad H d v → Tr bad H' d v
  | .none, _, h => by simpa only [Tr] using h
  | .bool _, _, h => by simpa only [Tr] using h
  | .int _, _, h => by simpa only [Tr] using h
  | .str _, _, h => by simpa only [Tr] using h
  | .list ds, v, h => by
    simp only [Tr] at h ⊢
    obtain ⟨a, xs, e, n, h1, h2⟩ := h
    exact ⟨a, xs, e, n, k _ _ n h1, TrAll.keep k h2⟩
  | .tuple ds, v, h => by
    simp only [Tr] at h ⊢
    obtain ⟨a, xs, e, n, h1, h2⟩ := h
    exact ⟨a, xs, e, n, h1.keep fun o => k _ o n, TrAll.keep k h2⟩
  | .dict _, _, h => by simp only [Tr] at h
theorem TrAll.keep {bad : Addr → Prop} {H H' : Hp} (k : ∀ a o, ¬ bad a → H a = some o → H' a = some o) : ∀ {ds : List PyData} {xs : List V}, TrAll bad H ds xs → TrAll bad H' ds xs
  | [], _, h => by simpa only [TrAll] using h
  | d :: ds, xs, h => by
    simp only [TrAll] at h ⊢
    obtain ⟨x, r, e, h1, h2⟩ := h
    exact ⟨x, r, e, Tr.keep k h1, TrAll.keep k h2⟩
end
theorem Tr.same {bad : Addr → Prop} {H H' : Hp} {d : PyData} {v : V} (s : Same H H') (h : Tr bad H d v) : Tr bad H' d v := h.keep fun a o _ e => s a o e
theorem Tr.oth {bad : Addr → Prop} {b : Addr} {H H' : Hp} {d : PyData} {v : V} (o : Oth b H H') (hb : bad b) (h : Tr bad H d v) : Tr bad H' d v := h.keep fun a u n e => o a u (fun z => n (z ▸ hb)) e
theorem TrAll.same {bad : Addr → Prop} {H H' : Hp} {ds : List PyData} {xs : List V} (s : Same H H') (h : TrAll bad H ds xs) : TrAll bad H' ds xs := h.keep fun a o _ e => s a o e
theorem TrAll.oth {bad : Addr → Prop} {b : Addr} {H H' : Hp} {ds : List PyData} {xs : List V} (o : Oth b H H') (hb : bad b) (h : TrAll bad H ds xs) : TrAll bad H' ds xs := h.keep fun a u n e => o a u (fun z => n (z ▸ hb)) e
mutual
theorem Tr.mono {bad bad' : Addr → Prop} {H : Hp} (k : ∀ a, bad a → bad' a) : ∀ {d : PyData} {v : V}, Tr bad' H d v → Tr bad H d v
  | .none, _, h => by simpa only [Tr] using h
  | .bool _, _, h => by simpa only [Tr] using h
  | .int _, _, h => by simpa only [Tr] using h
  | .str _, _, h => by simpa only [Tr] using h
  | .list ds, v, h => by
    simp only [Tr] at h ⊢
    obtain ⟨a, xs, e, n, h1, h2⟩ := h
    exact ⟨a, xs, e, fun z => n (k _ z), h1, TrAll.mono k h2⟩
  | .tuple ds, v, h => by
    simp only [Tr] at h ⊢
    obtain ⟨a, xs, e, n, h1, h2⟩ := h
    exact ⟨a, xs, e, fun z => n (k _ z), h1, TrAll.mono k h2⟩
  | .dict _, _, h => by simp only [Tr] at h
theorem TrAll.mono {bad bad' : Addr → Prop} {H : Hp} (k : ∀ a, bad a → bad' a) : ∀ {ds : List PyData} {xs : List V}, TrAll bad' H ds xs → TrAll bad H ds xs
  | [], _, h => by simpa only [TrAll] using h
  | d :: ds, xs, h => by
    simp only [TrAll] at h ⊢
    obtain ⟨x, r, e, h1, h2⟩ := h
    exact ⟨x, r, e, Tr.mono k h1, TrAll.mono k h2⟩
end
mutual
/-- an address that comes later, or of which nothing was said, is none of a thing that lies there -/
theorem Tr.put {bad : Addr → Prop} {H : Hp} {s : Addr} (hs : H s = none) : ∀ {d : PyData} {v : V}, Tr bad H d v → Tr (fun a => bad a ∨ a = s) H d v
  | .none, _, h => by simpa only [Tr] using h
  | .bool _, _, h => by simpa only [Tr] using h
  | .int _, _, h => by simpa only [Tr] using h
  | .str _, _, h => by simpa only [Tr] using h
  | .list ds, v, h => by
    simp only [Tr] at h ⊢
    obtain ⟨a, xs, e, n, h1, h2⟩ := h
    exact ⟨a, xs, e, fun z => z.elim n fun z => (ne_of_none h1 hs) z, h1, TrAll.put hs h2⟩
  | .tuple ds, v, h => by
    simp only [Tr] at h ⊢
    obtain ⟨a, xs, e, n, h1, h2⟩ := h
    refine ⟨a, xs, e, fun z => z.elim n fun z => ?_, h1, TrAll.put hs h2⟩
    subst z
    rcases h1 with h1 | ⟨o, _, h1⟩ <;> rw [hs] at h1 <;> cases h1
  | .dict _, _, h => by simp only [Tr] at h
theorem TrAll.put {bad : Addr → Prop} {H : Hp} {s : Addr} (hs : H s = none) : ∀ {ds : List PyData} {xs : List V}, TrAll bad H ds xs → TrAll (fun a => bad a ∨ a = s) H ds xs
  | [], _, h => by simpa only [TrAll] using h
  | d :: ds, xs, h => by
    simp only [TrAll] at h ⊢
    obtain ⟨x, r, e, h1, h2⟩ := h
    exact ⟨x, r, e, Tr.put hs h1, TrAll.put hs h2⟩
end
mutual
theorem Tr.dp {K : PySem.W.Frag} {bad : Addr → Prop} {H : Hp} : ∀ {d : PyData} {v : V}, Tr bad H d v → Dp K H v d
  | .none, _, h => by simp only [Tr] at h; subst h; exact .non
  | .bool _, _, h => by simp only [Tr] at h; subst h; exact .bl _
  | .int _, _, h => by simp only [Tr] at h; subst h; exact .int _
  | .str _, _, h => by simp only [Tr] at h; subst h; exact .str _
  | .list ds, v, h => by
    simp only [Tr] at h
    obtain ⟨a, xs, rfl, n, h1, h2⟩ := h
    exact .lst (.inl (.inl h1)) (TrAll.dp h2)
  | .tuple ds, v, h => by
    simp only [Tr] at h
    obtain ⟨a, xs, rfl, n, h1, h2⟩ := h
    exact .tup (h1.elim (fun e => .inl (.inl e)) fun e => e.sq) (TrAll.dp h2)
  | .dict _, _, h => by simp only [Tr] at h
theorem TrAll.dp {K : PySem.W.Frag} {bad : Addr → Prop} {H : Hp} : ∀ {ds : List PyData} {xs : List V}, TrAll bad H ds xs → DpAll K H xs ds
  | [], _, h => by simp only [TrAll] at h; subst h; exact .nil
  | d :: ds, xs, h => by
    simp only [TrAll] at h
    obtain ⟨x, r, rfl, h1, h2⟩ := h
    exact .cons (Tr.dp h1) (TrAll.dp h2)
end
/-! ### lists of things -/
section
variable {bad : Addr → Prop} {H : Hp}
theorem TrAll.len : ∀ {ds : List PyData} {xs : List V}, TrAll bad H ds xs → xs.length = ds.length
  | [], _, h => by simp only [TrAll] at h; subst h; rfl
  | d :: ds, xs, h => by
    simp only [TrAll] at h
    obtain ⟨x, r, rfl, h1, h2⟩ := h
    rw [List.length_cons, List.length_cons, h2.len]
theorem TrAll.nil : TrAll bad H [] [] := by simp only [TrAll]
theorem TrAll.cons {d : PyData} {ds : List PyData} {x : V} {r : List V} (h1 : Tr bad H d x) (h2 : TrAll bad H ds r) : TrAll bad H (d :: ds) (x :: r) := by
  simp only [TrAll]
  exact ⟨x, r, rfl, h1, h2⟩
theorem trAll_iff : ∀ {ds : List PyData} {xs : List V}, TrAll bad H ds xs ↔ xs.length = ds.length ∧ ∀ (i : Nat) (d : PyData) (x : V), ds[i]? = some d → xs[i]? = some x → Tr bad H d x
  | [], xs => ⟨fun h => ⟨h.len, fun i d x e => by simp at e⟩, fun h => by rw [List.length_eq_zero_iff.mp h.1]; exact .nil⟩
  | d :: ds, [] => ⟨fun h => absurd h.len (by simp), fun h => absurd h.1 (by simp)⟩
  | d :: ds, x :: r => by
    constructor
    · intro h
      simp only [TrAll] at h
      obtain ⟨x', r', e, h1, h2⟩ := h
      cases e
      obtain ⟨l, k⟩ := trAll_iff.mp h2
      refine ⟨by rw [List.length_cons, List.length_cons, l], fun i d' x' e1 e2 => ?_⟩
      cases i with
      | zero => cases e1; cases e2; exact h1
      | succ i => exact k i d' x' e1 e2
    · rintro ⟨l, k⟩
      exact .cons (k 0 d x rfl rfl) (trAll_iff.mpr ⟨by simpa using l, fun i d' x' e1 e2 => k (i + 1) d' x' e1 e2⟩)
theorem TrAll.get {ds : List PyData} {xs : List V} (h : TrAll bad H ds xs) {i : Nat} (hi : i < ds.length) : ∃ d x, ds[i]? = some d ∧ xs[i]? = some x ∧ Tr bad H d x := by
  have l := h.len
  exact ⟨_, _, List.getElem?_eq_getElem hi, List.getElem?_eq_getElem (by omega), (trAll_iff.mp h).2 i _ _ (List.getElem?_eq_getElem hi) (List.getElem?_eq_getElem (by omega))⟩
theorem TrAll.app : ∀ {ds es : List PyData} {xs ys : List V}, TrAll bad H ds xs → TrAll bad H es ys → TrAll bad H (ds ++ es) (xs ++ ys)
  | [], es, xs, ys, h, k => by
    simp only [TrAll] at h
    subst h
    exact k
  | d :: ds, es, xs, ys, h, k => by
    simp only [TrAll] at h
    obtain ⟨x, r, rfl, h1, h2⟩ := h
    exact .cons h1 (h2.app k)
theorem TrAll.take {ds : List PyData} {xs : List V} (h : TrAll bad H ds xs) (n : Nat) : TrAll bad H (ds.take n) (xs.take n) := by
  obtain ⟨l, k⟩ := trAll_iff.mp h
  refine trAll_iff.mpr ⟨by rw [List.length_take, List.length_take, l], fun i d x e1 e2 => ?_⟩
  rw [List.getElem?_take] at e1 e2
  split at e1
  · rename_i c
    rw [if_pos c] at e2
    exact k i d x e1 e2
  · cases e1
theorem TrAll.drop {ds : List PyData} {xs : List V} (h : TrAll bad H ds xs) (n : Nat) : TrAll bad H (ds.drop n) (xs.drop n) := by
  obtain ⟨l, k⟩ := trAll_iff.mp h
  refine trAll_iff.mpr ⟨by rw [List.length_drop, List.length_drop, l], fun i d x e1 e2 => ?_⟩
  rw [List.getElem?_drop] at e1 e2
  exact k _ d x e1 e2
theorem TrAll.rev : ∀ {ds : List PyData} {xs : List V}, TrAll bad H ds xs → TrAll bad H ds.reverse xs.reverse
  | [], xs, h => by
    simp only [TrAll] at h
    subst h
    exact .nil
  | d :: ds, xs, h => by
    simp only [TrAll] at h
    obtain ⟨x, r, rfl, h1, h2⟩ := h
    rw [List.reverse_cons, List.reverse_cons]
    exact h2.rev.app (.cons h1 .nil)
theorem TrAll.set {ds : List PyData} {xs : List V} (h : TrAll bad H ds xs) (i : Nat) {d : PyData} {x : V} (hx : Tr bad H d x) : TrAll bad H (ds.set i d) (xs.set i x) := by
  obtain ⟨l, k⟩ := trAll_iff.mp h
  refine trAll_iff.mpr ⟨by rw [List.length_set, List.length_set, l], fun j d' x' e1 e2 => ?_⟩
  rw [List.getElem?_set] at e1 e2
  by_cases c : i = j
  · subst c
    rw [if_pos rfl] at e1 e2
    split at e1
    · split at e2
      · cases e1
        cases e2
        exact hx
      · cases e2
    · cases e1
  · rw [if_neg c] at e1 e2
    exact k j d' x' e1 e2
theorem TrAll.strs (xs : List Str) : TrAll bad H (xs.map .str) (xs.map V.str) := by
  induction xs with
  | nil => exact .nil
  | cons x r ih => exact .cons (by simp only [Tr]) ih
end
/-! ### how large a thing may be -/
structure Okd (n w : Nat) (d : PyData) : Prop where
  fit : Fit n w d
  lay : d.canLay0 = true
def OkL (n w : Nat) (ds : List PyData) : Prop := (∀ d ∈ ds, Okd n w d) ∧ PyData.weightAll ds ≤ w
theorem Okd.mono {n w n' w' : Nat} {d : PyData} (h : Okd n w d) (h1 : n ≤ n') (h2 : w ≤ w') : Okd n' w' d := ⟨h.fit.mono h1 h2, h.lay⟩
theorem OkL.mono {n w n' w' : Nat} {ds : List PyData} (h : OkL n w ds) (h1 : n ≤ n') (h2 : w ≤ w') : OkL n' w' ds := ⟨fun d hd => (h.1 d hd).mono h1 h2, Nat.le_trans h.2 h2⟩
theorem okAll {n w : Nat} : ∀ {ds : List PyData}, (∀ d ∈ ds, Okd n w d) → PyData.showableAll ds = true ∧ PyData.hasDictAll ds = false ∧ PyData.depthAll ds ≤ n ∧ PyData.leavesShortAll 13 ds = true ∧ PyData.canLayAll0 ds = true
  | [], _ => ⟨by simp only [PyData.showableAll], by simp only [PyData.hasDictAll], by simp only [PyData.depthAll]; exact Nat.zero_le _, by simp only [PyData.leavesShortAll], by simp only [PyData.canLayAll0]⟩
  | d :: ds, h => by
    obtain ⟨i1, i2, i3, i4, i5⟩ := okAll (ds := ds) fun e he => h e (List.mem_cons_of_mem _ he)
    have f := h d List.mem_cons_self
    refine ⟨?_, ?_, ?_, ?_, ?_⟩
    · simp only [PyData.showableAll, f.fit.sh, i1, Bool.and_self]
    · simp only [PyData.hasDictAll, f.fit.nd, i2, Bool.or_self]
    · simp only [PyData.depthAll]
      exact Nat.max_le.mpr ⟨f.fit.dp, i3⟩
    · simp only [PyData.leavesShortAll, f.fit.lv, i4, Bool.and_self]
    · simp only [PyData.canLayAll0, f.lay, i5, Bool.and_self]
theorem okd_list {n w : Nat} {ds : List PyData} (h : OkL n w ds) : Okd (n + 1) w (.list ds) := by
  obtain ⟨i1, i2, i3, i4, i5⟩ := okAll h.1
  exact ⟨⟨by simp only [PyData.showable, i1], by simp only [PyData.hasDict, i2], by simp only [PyData.depth]; omega, by simp only [PyData.leavesShort, i4], by simp only [PyData.weight]; exact h.2⟩, by simp only [PyData.canLay0, i5]⟩
theorem okd_tuple {n w : Nat} {ds : List PyData} (h : OkL n w ds) : Okd (n + 1) w (.tuple ds) := by
  obtain ⟨i1, i2, i3, i4, i5⟩ := okAll h.1
  exact ⟨⟨by simp only [PyData.showable, i1], by simp only [PyData.hasDict, i2], by simp only [PyData.depth]; omega, by simp only [PyData.leavesShort, i4], by simp only [PyData.weight]; exact h.2⟩, by simp only [PyData.canLay0, i5]⟩
theorem okAll_inv {n : Nat} : ∀ {ds : List PyData}, PyData.showableAll ds = true → PyData.hasDictAll ds = false → PyData.depthAll ds ≤ n → PyData.leavesShortAll 13 ds = true → PyData.canLayAll0 ds = true → ∀ d ∈ ds, Okd n (PyData.weightAll ds) d
  | [], _, _, _, _, _ => fun _ h => nomatch h
  | d :: ds, h1, h2, h3, h4, h5 => by
    simp only [PyData.showableAll, Bool.and_eq_true] at h1
    simp only [PyData.hasDictAll, Bool.or_eq_false_iff] at h2
    simp only [PyData.depthAll] at h3
    simp only [PyData.leavesShortAll, Bool.and_eq_true] at h4
    simp only [PyData.canLayAll0, Bool.and_eq_true] at h5
    have h3' := Nat.max_le.mp h3
    intro e he
    simp only [PyData.weightAll]
    rcases List.mem_cons.mp he with z | z
    · subst z
      exact ⟨⟨h1.1, h2.1, h3'.1, h4.1, by omega⟩, h5.1⟩
    · exact (okAll_inv h1.2 h2.2 h3'.2 h4.2 h5.2 e z).mono (Nat.le_refl _) (by omega)
theorem okd_items {n w : Nat} {ds : List PyData} (h : Okd (n + 1) w (.list ds) ∨ Okd (n + 1) w (.tuple ds)) : OkL n w ds := by
  rcases h with h | h
  all_goals
    obtain ⟨⟨a1, a2, a3, a4, a5⟩, a6⟩ := h
    simp only [PyData.showable] at a1
    simp only [PyData.hasDict] at a2
    simp only [PyData.depth] at a3
    simp only [PyData.leavesShort] at a4
    simp only [PyData.weight] at a5
    simp only [PyData.canLay0] at a6
    exact ⟨fun d hd => (okAll_inv a1 a2 (by omega) a4 a6 d hd).mono (Nat.le_refl _) a5, a5⟩
theorem okd_deep {n w : Nat} {ds : List PyData} (h : Okd n w (.list ds) ∨ Okd n w (.tuple ds)) : ∃ m, n = m + 1 := by
  rcases h with h | h
  all_goals
    have a := h.fit.dp
    simp only [PyData.depth] at a
    exact ⟨n - 1, by omega⟩
theorem weight_len : ∀ ds : List PyData, ds.length ≤ PyData.weightAll ds
  | [] => Nat.zero_le _
  | d :: ds => by
    have := weight_len ds
    simp only [PyData.weightAll, List.length_cons]
    omega
theorem weight_app : ∀ as bs : List PyData, PyData.weightAll (as ++ bs) = PyData.weightAll as + PyData.weightAll bs
  | [], bs => by simp only [List.nil_append, PyData.weightAll]; omega
  | a :: as, bs => by
    have := weight_app as bs
    simp only [List.cons_append, PyData.weightAll]
    omega
theorem weight_mem : ∀ {ds : List PyData} {d : PyData}, d ∈ ds → d.weight + 1 ≤ PyData.weightAll ds
  | [], _, h => nomatch h
  | e :: ds, d, h => by
    simp only [PyData.weightAll]
    rcases List.mem_cons.mp h with z | z
    · rw [z]
      omega
    · have := weight_mem z
      omega
theorem weight_set_at : ∀ (ds : List PyData) (i : Nat) (d e : PyData), ds[i]? = some e → PyData.weightAll (ds.set i d) + e.weight = PyData.weightAll ds + d.weight
  | [], _, _, _, h => by simp at h
  | e :: ds, 0, d, e', h => by
    cases h
    simp only [List.set_cons_zero, PyData.weightAll]
    omega
  | e :: ds, i + 1, d, e', h => by
    have := weight_set_at ds i d e' h
    simp only [List.set_cons_succ, PyData.weightAll]
    omega
theorem weight_rev (ds : List PyData) : PyData.weightAll ds.reverse = PyData.weightAll ds := by
  induction ds with
  | nil => rfl
  | cons d ds ih =>
    rw [List.reverse_cons, weight_app, ih]
    simp only [PyData.weightAll]
    omega
theorem weight_cut (ds : List PyData) (n : Nat) : PyData.weightAll (ds.take n) + PyData.weightAll (ds.drop n) = PyData.weightAll ds := by
  rw [← weight_app, List.take_append_drop]
theorem okd_none {n w : Nat} : Okd n w .none := ⟨fit_none.mono (Nat.zero_le _) (Nat.zero_le _), by simp only [PyData.canLay0]⟩
theorem okd_bool {n w : Nat} (b : Bool) : Okd n w (.bool b) := ⟨(fit_bool b).mono (Nat.zero_le _) (Nat.zero_le _), by simp only [PyData.canLay0]⟩
theorem okd_int {n w : Nat} {i : Int} (h : i.natAbs < 10 ^ 12) (hw : 40 ≤ w) : Okd n w (.int i) := ⟨(fit_int h).mono (Nat.zero_le _) hw, by simp only [PyData.canLay0]⟩
theorem okd_str {n w : Nat} {x : Str} (h : Good x) (hw : x.length ≤ w) : Okd n w (.str x) := ⟨(fit_str h (Nat.le_refl _)).mono (Nat.zero_le _) hw, by simp only [PyData.canLay0]; exact h⟩
/-! ### of what kind it is -/
def kOf : PyData → String
  | .none => "NoneType"
  | .bool _ => "bool"
  | .int _ => "int"
  | .str _ => "str"
  | .list _ => "list"
  | .tuple _ => "tuple"
  | .dict _ => "dict"
def isL : PyData → Bool
  | .list _ => true
  | _ => false
def isT : PyData → Bool
  | .tuple _ => true
  | _ => false
def isS : PyData → Bool
  | .str _ => true
  | _ => false
theorem Tr.ty {K : PySem.W.Frag} {bad : Addr → Prop} {H : Hp} : ∀ {d : PyData} {v : V}, Tr bad H d v → TyX K H v (.type (kOf d))
  | .none, _, h => by simp only [Tr] at h; subst h; exact .base .non
  | .bool _, _, h => by simp only [Tr] at h; subst h; exact .base (.bl _)
  | .int _, _, h => by simp only [Tr] at h; subst h; exact .base (.int _)
  | .str _, _, h => by simp only [Tr] at h; subst h; exact .base (.str _)
  | .list ds, v, h => by
    simp only [Tr] at h
    obtain ⟨a, xs, rfl, n, h1, h2⟩ := h
    exact .base (.lst h1)
  | .tuple ds, v, h => by
    simp only [Tr] at h
    obtain ⟨a, xs, rfl, n, h1, h2⟩ := h
    exact h1.ty
  | .dict _, _, h => by simp only [Tr] at h
theorem isi_L {K : PySem.W.Frag} : ∀ d : PyData, PySem.W.kitOne K (.type (kOf d)) (.type "list") = some (isL d)
  | .none => kit_ty (a := "NoneType") (b := "list") (r := false) (by decide +kernel)
  | .bool _ => kit_ty (a := "bool") (b := "list") (r := false) (by decide +kernel)
  | .int _ => kit_ty (a := "int") (b := "list") (r := false) (by decide +kernel)
  | .str _ => kit_ty (a := "str") (b := "list") (r := false) (by decide +kernel)
  | .list _ => kit_ty (a := "list") (b := "list") (r := true) (by decide +kernel)
  | .tuple _ => kit_ty (a := "tuple") (b := "list") (r := false) (by decide +kernel)
  | .dict _ => kit_ty (a := "dict") (b := "list") (r := false) (by decide +kernel)
theorem isi_T {K : PySem.W.Frag} : ∀ d : PyData, PySem.W.kitOne K (.type (kOf d)) (.type "tuple") = some (isT d)
  | .none => kit_ty (a := "NoneType") (b := "tuple") (r := false) (by decide +kernel)
  | .bool _ => kit_ty (a := "bool") (b := "tuple") (r := false) (by decide +kernel)
  | .int _ => kit_ty (a := "int") (b := "tuple") (r := false) (by decide +kernel)
  | .str _ => kit_ty (a := "str") (b := "tuple") (r := false) (by decide +kernel)
  | .list _ => kit_ty (a := "list") (b := "tuple") (r := false) (by decide +kernel)
  | .tuple _ => kit_ty (a := "tuple") (b := "tuple") (r := true) (by decide +kernel)
  | .dict _ => kit_ty (a := "dict") (b := "tuple") (r := false) (by decide +kernel)
theorem isi_S {K : PySem.W.Frag} : ∀ d : PyData, PySem.W.kitOne K (.type (kOf d)) (.type "str") = some (isS d)
  | .none => kit_ty (a := "NoneType") (b := "str") (r := false) (by decide +kernel)
  | .bool _ => kit_ty (a := "bool") (b := "str") (r := false) (by decide +kernel)
  | .int _ => kit_ty (a := "int") (b := "str") (r := false) (by decide +kernel)
  | .str _ => kit_ty (a := "str") (b := "str") (r := true) (by decide +kernel)
  | .list _ => kit_ty (a := "list") (b := "str") (r := false) (by decide +kernel)
  | .tuple _ => kit_ty (a := "tuple") (b := "str") (r := false) (by decide +kernel)
  | .dict _ => kit_ty (a := "dict") (b := "str") (r := false) (by decide +kernel)
theorem isi_LT {K : PySem.W.Frag} (d : PyData) : PySem.W.kitAny K (.type (kOf d)) [.type "list", .type "tuple"] = some (isL d || isT d) := by
  refine kitAny_cons (isi_L d) (fun e => ?_) (fun e => by rw [e]; rfl)
  rw [e, Bool.false_or]
  exact kitAny_cons (isi_T d) (fun e => by rw [e]; exact kitAny_nil) (fun e => e)
/-- a list or a tuple, with its items -/
theorem Tr.items {bad : Addr → Prop} {H : Hp} : ∀ {d : PyData} {v : V}, (isL d || isT d) = true → Tr bad H d v → ∃ ds a xs, (d = .list ds ∨ d = .tuple ds) ∧ v = .ref a ∧ ¬ bad a ∧ (H a = some (.lst xs) ∨ TupX H a xs) ∧ TrAll bad H ds xs
  | .list ds, v, _, h => by
    simp only [Tr] at h
    obtain ⟨a, xs, rfl, n, h1, h2⟩ := h
    exact ⟨ds, a, xs, .inl rfl, rfl, n, .inl h1, h2⟩
  | .tuple ds, v, _, h => by
    simp only [Tr] at h
    obtain ⟨a, xs, rfl, n, h1, h2⟩ := h
    exact ⟨ds, a, xs, .inr rfl, rfl, n, .inr h1, h2⟩
  | .none, _, e, _ => nomatch e
  | .bool _, _, e, _ => nomatch e
  | .int _, _, e, _ => nomatch e
  | .str _, _, e, _ => nomatch e
  | .dict _, _, e, _ => nomatch e
theorem seq_sq {K : PySem.W.Frag} {H : Hp} {a : Addr} {xs : List V} (h : H a = some (.lst xs) ∨ TupX H a xs) : SqL K H a xs ∨ SqT K H a xs := h.elim (fun e => .inl (.inl (.inl e))) fun e => .inr e.sq
def lenD : PyData → Nat
  | .list ds => ds.length
  | .tuple ds => ds.length
  | _ => 0
mutual
/-- the most items on any level -/
def widD : PyData → Nat
  | .list ds => max ds.length (widAll ds)
  | .tuple ds => max ds.length (widAll ds)
  | .none => 0
  | .bool _ => 0
  | .int _ => 0
  | .str _ => 0
  | .dict _ => 0
def widAll : List PyData → Nat
  | [] => 0
  | d :: ds => max (widD d) (widAll ds)
end
theorem widAll_le {n : Nat} : ∀ {ds : List PyData}, (∀ d ∈ ds, widD d ≤ n) → widAll ds ≤ n
  | [], _ => by simp only [widAll]; exact Nat.zero_le _
  | d :: ds, h => by
    simp only [widAll]
    exact Nat.max_le.mpr ⟨h d List.mem_cons_self, widAll_le fun e he => h e (List.mem_cons_of_mem _ he)⟩
theorem widAll_mem : ∀ {ds : List PyData} {d : PyData}, d ∈ ds → widD d ≤ widAll ds
  | [], _, h => nomatch h
  | e :: ds, d, h => by
    simp only [widAll]
    rcases List.mem_cons.mp h with z | z
    · rw [z]
      exact Nat.le_max_left _ _
    · exact Nat.le_trans (widAll_mem z) (Nat.le_max_right _ _)
theorem wid_of {n : Nat} {d : PyData} {ds : List PyData} (e : d = .list ds ∨ d = .tuple ds) (h1 : ds.length ≤ n) (h2 : ∀ c ∈ ds, widD c ≤ n) : widD d ≤ n := by
  rcases e with e | e <;> subst e <;> simp only [widD] <;> exact Nat.max_le.mpr ⟨h1, widAll_le h2⟩
theorem wid_len {d : PyData} {ds : List PyData} (e : d = .list ds ∨ d = .tuple ds) : ds.length ≤ widD d := by
  rcases e with e | e <;> subst e <;> simp only [widD] <;> exact Nat.le_max_left _ _
theorem wid_item {d c : PyData} {ds : List PyData} (e : d = .list ds ∨ d = .tuple ds) (h : c ∈ ds) : widD c ≤ widD d := by
  rcases e with e | e <;> subst e <;> simp only [widD] <;> exact Nat.le_trans (widAll_mem h) (Nat.le_max_right _ _)
/-! ### what a thing is bent to -/
theorem old_oth {bad : Addr → Prop} {b : Addr} {H H' : Hp} (old : ∀ a, bad a → H a ≠ none) (o : Oth b H H') (hb : IsBox H' b) : ∀ a, bad a → H' a ≠ none := fun a h z => by
  by_cases e : a = b
  · obtain ⟨_, _, _, hb⟩ := hb
    rw [← e, z] at hb
    cases hb
  · obtain ⟨u, hu⟩ := Option.ne_none_iff_exists'.mp (old a h)
    rw [o a u e hu] at z
    cases z
theorem old_new {bad : Addr → Prop} {H : Hp} {s : Addr} (old : ∀ a, bad a → H a ≠ none) (h : H s = none) : ¬ bad s := fun z => old s z h
theorem tr_str {bad : Addr → Prop} {H : Hp} (x : Str) : Tr bad H (.str x) (.str x) := by simp only [Tr]
theorem tr_tup {bad : Addr → Prop} {H : Hp} {t : Addr} {ds : List PyData} {xs : List V} (n : ¬ bad t) (h : TupX H t xs) (tx : TrAll bad H ds xs) : Tr bad H (.tuple ds) (.ref t) := by
  simp only [Tr]
  exact ⟨t, xs, rfl, n, h, tx⟩
theorem tr_lst {bad : Addr → Prop} {H : Hp} {t : Addr} {ds : List PyData} {xs : List V} (n : ¬ bad t) (h : H t = some (.lst xs)) (tx : TrAll bad H ds xs) : Tr bad H (.list ds) (.ref t) := by
  simp only [Tr]
  exact ⟨t, xs, rfl, n, h, tx⟩
theorem depth_mem : ∀ {ds : List PyData} {d : PyData}, d ∈ ds → d.depth ≤ PyData.depthAll ds
  | [], _, h => nomatch h
  | e :: ds, d, h => by
    simp only [PyData.depthAll]
    rcases List.mem_cons.mp h with z | z
    · rw [z]
      exact Nat.le_max_left _ _
    · exact Nat.le_trans (depth_mem z) (Nat.le_max_right _ _)
theorem depth_item {d e : PyData} {ds : List PyData} (h : d = .list ds ∨ d = .tuple ds) (m : e ∈ ds) : e.depth < d.depth := by
  have := depth_mem m
  rcases h with h | h <;> subst h <;> simp only [PyData.depth] <;> omega
theorem Okd.self {n w : Nat} {d : PyData} (h : Okd n w d) : Okd n d.weight d := ⟨⟨h.fit.sh, h.fit.nd, h.fit.dp, h.fit.lv, Nat.le_refl _⟩, h.lay⟩
theorem Okd.of {n w : Nat} {d : PyData} (h : Okd n w d) {w' : Nat} (hw : d.weight ≤ w') : Okd n w' d := h.self.mono (Nat.le_refl _) hw
theorem OkL.of {n w w' : Nat} {ds : List PyData} (h : ∀ d ∈ ds, Okd n w d) (hw : PyData.weightAll ds ≤ w') : OkL n w' ds := ⟨fun d hd => (h d hd).of (by have := weight_mem hd; omega), hw⟩
theorem ixN_k {n k : Nat} (h : k < n) : ixN n (k : Int) = some k := by
  unfold ixN
  rw [if_pos (by omega), if_pos (by omega)]
  simp
/-! ### the same by kind and value -/
def isI : PyData → Bool
  | .bool _ => true
  | .int _ => true
  | _ => false
theorem isi_I {K : PySem.W.Frag} : ∀ d : PyData, PySem.W.kitOne K (.type (kOf d)) (.type "int") = some (isI d)
  | .none => kit_ty (a := "NoneType") (b := "int") (r := false) (by decide +kernel)
  | .bool _ => kit_ty (a := "bool") (b := "int") (r := true) (by decide +kernel)
  | .int _ => kit_ty (a := "int") (b := "int") (r := true) (by decide +kernel)
  | .str _ => kit_ty (a := "str") (b := "int") (r := false) (by decide +kernel)
  | .list _ => kit_ty (a := "list") (b := "int") (r := false) (by decide +kernel)
  | .tuple _ => kit_ty (a := "tuple") (b := "int") (r := false) (by decide +kernel)
  | .dict _ => kit_ty (a := "dict") (b := "int") (r := false) (by decide +kernel)
open Classical in
theorem is_str {d : PyData} (h : isS d = true) : ∃ s, d = .str s := by cases d <;> simp_all [isS]
/-! ### deeds of any shape -/
def nmB : PyData → Bool
  | .str x => nb x
  | _ => false
def spIsNmD : Sp := fun vs H Q _ => ∃ (v : V) (bad : Addr → Prop) (d : PyData), vs = [v] ∧ Tr bad H d v ∧ d.weight ≤ 20000 ∧ ∀ H', Same H H' → Q (.bl (nmB d)) H'
theorem shaped_of {n w : Nat} {d : PyData} (h : Okd n w d) (hn : n ≤ 60) : SeqAt.shaped d = true := by
  unfold SeqAt.shaped
  rw [h.lay, Bool.true_and]
  exact decide_eq_true (by have := h.fit.dp; omega)
theorem TrAll.at {bad : Addr → Prop} {H : Hp} {ds : List PyData} {xs : List V} (h : TrAll bad H ds xs) {i : Nat} {d : PyData} {x : V} (e1 : ds[i]? = some d) (e2 : xs[i]? = some x) : Tr bad H d x := (trAll_iff.mp h).2 i d x e1 e2
theorem TrAll.strs_eq {bad : Addr → Prop} {H : Hp} : ∀ {l : List Str} {xs : List V}, TrAll bad H (l.map .str) xs → xs = l.map V.str
  | [], xs, h => by
    simp only [List.map_nil, TrAll] at h
    rw [h]
    rfl
  | x :: l, xs, h => by
    simp only [List.map_cons, TrAll] at h
    obtain ⟨y, r, rfl, h1, h2⟩ := h
    simp only [Tr] at h1
    rw [h1, h2.strs_eq]
    rfl
theorem range_map {α : Type} (f : α → Bool) (xs : List α) (g : Nat → Bool) (h : ∀ i x, xs[i]? = some x → g i = f x) : ((List.range xs.length).map g).all id = xs.all f := by
  rw [Bool.eq_iff_iff, List.all_eq_true, List.all_eq_true]
  constructor
  · intro k x hx
    obtain ⟨i, hi⟩ := List.getElem?_of_mem hx
    rw [← h i x hi]
    exact k _ (List.mem_map.mpr ⟨i, List.mem_range.mpr (List.getElem?_eq_some_iff.mp hi).1, rfl⟩)
  · intro k b hb
    obtain ⟨i, hi, rfl⟩ := List.mem_map.mp hb
    have hi := List.mem_range.mp hi
    show g i = true
    rw [h i _ (List.getElem?_eq_getElem hi)]
    exact k _ (List.getElem_mem hi)
end Lk
set_option maxRecDepth 100000
set_option maxHeartbeats 4000000
namespace Lk
open PySem PySem.Spec PyProof.Rows L2
/-! ### one clause of a comprehension, by what one turn of it does -/
/-! ### {k: v for .. in .. for .. in ..} -/
section
variable {kx vx t0 i0 t1 i1 : Expr} {f0 f1 : List Expr} {scope : Scope} {pos : Pos}
end
section
variable {X : Cx}
end
end Lk
set_option maxRecDepth 100000
set_option maxHeartbeats 4000000
namespace Lk
open PySem PySem.Spec PyProof.Rows L2
/-! ### a class of one's own: its objects, their methods -/
section
variable {X : Cx} {k n : Nat} {f C : Addr} {fd : FuncData} {ps : List Str} {sp : Sp} {x m : Str} {p pos apos : Pos} {o e : Expr} {es : List Expr} {ta : TE} {t : TA}
theorem Room.make {A : Around} (z : Room (k + 1) A) (C : Addr) (us : List Value) (kw : List (Str × Value)) : Room k (A.under (.builtin "type.__call__" ⟨.ref C :: us, kw⟩)) := ⟨z.rm.make C us kw, by
  have := z.gd
  first
    | exact this
    | simpa [Around.under] using this⟩
end
end Lk
set_option maxRecDepth 100000
set_option maxHeartbeats 4000000
namespace Lk
open PySem PySem.Spec PyProof.Rows L2
/-! ### how early, how late -/
end Lk
set_option maxRecDepth 100000
set_option maxHeartbeats 4000000
namespace Lk
open PySem PySem.Spec PyProof.Rows L2
section
variable {X : Cx}
/-! ### keys of a dict, that walked before or not -/
end
/-! ### who came behind whom, all of it new -/
def BehRd (H : Hp) (qs : List B4) : Prop := ∀ q ∈ qs, Rd H q.2.1 (.dK (trueK q.2.2))
theorem BehRd.same {H H' : Hp} {qs : List B4} (s : Same H H') (h : BehRd H qs) : BehRd H' qs := fun q hq => (h q hq).elim (fun e => .inl (s _ _ e)) fun ⟨o, e⟩ => .inr ⟨o, s _ _ e⟩
theorem BehRd.lst {H : Hp} {qs : List B4} {L : Addr} {ys : List V} {o : HO} (hL : H L = some (.lst ys)) (h : BehRd H qs) : BehRd (upd H L o) qs := fun q hq => (h q hq).elim
  (fun e => .inl ((upd_ne (ne_of e hL (fun z => nomatch z))).trans e)) fun ⟨o, e⟩ => .inr ⟨o, (upd_ne (ne_of e hL (fun z => nomatch z))).trans e⟩
theorem BehRd.frz {H : Hp} {qs : List B4} {d : Addr} {kvs : List (Key × V)} {od : Obj} (hd : H d = some (.dK kvs)) (h : BehRd H qs) : BehRd (upd H d (.frz od (.dK kvs))) qs := fun q hq => by
  by_cases c : q.2.1 = d
  · rcases h q hq with e | ⟨o, e⟩
    · rw [c, hd] at e
      rw [c]
      exact .inr ⟨od, by rw [upd_same, Option.some.inj e]⟩
    · rw [c, hd] at e
      cases e
  · exact (h q hq).elim (fun e => .inl ((upd_ne c).trans e)) fun ⟨o, e⟩ => .inr ⟨o, (upd_ne c).trans e⟩
/-! ### a chain of who bars the next -/
theorem nexts_get {bs : List B3} {l : Str} {i : Nat} (h : i < bs.length) : (nextsL bs l)[i]? = (bs.map (·.2.1) ++ [l])[i + 1]? := by
  unfold nextsL
  cases bs with
  | nil => cases h
  | cons b r => rfl
def ChainTo (ps : List (Str × Str)) (row : List Str) (one who : Str) (bs : List B3) : Prop :=
  (bs.map (·.2.1) ++ [who])[0]? = some one ∧ (∀ b ∈ bs, b.2.1 ∈ row) ∧ (bs.map (·.2.1)).Nodup ∧ ∀ (i : Nat) (c : B3) (y : Str), bs[i]? = some c → (nextsL bs who)[i]? = some y → c.2.2 ∈ wordsAt ps row c.2.1 y
theorem ChainTo.nil {ps : List (Str × Str)} {row : List Str} {one : Str} : ChainTo ps row one one [] := ⟨rfl, (fun _ h => nomatch h), List.nodup_nil, fun i c y h => by rw [List.getElem?_nil] at h; cases h⟩
theorem ChainTo.step {ps : List (Str × Str)} {row : List Str} {one who later w : Str} {bs : List B3} {t : Addr} (h : ChainTo ps row one who bs) (hw : who ∈ row) (nw : who ∉ bs.map (·.2.1)) (hb : w ∈ wordsAt ps row who later) : ChainTo ps row one later (bs ++ [(t, who, w)]) := by
  obtain ⟨h1, h2, h3, h4⟩ := h
  refine ⟨?_, fun b hb' => ?_, ?_, fun i c y hc hy => ?_⟩
  · rw [List.map_append]
    cases bs with
    | nil => exact h1
    | cons b r => exact h1
  · rcases List.mem_append.mp hb' with z | z
    · exact h2 b z
    · rw [List.mem_singleton.mp z]
      exact hw
  · rw [List.map_append]
    exact ((List.perm_append_singleton who (bs.map (·.2.1))).nodup_iff).mpr (List.nodup_cons.mpr ⟨nw, h3⟩)
  · have hi : i < (bs ++ [(t, who, w)]).length := (List.getElem?_eq_some_iff.mp hc).1
    rw [nexts_get hi] at hy
    rw [List.length_append] at hi
    have hi : i < bs.length + 1 := hi
    by_cases c1 : i < bs.length
    · rw [List.getElem?_append_left c1] at hc
      refine h4 i c y hc ?_
      rw [nexts_get c1, ← hy, List.map_append]
      have e : ((bs.map (·.2.1) ++ [who]) ++ [later])[i + 1]? = (bs.map (·.2.1) ++ [who])[i + 1]? := List.getElem?_append_left (by rw [List.length_append, List.length_map]; show i + 1 < bs.length + 1; omega)
      exact e.symm
    · have ei : i = bs.length := by omega
      subst ei
      rw [List.getElem?_append_right (Nat.le_refl _), Nat.sub_self] at hc
      cases hc
      rw [List.map_append, List.append_assoc, List.getElem?_append_right (by rw [List.length_map]; omega), List.length_map, show bs.length + 1 - bs.length = 1 by omega] at hy
      cases hy
      exact hb
/-! ### what the law has beside it -/
def wK (E L B Pr : Addr) : List (Key × V) := [((.inr "early" : Key), .ref E), (.inr "late", .ref L), (.inr "bounds", .ref B), (.inr "pairs", .ref Pr)]
def OrdsAt (H : Hp) (D : Addr) (f : Str → List Str) (row : List Str) (n : Nat) : Prop := ∃ kvs, H D = some (.dK kvs) ∧ kvs.length ≤ n ∧ ∀ x ∈ row.take n, ∃ la, valV kvs (.inr x) = some (.ref la) ∧ H la = some (.lst ((f x).map V.str))
theorem OrdsAt.same {H H' : Hp} {D : Addr} {f : Str → List Str} {row : List Str} {n : Nat} (s : Same H H') (h : OrdsAt H D f row n) : OrdsAt H' D f row n := by
  obtain ⟨kvs, h1, h2, h3⟩ := h
  refine ⟨kvs, s _ _ h1, h2, fun x hx => ?_⟩
  obtain ⟨la, e1, e2⟩ := h3 x hx
  exact ⟨la, e1, s _ _ e2⟩
/-- another dict is written -/
theorem OrdsAt.oth {H : Hp} {D d : Addr} {f : Str → List Str} {row : List Str} {n : Nat} {kvs : List (Key × V)} {o : HO} (ne : D ≠ d) (hd : H d = some (.dK kvs)) (h : OrdsAt H D f row n) : OrdsAt (upd H d o) D f row n := by
  obtain ⟨kvs', h1, h2, h3⟩ := h
  refine ⟨kvs', (upd_ne ne).trans h1, h2, fun x hx => ?_⟩
  obtain ⟨la, e1, e2⟩ := h3 x hx
  exact ⟨la, e1, (upd_ne (ne_of e2 hd (fun z => nomatch z))).trans e2⟩
theorem OrdsAt.put {H : Hp} {D la : Addr} {f : Str → List Str} {row : List Str} {i : Nat} {x : Str} (hd : row.Nodup) (hx : row[i]? = some x) (h : OrdsAt H D f row i) (hl : H la = some (.lst ((f x).map V.str))) :
    ∃ kvs, H D = some (.dK kvs) ∧ kvs.length ≤ i ∧ OrdsAt (upd H D (.dK (putK kvs (.inr x) (.ref la)))) D f row (i + 1) := by
  obtain ⟨kvs, h1, h2, h3⟩ := h
  refine ⟨kvs, h1, h2, putK kvs (.inr x) (.ref la), upd_same, ?_, fun y hy => ?_⟩
  · have := putK_lenK (kvs := kvs) (k := .inr x) (v := V.ref la)
    omega
  · rw [valV_put]
    rw [List.take_add_one, hx] at hy
    by_cases c : y = x
    · subst c
      rw [if_pos rfl]
      exact ⟨la, rfl, (upd_ne (ne_of hl h1 (fun z => nomatch z))).trans hl⟩
    · rw [if_neg (fun z => c (Sum.inr.inj z))]
      rcases List.mem_append.mp hy with z | z
      · obtain ⟨lb, e1, e2⟩ := h3 y z
        exact ⟨lb, e1, (upd_ne (ne_of e2 h1 (fun z => nomatch z))).trans e2⟩
      · exact absurd (List.mem_singleton.mp z) c
def BndAt (H : Hp) (D : Addr) (ps : List (Str × Str)) (row : List Str) (n : Nat) : Prop := ∃ kvs, H D = some (.dK kvs) ∧ kvs.length ≤ n ∧ ∀ (i : Nat) (x : Str), i < n → row[i]? = some x → ∃ t, valV kvs (.inr x) = some (.ref t) ∧ H t = some (.tup [.int (leastN ps row x i : Nat), .int (mostN ps row x i : Nat)])
theorem BndAt.same {H H' : Hp} {D : Addr} {ps : List (Str × Str)} {row : List Str} {n : Nat} (s : Same H H') (h : BndAt H D ps row n) : BndAt H' D ps row n := by
  obtain ⟨kvs, h1, h2, h3⟩ := h
  refine ⟨kvs, s _ _ h1, h2, fun i x hi hx => ?_⟩
  obtain ⟨la, e1, e2⟩ := h3 i x hi hx
  exact ⟨la, e1, s _ _ e2⟩
theorem BndAt.oth {H : Hp} {D d : Addr} {ps : List (Str × Str)} {row : List Str} {n : Nat} {kvs : List (Key × V)} {o : HO} (ne : D ≠ d) (hd : H d = some (.dK kvs)) (h : BndAt H D ps row n) : BndAt (upd H d o) D ps row n := by
  obtain ⟨kvs', h1, h2, h3⟩ := h
  refine ⟨kvs', (upd_ne ne).trans h1, h2, fun i x hi hx => ?_⟩
  obtain ⟨la, e1, e2⟩ := h3 i x hi hx
  exact ⟨la, e1, (upd_ne (ne_of e2 hd (fun z => nomatch z))).trans e2⟩
theorem BndAt.put {H : Hp} {D t : Addr} {ps : List (Str × Str)} {row : List Str} {i : Nat} {x : Str} (hd : row.Nodup) (hx : row[i]? = some x) (h : BndAt H D ps row i) (hl : H t = some (.tup [.int (leastN ps row x i : Nat), .int (mostN ps row x i : Nat)])) :
    ∃ kvs, H D = some (.dK kvs) ∧ kvs.length ≤ i ∧ BndAt (upd H D (.dK (putK kvs (.inr x) (.ref t)))) D ps row (i + 1) := by
  obtain ⟨kvs, h1, h2, h3⟩ := h
  refine ⟨kvs, h1, h2, putK kvs (.inr x) (.ref t), upd_same, ?_, fun j y hj hy => ?_⟩
  · have := putK_lenK (kvs := kvs) (k := .inr x) (v := V.ref t)
    omega
  · rw [valV_put]
    by_cases c : y = x
    · subst c
      have := nd_ix hd hx hy
      subst this
      rw [if_pos rfl]
      exact ⟨t, rfl, (upd_ne (ne_of hl h1 (fun z => nomatch z))).trans hl⟩
    · rw [if_neg (fun z => c (Sum.inr.inj z))]
      have : j ≠ i := fun z => by
        subst z
        rw [hx] at hy
        exact c (Option.some.inj hy).symm
      obtain ⟨lb, e1, e2⟩ := h3 j y (by omega) hy
      exact ⟨lb, e1, (upd_ne (ne_of e2 h1 (fun z => nomatch z))).trans e2⟩
def PrAt (H : Hp) (D : Addr) (ps : List (Str × Str)) (row : List Str) : Prop := ∃ kvs, H D = some (.dT kvs) ∧ ∀ x y, (valV kvs (k2 x y)).isSome = leadsB ps row x y
theorem PrAt.same {H H' : Hp} {D : Addr} {ps : List (Str × Str)} {row : List Str} (s : Same H H') (h : PrAt H D ps row) : PrAt H' D ps row := by
  obtain ⟨kvs, h1, h2⟩ := h
  exact ⟨kvs, s _ _ h1, h2⟩
/-- all that the law has beside it, so far -/
def WSt (H1 H' : Hp) (wd E L Bn Pr : Addr) (ps : List (Str × Str)) (row ord : List Str) (nO nB : Nat) : Prop :=
  Same H1 H' ∧ H' wd = some (.dK (wK E L Bn Pr)) ∧ OrdsAt H' E (earlyO ps row ord) row nO ∧ OrdsAt H' L (lateO ps row ord) row nO ∧ BndAt H' Bn ps row nB ∧ PrAt H' Pr ps row
theorem WSt.same {H1 H' H'' : Hp} {wd E L Bn Pr : Addr} {ps : List (Str × Str)} {row ord : List Str} {nO nB : Nat} (s : Same H' H'') (h : WSt H1 H' wd E L Bn Pr ps row ord nO nB) : WSt H1 H'' wd E L Bn Pr ps row ord nO nB :=
  ⟨h.1.trans s, s _ _ h.2.1, h.2.2.1.same s, h.2.2.2.1.same s, h.2.2.2.2.1.same s, h.2.2.2.2.2.same s⟩
theorem PrAt.oth {H : Hp} {D d : Addr} {ps : List (Str × Str)} {row : List Str} {o : HO} (ne : D ≠ d) (h : PrAt H D ps row) : PrAt (upd H d o) D ps row := by
  obtain ⟨kvs', h1, h2⟩ := h
  exact ⟨kvs', (upd_ne ne).trans h1, h2⟩
theorem OrdsAt.box {H H' : Hp} {b D : Addr} {f : Str → List Str} {row : List Str} {n : Nat} (s : Oth b H H') (hb : IsBox H b) (h : OrdsAt H D f row n) : OrdsAt H' D f row n := by
  obtain ⟨kvs, h1, h2, h3⟩ := h
  obtain ⟨x, y, z, e⟩ := hb
  refine ⟨kvs, s _ _ (ne_of h1 e (fun z => nomatch z)) h1, h2, fun w hw => ?_⟩
  obtain ⟨la, e1, e2⟩ := h3 w hw
  exact ⟨la, e1, s _ _ (IsBox.ne_strs ⟨x, y, z, e⟩ e2) e2⟩
theorem PrAt.box {H H' : Hp} {b D : Addr} {ps : List (Str × Str)} {row : List Str} (s : Oth b H H') (hb : IsBox H b) (h : PrAt H D ps row) : PrAt H' D ps row := by
  obtain ⟨kvs, h1, h2⟩ := h
  exact ⟨kvs, s _ _ (hb.ne_dT h1) h1, h2⟩
end Lk
set_option maxRecDepth 100000
set_option maxHeartbeats 4000000
namespace Lk
open PySem PySem.Spec PyProof.Rows L2
/-! ### a bunch of people as a number -/
def mkN : List Str → (Str → Bool) → Nat
  | [], _ => 0
  | x :: r, p => (if p x = true then 1 else 0) + 2 * mkN r p
theorem mkN_congr : ∀ {ks : List Str} {p q : Str → Bool}, (∀ x ∈ ks, p x = q x) → mkN ks p = mkN ks q
  | [], _, _, _ => rfl
  | x :: r, p, q, h => by
    unfold mkN
    rw [h x List.mem_cons_self, mkN_congr fun y hy => h y (List.mem_cons_of_mem _ hy)]
theorem mkN_lt : ∀ (ks : List Str) (p : Str → Bool), mkN ks p < 2 ^ ks.length
  | [], _ => by simp [mkN]
  | x :: r, p => by
    have := mkN_lt r p
    unfold mkN
    rw [List.length_cons, Nat.pow_succ]
    split <;> omega
theorem mkN_test : ∀ (ks : List Str) (p : Str → Bool) (i : Nat), (mkN ks p).testBit i = (match ks[i]? with | some x => p x | none => false)
  | [], _, i => by simp [mkN]
  | x :: r, p, 0 => by
    unfold mkN
    rw [Nat.testBit_zero]
    show decide (_ % 2 = 1) = p x
    cases e : p x with
    | true => simp
    | false => simp
  | x :: r, p, i + 1 => by
    unfold mkN
    rw [Nat.testBit_succ, List.getElem?_cons_succ, ← mkN_test r p i]
    congr 1
    split <;> omega
/-- who is in the bunch n -/
def prN (ks : List Str) (n : Nat) (x : Str) : Bool := n.testBit (ks.idxOf x)
theorem pr_mkN {ks : List Str} {p : Str → Bool} {x : Str} (hx : x ∈ ks) : prN ks (mkN ks p) x = p x := by
  unfold prN
  rw [mkN_test, List.getElem?_eq_getElem (List.idxOf_lt_length_iff.mpr hx)]
  show p _ = _
  rw [List.getElem_idxOf]
theorem mkN_pr {ks : List Str} (nd : ks.Nodup) {n : Nat} (h : n < 2 ^ ks.length) : mkN ks (prN ks n) = n := by
  refine Nat.eq_of_testBit_eq fun i => ?_
  rw [mkN_test]
  cases e : ks[i]? with
  | some x =>
    show n.testBit _ = _
    rw [idx_at nd e]
  | none =>
    have hi : ks.length ≤ i := List.getElem?_eq_none_iff.mp e
    exact (Nat.testBit_lt_two_pow (Nat.lt_of_lt_of_le h (Nat.pow_le_pow_right (by decide) hi))).symm
/-- the bit of one -/
def bitN (ks : List Str) (x : Str) : Nat := 2 ^ ks.idxOf x
theorem mkN_add : ∀ {ks : List Str} {p : Str → Bool} {x : Str}, ks.Nodup → x ∈ ks → p x = false → mkN ks (fun z => p z || z == x) = mkN ks p + bitN ks x
  | [], _, _, _, h, _ => nomatch h
  | y :: r, p, x, nd, hx, hp => by
    obtain ⟨n1, n2⟩ := List.nodup_cons.mp nd
    unfold mkN bitN
    by_cases c : y = x
    · subst c
      rw [List.idxOf_cons_self, hp, mkN_congr (p := fun z => p z || z == y) (q := p) fun z hz => ?_]
      · simp
        omega
      · have : z ≠ y := fun e => n1 (e ▸ hz)
        simp [this]
    · have hr : x ∈ r := (List.mem_cons.mp hx).resolve_left fun e => c e.symm
      have ih := mkN_add n2 hr hp
      unfold bitN at ih
      rw [List.idxOf_cons, beq_false_of_ne c, ih]
      simp [Nat.pow_succ, c]
      omega
/-! ### in how many ways the others can come -/
def nxtL (ks : List Str) (bar : Str → Str → Bool) (p : Str → Bool) : List Str := ks.filter fun x => !p x && ks.all fun y => !bar y x || p y
def waysN (ks : List Str) (bar : Str → Str → Bool) : Nat → (Str → Bool) → Nat
  | 0, _ => 1
  | k + 1, p => ((nxtL ks bar p).map fun x => waysN ks bar k fun z => p z || z == x).sum
theorem nxtL_mem {ks : List Str} {bar : Str → Str → Bool} {p : Str → Bool} {x : Str} : x ∈ nxtL ks bar p ↔ x ∈ ks ∧ p x = false ∧ ∀ y ∈ ks, bar y x = true → p y = true := by
  unfold nxtL
  rw [List.mem_filter, Bool.and_eq_true, Bool.not_eq_true', List.all_eq_true]
  refine ⟨fun ⟨h1, h2, h3⟩ => ⟨h1, h2, fun y hy hb => ?_⟩, fun ⟨h1, h2, h3⟩ => ⟨h1, h2, fun y hy => ?_⟩⟩
  · have := h3 y hy
    rw [hb] at this
    simpa using this
  · cases e : bar y x with
    | true => rw [h3 y hy e]; rfl
    | false => rfl
end Lk
set_option maxRecDepth 100000
set_option maxHeartbeats 4000000
namespace Lk
open PySem PySem.Spec PyProof.Rows L2
/-! ### sorted(row) -/
section
variable {X : Cx}
end
end Lk
set_option maxRecDepth 100000
set_option maxHeartbeats 4000000
namespace Lk
open PySem PySem.Spec PyProof.Rows L2
def bitsK (ks : List Str) : List (Key × V) := ks.map fun x => (Sum.inr x, V.int (bitN ks x : Nat))
def BarrAt (H : Hp) (E : Addr) (ks : List Str) (bar : Str → Str → Bool) : Prop := ∃ kvs, H E = some (.dK kvs) ∧ kvs.length ≤ 100 ∧ ∀ x ∈ ks, valV kvs (.inr x) = some (.int (mkN ks (fun y => bar y x) : Nat))
theorem BarrAt.same {H H' : Hp} {E : Addr} {ks : List Str} {bar : Str → Str → Bool} (s : Same H H') (h : BarrAt H E ks bar) : BarrAt H' E ks bar := by
  obtain ⟨kvs, h1, h2, h3⟩ := h
  exact ⟨kvs, s _ _ h1, h2, h3⟩
/-- bunches that can have come, by how many are in them -/
inductive Rch (ks : List Str) (bar : Str → Str → Bool) : Nat → Nat → Prop
  | zero : Rch ks bar 0 0
  | step {k n : Nat} {x : Str} : Rch ks bar k n → x ∈ nxtL ks bar (prN ks n) → Rch ks bar (k + 1) (n + bitN ks x)
def LevIs (ks : List Str) (bar : Str → Str → Bool) (k : Nat) (l : List Nat) : Prop := l.Nodup ∧ ∀ n, n ∈ l ↔ Rch ks bar k n
end Lk
set_option maxRecDepth 100000
set_option maxHeartbeats 4000000
namespace Lk
open PySem PySem.Spec PyProof.Rows L2
section
variable {ks : List Str} {bar : Str → Str → Bool} {k j n m : Nat} {x : Str}
theorem mk_add (nd : ks.Nodup) (hn : n < 2 ^ ks.length) (hx : x ∈ ks) (hp : prN ks n x = false) : n + bitN ks x = mkN ks fun z => prN ks n z || z == x := by
  rw [mkN_add nd hx hp, mkN_pr nd hn]
theorem pr_add (nd : ks.Nodup) (hn : n < 2 ^ ks.length) (hx : x ∈ ks) (hp : prN ks n x = false) : ∀ z ∈ ks, prN ks (n + bitN ks x) z = (prN ks n z || z == x) := fun z hz => by
  rw [mk_add nd hn hx hp, pr_mkN hz]
theorem Rch.lt (nd : ks.Nodup) (h : Rch ks bar k n) : n < 2 ^ ks.length := by
  induction h with
  | zero => exact Nat.two_pow_pos _
  | step h hx ih =>
    obtain ⟨h1, h2, _⟩ := nxtL_mem.mp hx
    rw [mk_add nd ih h1 h2]
    exact mkN_lt _ _
theorem filter_or {p : Str → Bool} : ∀ {l : List Str}, l.Nodup → x ∈ l → p x = false → (l.filter fun z => p z || z == x).length = (l.filter p).length + 1
  | [], _, h, _ => nomatch h
  | y :: l, nd, h, hp => by
    obtain ⟨ny, nd'⟩ := List.nodup_cons.mp nd
    by_cases c : y = x
    · subst c
      rw [List.filter_cons_of_pos (by simp), List.filter_cons_of_neg (by simp [hp]), List.length_cons]
      congr 2
      refine List.filter_congr fun z hz => ?_
      have : ¬ z = y := fun e => ny (e ▸ hz)
      simp [this]
    · have ih := filter_or nd' ((List.mem_cons.mp h).resolve_left fun e => c e.symm) hp
      by_cases q : p y = true
      · rw [List.filter_cons_of_pos (by simp [q]), List.filter_cons_of_pos q, List.length_cons, List.length_cons, ih]
      · rw [List.filter_cons_of_neg (by simp [q, c]), List.filter_cons_of_neg q, ih]
theorem Rch.pop (nd : ks.Nodup) (h : Rch ks bar k n) : (ks.filter (prN ks n)).length = k := by
  induction h with
  | zero =>
    rw [List.filter_eq_nil_iff.mpr fun x _ => ?_]
    · rfl
    · unfold prN
      simp
  | step h hx ih =>
    obtain ⟨h1, h2, _⟩ := nxtL_mem.mp hx
    rw [List.filter_congr (pr_add nd (h.lt nd) h1 h2), filter_or nd h1 h2, ih]
theorem Rch.uniq (nd : ks.Nodup) (h : Rch ks bar k n) (h' : Rch ks bar j n) : k = j := by rw [← h.pop nd, ← h'.pop nd]
theorem Rch.full (nd : ks.Nodup) (h : Rch ks bar ks.length n) : n = mkN ks fun _ => true := by
  have e := h.pop nd
  have all : ∀ x ∈ ks, prN ks n x = true := List.filter_eq_self.mp ((List.filter_sublist).eq_of_length e)
  rw [← mkN_pr nd (h.lt nd)]
  exact mkN_congr all
theorem Rch.le (nd : ks.Nodup) (h : Rch ks bar k n) : k ≤ ks.length := by
  rw [← h.pop nd]
  exact List.length_filter_le _ _
theorem nat_bound : ∀ (m : Nat) {l : List Nat}, l.Nodup → (∀ n ∈ l, n < m) → l.length ≤ m
  | 0, l, _, h => by
    cases l with
    | nil => exact Nat.le_refl _
    | cons a l => exact absurd (h a (List.mem_cons_self ..)) (by omega)
  | m + 1, l, nd, h => by
    have z := nat_bound m (l := l.erase m) (nd.erase m) fun n hn => by
      have := (nd.mem_erase_iff).mp hn
      have := h n this.2
      omega
    have := List.length_erase (l := l) (a := m)
    split at this <;> omega
theorem LevIs.size (nd : ks.Nodup) (h : LevIs ks bar k l) : l.length ≤ 2 ^ ks.length := nat_bound _ h.1 fun n hn => ((h.2 n).mp hn).lt nd
/-! ### the keys that grow -/
def addU (gs : List Nat) (n : Nat) : List Nat := if n ∈ gs then gs else gs ++ [n]
theorem addU_nodup {gs : List Nat} (h : gs.Nodup) : (addU gs n).Nodup := by
  unfold addU
  split
  · exact h
  · rename_i c
    rw [List.nodup_append]
    refine ⟨h, by simp, fun a ha b hb e => ?_⟩
    rw [List.mem_singleton.mp hb] at e
    exact c (e ▸ ha)
theorem addU_mem {gs : List Nat} : m ∈ addU gs n ↔ m ∈ gs ∨ m = n := by
  unfold addU
  split
  · rename_i c
    exact ⟨.inl, fun h => h.elim id fun e => e ▸ c⟩
  · simp
theorem addU_length {gs : List Nat} : (addU gs n).length ≤ gs.length + 1 := by
  unfold addU
  split
  · omega
  · simp
/-- what has grown when i bunches are through, and of the next one j who can come -/
structure Grown (ks : List Str) (bar : Str → Str → Bool) (l : List Nat) (i j : Nat) (gs : List Nat) : Prop where
  nd : gs.Nodup
  mem : ∀ m, m ∈ gs ↔ (∃ n ∈ l.take i, ∃ x ∈ nxtL ks bar (prN ks n), m = n + bitN ks x) ∨ ∃ n, l[i]? = some n ∧ ∃ x ∈ (nxtL ks bar (prN ks n)).take j, m = n + bitN ks x
  len : gs.length ≤ i * ks.length + j
theorem Grown.zero {l : List Nat} : Grown ks bar l 0 0 [] := ⟨List.nodup_nil, fun m => by simp, Nat.zero_le _⟩
theorem Grown.step {l gs : List Nat} {i : Nat} (h : Grown ks bar l i j gs) (hn : l[i]? = some n) (hx : (nxtL ks bar (prN ks n))[j]? = some x) : Grown ks bar l i (j + 1) (addU gs (n + bitN ks x)) := by
  refine ⟨addU_nodup h.nd, fun m => ?_, ?_⟩
  · rw [addU_mem, h.mem m]
    constructor
    · rintro ((a | ⟨n', e, y, hy, em⟩) | e)
      · exact .inl a
      · exact .inr ⟨n', e, y, by rw [List.take_add_one]; exact List.mem_append_left _ hy, em⟩
      · exact .inr ⟨n, hn, x, by rw [List.take_add_one, hx]; simp, e⟩
    · rintro (a | ⟨n', e, y, hy, em⟩)
      · exact .inl (.inl a)
      · rw [hn] at e
        cases e
        rw [List.take_add_one, hx] at hy
        rcases List.mem_append.mp hy with u | u
        · exact .inl (.inr ⟨n, hn, y, u, em⟩)
        · have : y = x := by simpa using u
          subst this
          exact .inr em
  · have := addU_length (gs := gs) (n := n + bitN ks x)
    have := h.len
    omega
theorem nxtL_len : (nxtL ks bar p).length ≤ ks.length := List.length_filter_le _ _
theorem Grown.next {l gs : List Nat} {i : Nat} (h : Grown ks bar l i (nxtL ks bar (prN ks n)).length gs) (hn : l[i]? = some n) : Grown ks bar l (i + 1) 0 gs := by
  refine ⟨h.nd, fun m => ?_, ?_⟩
  · rw [h.mem m]
    constructor
    · rintro (⟨n', hn', e⟩ | ⟨n', e, y, hy, em⟩)
      · exact .inl ⟨n', by rw [List.take_add_one]; exact List.mem_append_left _ hn', e⟩
      · refine .inl ⟨n', by rw [List.take_add_one, e]; simp, y, ?_, em⟩
        exact List.mem_of_mem_take hy
    · rintro (⟨n', hn', e⟩ | ⟨n', e, y, hy, em⟩)
      · rw [List.take_add_one, hn] at hn'
        rcases List.mem_append.mp hn' with u | u
        · exact .inl ⟨n', u, e⟩
        · have e1 : n' = n := by simpa using u
          subst e1
          obtain ⟨y, hy, em⟩ := e
          exact .inr ⟨n', hn, y, by rw [List.take_of_length_le (Nat.le_refl _)]; exact hy, em⟩
      · simp at hy
  · have := h.len
    have := nxtL_len (ks := ks) (bar := bar) (p := prN ks n)
    rw [Nat.succ_mul]
    omega
theorem Grown.done {l gs : List Nat} (h : Grown ks bar l l.length 0 gs) (hl : LevIs ks bar k l) : LevIs ks bar (k + 1) gs := by
  refine ⟨h.nd, fun m => ?_⟩
  rw [h.mem m, List.take_of_length_le (Nat.le_refl _)]
  constructor
  · rintro (⟨n, hn, x, hx, rfl⟩ | ⟨n, e, y, hy, em⟩)
    · exact .step ((hl.2 n).mp hn) hx
    · simp at hy
  · intro r
    cases r with
    | step r hx => exact .inl ⟨_, (hl.2 _).mpr r, _, hx, rfl⟩
end
end Lk
set_option maxRecDepth 100000
set_option maxHeartbeats 4000000
namespace Lk
open PySem PySem.Spec PyProof.Rows L2
/-! ### a heap without one of its objects -/
section
variable {H : Hp} {p C dx : Addr} {fs : List (Str × V)}
end
/-! ### a Count -/
def fldsC (D E W : Addr) : List (Str × V) := putF "ways" (.ref W) (putF "barrers" (.ref E) (putF "bits" (.ref D) []))
/-- the bunches from size k on have their ways, of size k the first i -/
def WaysUp (ks : List Str) (bar : Str → Str → Bool) (kvs : List (Key × V)) (P : Nat → Nat → Prop) : Prop := ∀ j n, Rch ks bar j n → P j n → valV kvs (.inl (n : Int)) = some (.int (waysN ks bar (ks.length - j) (prN ks n) : Nat))
structure CountIs (C : Addr) (H : Hp) (p D E W : Addr) (ks : List Str) (bar : Str → Str → Bool) (kvs : List (Key × V)) : Prop where
  ob : ∃ dx, H p = some (.ins C dx (fldsC D E W))
  bi : H D = some (.dK (bitsK ks))
  br : BarrAt H E ks bar
  wa : H W = some (.dK kvs)
theorem CountIs.same {C : Addr} {H H' : Hp} {p D E W : Addr} {ks : List Str} {bar : Str → Str → Bool} {kvs : List (Key × V)} (h : CountIs C H p D E W ks bar kvs) (s : Same H H') : CountIs C H' p D E W ks bar kvs := by
  obtain ⟨⟨dx, h1⟩, h2, h3, h4⟩ := h
  exact ⟨⟨dx, s _ _ h1⟩, s _ _ h2, h3.same s, s _ _ h4⟩
def CountAt (C : Addr) (H : Hp) (p : Addr) (ks : List Str) (bar : Str → Str → Bool) : Prop := ∃ D E W kvs, CountIs C H p D E W ks bar kvs ∧ WaysUp ks bar kvs fun _ _ => True
theorem CountAt.same {C : Addr} {H H' : Hp} {p : Addr} {ks : List Str} {bar : Str → Str → Bool} (s : Same H H') (h : CountAt C H p ks bar) : CountAt C H' p ks bar := by
  obtain ⟨D, E, W, kvs, h1, h2⟩ := h
  exact ⟨D, E, W, kvs, h1.same s, h2⟩
section
variable {ks : List Str} {bar : Str → Str → Bool} {kvs : List (Key × V)} {k n : Nat}
end
end Lk
set_option maxRecDepth 100000
set_option maxHeartbeats 4000000
namespace Lk
open PySem PySem.Spec PyProof.Rows L2
section
variable {C : Addr} {H : Hp} {p D E W : Addr} {ks : List Str} {bar : Str → Str → Bool} {kvs : List (Key × V)}
theorem CountIs.put (h : CountIs C H p D E W ks bar kvs) (nD : D ≠ W) (nE : E ≠ W) (kvs' : List (Key × V)) : CountIs C (upd H W (.dK kvs')) p D E W ks bar kvs' := by
  obtain ⟨⟨dx, h1⟩, h2, ⟨kE, e1, e2, e3⟩, h4⟩ := h
  exact ⟨⟨dx, (upd_ne (ne_of h1 h4 (fun z => nomatch z))).trans h1⟩, (upd_ne nD).trans h2, ⟨kE, (upd_ne nE).trans e1, e2, e3⟩, upd_same⟩
theorem WaysUp.put {P P' : Nat → Nat → Prop} {k n : Nat} (h : WaysUp ks bar kvs P) (nd : ks.Nodup) (r : Rch ks bar k n) (hP : ∀ j m, Rch ks bar j m → P' j m → P j m ∨ m = n) : WaysUp ks bar (putK kvs (.inl (n : Int)) (.int (waysN ks bar (ks.length - k) (prN ks n) : Nat))) P' := fun j m hr hp => by
  rw [valV_put]
  by_cases c : m = n
  · subst c
    rw [if_pos rfl, hr.uniq nd r]
  · rw [if_neg (fun e => c (by have : (m : Int) = n := Sum.inl.inj e; omega))]
    exact h j m hr ((hP j m hr hp).resolve_right c)
end
end Lk
set_option maxRecDepth 100000
set_option maxHeartbeats 4000000
namespace Lk
open PySem PySem.Spec PyProof.Rows L2
/-! ### counted by sets of who has come, by the law -/
section
variable {row : List Str} {bar : Str → Str → Bool} {c k : Nat}
end
/-- who comes after whom, each one's list -/
def AfterB (H : Hp) (D : Addr) (row : List Str) (bar : Str → Str → Bool) : Prop := ∃ kvs, H D = some (.dK kvs) ∧ ∀ x ∈ row, ∃ (la : Addr) (ys : List Str), valV kvs (.inr x) = some (.ref la) ∧ H la = some (.lst (ys.map V.str)) ∧ ys.Nodup ∧ (∀ y ∈ ys, y ∈ row) ∧ ∀ y ∈ row, bar x y = decide (y ∈ ys)
theorem AfterB.same {H H' : Hp} {D : Addr} {row : List Str} {bar : Str → Str → Bool} (s : Same H H') (h : AfterB H D row bar) : AfterB H' D row bar := by
  obtain ⟨kvs, h1, h3⟩ := h
  refine ⟨kvs, s _ _ h1, fun x hx => ?_⟩
  obtain ⟨la, ys, a, b, c⟩ := h3 x hx
  exact ⟨la, ys, a, s _ _ b, c⟩
end Lk
set_option maxRecDepth 100000
set_option maxHeartbeats 4000000
namespace Lk
open PySem PySem.Spec PyProof.Rows L2
/-! ### all orders, one behind the other -/
section
variable {ks : List Str} {bar : Str → Str → Bool} {k i r : Nat} {p q : Str → Bool} {x : Str}
/-! ### the number of each -/
end
/-! ### lists of texts, one below the other -/
section
variable {X : Cx}
end
section
variable {ks : List Str} {bar : Str → Str → Bool}
end
end Lk
set_option maxRecDepth 100000
set_option maxHeartbeats 4000000
namespace Lk
open PySem PySem.Spec PyProof.Rows L2
/-- people in order, the row's own -/
def SortOf (row ks : List Str) : Prop := ks.Perm row ∧ sortedS ks = true
theorem SortOf.uniq {row ks js : List Str} (h : SortOf row ks) (g : SortOf row js) : ks = js := sortedS_uniq (h.1.trans g.1.symm) h.2 g.2
section
variable {ks : List Str} {bar : Str → Str → Bool} {k n i r : Nat} {x : Str} {s : List Str}
end
/-! ### all orders, by the law, in their order -/
section
variable {ps : List (Str × Str)} {row ks : List Str}
end
end Lk
set_option maxRecDepth 100000
set_option maxHeartbeats 4000000
namespace Lk
open PySem PySem.Spec PyProof.Rows L2
/-! ### range(n) as a thing, list(range(n)) -/
section
variable {X : Cx}
end
/-! ### whole numbers written -/
section
variable {ks : List Str} {bar : Str → Str → Bool}
end
section
variable {ps : List (Str × Str)} {row ks o : List Str}
end
end Lk
set_option maxRecDepth 100000
set_option maxHeartbeats 4000000
namespace Lk
open PySem PySem.Spec PyProof.Rows L2
section
variable {X : Cx}
/-! ### a tuple that was just made, as a key of a dict -/
/-! ### tuples put together: which one it is -/
end
/-! ### what shows nothing -/
/-! ### rows as keys -/
end Lk
set_option maxRecDepth 100000
set_option maxHeartbeats 4000000
namespace Lk
open PySem PySem.Spec PyProof.Rows L2
/-! ### {x} in an f-string: any data, as a text -/
section
variable {X : Cx}
end
/-! ### an own exception, its __init__ under my Room -/
section
variable {X : Cx} {o e : Expr} {es : List Expr} {to te : TE} {ta : TA} {f : Str} {p p' p1 p2 pos : Pos} {T newId initId : String} {tn : Str}
variable {CX : CXT} {x : Str} {C fI : Addr} {k : Nat} {fd : FuncData} {ps : List Str} {sp : Sp}
end
/-! ### a class of one's own whose __init__ may raise -/
section
variable {X : Cx} {k n : Nat} {C : Addr} {ps : List Str} {sp : Sp} {x : Str} {p pos : Pos} {e : Expr} {es : List Expr} {t : TA} {W : WX}
end
/-! ### promises: kept, Stuck(left), who is refused -/
end Lk
namespace Lk
open PySem PySem.Spec PyProof.Rows L2
end Lk
namespace Lk
open PySem PySem.Spec PyProof.Rows L2
end Lk
namespace Lk
open PySem PySem.Spec PyProof.Rows L2
/-! ### k77: all lists of some names, rising -/
end Lk
namespace Lk
open PySem PySem.Spec PyProof.Rows L2
/-! ### k17: asked of a row without an order -/
end Lk
namespace Lk
open PySem PySem.Spec PyProof.Rows L2
section
variable {ps : List (Str × Str)} {row : List Str} {k : Nat}
end
end Lk
namespace Lk
open PySem PySem.Spec PyProof.Rows L2
section
variable {X : Cx}
theorem call_repr_bl : CallR X (.builtin "repr") (fun xs H Q => ∃ b, xs = [.bl b] ∧ Q (.str (if b then "True" else "False")) H) := by
  intro pins s σ H xs us Q I r h
  obtain ⟨b, rfl, q⟩ := h
  obtain ⟨u, rfl, rx⟩ := vals1 r
  cases rx
  exact PySem.P.repr_of_bool ⟨.str _, H, I.tok _, ⟨_, rfl⟩, q⟩
end
end Lk
set_option maxRecDepth 100000
set_option maxHeartbeats 4000000
namespace Lk
open PySem PySem.Spec PyProof.Rows L2
/-! ### what repr writes of a thing -/
def repD : PyData → Str
  | .none => "None"
  | .bool b => if b then "True" else "False"
  | .int i => toString i
  | .str z => reprText z
  | d => d.shown
def rReprD (K : PySem.W.Frag) : List V → Hp → VK → Prop := fun xs H Q => ∃ (x : V) (bad : Addr → Prop) (d : PyData) (n w : Nat), xs = [x] ∧ Tr bad H d x ∧ Okd n w d ∧ n ≤ 60 ∧ w ≤ 100000 ∧ Q (.str (repD d)) H
section
variable {X : Cx}
theorem call_reprD {k : Nat} (z : Room k X.A) : CallR X (.builtin "repr") (rReprD X.K) := by
  intro pins s σ H xs us Q I r h
  obtain ⟨x, bad, d, n, w, rfl, tr, ok, hn, hw, q⟩ := h
  cases d with
  | none =>
    simp only [Tr] at tr
    subst tr
    obtain ⟨u, rfl, rx⟩ := vals1 r
    cases rx
    exact PySem.P.repr_of_none ⟨.str _, H, I.tok _, ⟨_, rfl⟩, q⟩
  | bool b =>
    simp only [Tr] at tr
    subst tr
    exact call_repr_bl pins s σ H _ us Q I r ⟨b, rfl, q⟩
  | int i =>
    simp only [Tr] at tr
    subst tr
    refine SkE.call_repr_int pins s σ H _ us Q I r ⟨i, rfl, ?_, q⟩
    have h := ok.fit.sh
    simp only [PyData.showable, decide_eq_true_eq] at h
    exact h
  | str z =>
    simp only [Tr] at tr
    subst tr
    obtain ⟨u, rfl, t, rfl⟩ := vals1 r
    refine PySem.P.repr_of_str ⟨.str _, H, I.tok _, ⟨_, rfl⟩, q⟩ ?_
    have h := ok.fit.fits (Nat.le_trans hw (by decide))
    simpa [PyData.shown] using h
  | list ds =>
    have dp := tr.dp (K := X.K)
    simp only [Tr] at tr
    obtain ⟨a, xs, rfl, _⟩ := tr
    exact call_reprS z pins s σ H _ us Q I r ⟨_, _, rfl, ⟨⟨a, rfl⟩, dp, n, w, ok.fit, hn, Nat.le_trans hw (by decide)⟩, q⟩
  | tuple ds =>
    have dp := tr.dp (K := X.K)
    simp only [Tr] at tr
    obtain ⟨a, xs, rfl, _⟩ := tr
    exact call_reprS z pins s σ H _ us Q I r ⟨_, _, rfl, ⟨⟨a, rfl⟩, dp, n, w, ok.fit, hn, Nat.le_trans hw (by decide)⟩, q⟩
  | dict _ => simp only [Tr] at tr
end
/-! ### the law's own reading of deeds -/
def rSlQ (K : PySem.W.Frag) : V → Option Int → Option Int → Hp → VK → Prop := fun x lo hi H Q => ∃ a xs, x = .ref a ∧ SqT K H a xs ∧ (∀ t H', Same H H' → SqT K H' t (cutV xs lo hi) → Q (.ref t) H')
theorem sl_tupQ {X : Cx} : SlR X (rSlQ X.K) := by
  intro pins s σ H x v vl vu lo hi sl Q I rx hs pl pu h
  obtain ⟨a, xs, rfl, ha, q⟩ := h
  by_cases hw : HT.sIx xs.length 0 lo = 0 ∧ HT.sIx xs.length xs.length hi = xs.length
  · exact sl_tupA pins s σ H _ v vl vu lo hi sl Q I rx hs pl pu ⟨a, xs, rfl, ha, fun _ => q a H (Same.refl H) (by rw [cutV_whole hw]; exact ha), fun z => absurd hw z⟩
  · cases rx
    obtain ⟨its, r, ht, hz⟩ := I.tuple ha
    have hlen : its.toArray.size = xs.length := by rw [List.size_toArray]; exact r.length.symm
    refine ⟨"tuple", _, PyProof.Rows.slot_tuple_getitem.lookup, ht.typeIs, ?_⟩
    refine HT.getItem_tuple_cut ht hs pl pu (by rw [hlen]; exact hw) ?_ (by rw [hlen]; exact hz)
    rw [hlen]
    have hf : H s.heap.objs.size = none := I.hok.fresh (Nat.le_refl _)
    exact ⟨.ref s.heap.objs.size, _, laid_tup (xs := cutV xs lo hi) I (Nat.le_trans (cutV_length xs lo hi) hz) ((r.drop (HT.sIx xs.length 0 lo)).take (HT.sIx xs.length xs.length hi - HT.sIx xs.length 0 lo)), rfl, q _ _ (same_upd hf) (TupAt.sq ⟨_, rfl, upd_same⟩)⟩
theorem names_weight : ∀ {xs : List Str}, (∀ x ∈ xs, NameOk x) → PyData.weightAll (xs.map .str) ≤ 9 * xs.length
  | [], _ => by simp only [List.map_nil, PyData.weightAll, List.length_nil]; exact Nat.le_refl _
  | x :: xs, h => by
    have ih := names_weight fun y hy => h y (List.mem_cons_of_mem _ hy)
    have l := (h x List.mem_cons_self).len
    have e : (PyData.str x).weight = x.length := by simp only [PyData.weight]; rfl
    simp only [List.map_cons, PyData.weightAll, List.length_cons, e]
    omega
theorem names_okl {xs : List Str} (h : ∀ x ∈ xs, NameOk x) : OkL 0 (9 * xs.length) (xs.map .str) :=
  OkL.of (w := 8) (fun d hd => by
    obtain ⟨x, hx, rfl⟩ := List.mem_map.mp hd
    exact okd_str (h x hx).good (h x hx).len) (names_weight h)
/-! ### the deeds of a story as things -/
/-- a thing that the law asks about -/
def ThOk (d : PyData) : Prop := Okd 10 4000 d ∧ lenD d ≤ 18
theorem ThOk.of {n w : Nat} {d : PyData} (h : Okd n w d) (hn : n ≤ 10 := by omega) (hw : w ≤ 4000 := by omega) (hl : lenD d ≤ 18 := by omega) : ThOk d := ⟨h.mono hn hw, hl⟩
theorem cutL_butX {α : Type} (xs : List α) : cutL xs none (some (-1)) = xs.dropLast := by
  unfold cutL
  rw [HT.sIx_none, List.drop_zero, Nat.sub_zero, List.dropLast_eq_take]
  show xs.take (if (-1 : Int) < 0 then ((-1 : Int) + (xs.length : Int)).toNat else min (-1 : Int).toNat xs.length) = _
  rw [if_pos (by decide), show ((-1 : Int) + (xs.length : Int)).toNat = xs.length - 1 by omega]
end Lk
set_option maxRecDepth 100000
set_option maxHeartbeats 4000000
namespace Lk
open PySem PySem.Spec PyProof.Rows L2
/-! ### rows and clauses of any shape -/
section
variable {X : Cx}
def tLenStrsTQ (K : PySem.W.Frag) (ta : TE) : TE := fun σ H Q => ta σ H fun x H1 => ∃ (l : Addr) (xs : List Str), x = .ref l ∧ SqT K H1 l (xs.map V.str) ∧ xs.length ≤ 100 ∧ ∀ us : List Str, us.Nodup → (∀ y, y ∈ us ↔ y ∈ xs) → Q (.int us.length) H1
theorem pe_lenStrsTQ {a : Expr} {ta : TE} {p p2 q pos : Pos} (hc : X.calm = true) (hg : Gl X "len") (hm : X.mg "len" = none) (hg2 : Gl X "set") (hm2 : X.mg "set" = none) (ha : PE X a ta)
    (na : starEach [a] X.env = (false, eval a X.env) :: starEach [] X.env := by rfl) : PE X (.Call (.Name "len" p) [.Call (.Name "set" p2) [a] [] q] [] pos) (tLenStrsTQ X.K ta) := by
  refine ⟨fun pins s σ H Q I h => Call_ (ld_blt I hg hm PySem.boot_len (PyProof.Rows.callWith_builtin1 (PyProof.Rows.args_cons (Call_ (ld_blt I hg2 hm2 PyProof.Rows.boot_set ?_)) rfl) rfl rfl))⟩
  refine PyProof.Rows.callWith_type1 (PyProof.Rows.args_cons (thn (ha.run pins s σ H _ I h) fun v s1 ⟨x, H1, I1, r1, q1⟩ => PyProof.Rows.args_nil ?_) na) na rfl
  obtain ⟨l, xs, rfl, e, few, q1⟩ := q1
  cases r1
  obtain ⟨its, r, pl, _⟩ := I1.tuple e
  refine set_strsTD (xs := xs) (I1.ok.hd hc) pl (by simpa using strsAre_of r) (fun us nu su => by
    have := nd_lenS us xs nu su
    unfold scanBound
    omega) fun h' tk us nu mu so kp => PyProof.Rows.args_nil ?_
  have lu : us.length ≤ 100 := Nat.le_trans (nd_lenS us xs nu fun y hy => (mu y).mp hy) few
  obtain ⟨o, es, ep, t, ho, ex, hd, _, _, _, hf, hn⟩ := so
  exact call_len_set ho ex hd hf (by rw [hn] <;> omega) ⟨.int us.length, H1, (I1.kept fun b o z => kp b o z).tok _, ⟨_, by rw [hn]⟩, q1 us nu mu⟩
end
def strPD : PyData → Str
  | .str x => x
  | _ => ""
theorem nm_str {d : PyData} (h : nmB d = true) : d = .str (strPD d) ∧ NameOk (strPD d) := by
  cases d with
  | str x => exact ⟨rfl, nb_iff.mp h⟩
  | _ => cases h
theorem nms_str : ∀ {ds : List PyData}, ds.all nmB = true → ds = (ds.map strPD).map .str ∧ ∀ x ∈ ds.map strPD, NameOk x
  | [], _ => ⟨rfl, (fun _ h => nomatch h)⟩
  | d :: ds, h => by
    rw [List.all_cons, Bool.and_eq_true] at h
    have ih := nms_str h.2
    have h1 := nm_str h.1
    constructor
    · rw [List.map_cons, List.map_cons, ← h1.1, ← ih.1]
    · intro x hx
      rcases List.mem_cons.mp hx with z | z
      · rw [z]
        exact h1.2
      · exact ih.2 x z
def rowDB : PyData → Bool
  | .tuple ds => ds.all nmB && decide (ds.map strPD).Nodup
  | _ => false
def itemsD : PyData → List PyData
  | .list ds => ds
  | .tuple ds => ds
  | _ => []
def spRowD : Sp := fun vs H Q _ => ∃ (v : V) (bad : Addr → Prop) (d : PyData), vs = [v] ∧ Tr bad H d v ∧ d.weight ≤ 10000 ∧ (itemsD d).length ≤ 90 ∧ ∀ H', Same H H' → Q (.bl (rowDB d)) H'
/-! ### whether one bars, of any word -/
/-! ### papers of any shape -/
/-! ### the law's own look at a reason -/
section
variable {ps : List (Str × Str)} {line : List Str} {many : Nat} {x : Str} {pl : List Nat}
end
/-! ### a paper by the law's look is one by the program's -/
end Lk
set_option maxRecDepth 100000
set_option maxHeartbeats 4000000
namespace HT
open PySem PyProof.Rows
section
variable {prog : Program} {w : World} {A : Around} {E : Value → Shared → Prop} {s : Shared}
theorem places_rev (n : Nat) : Builtin.Slice.slicePlaces ((n : Int) - 1) (-1) (-1) = n := by
  unfold Builtin.Slice.slicePlaces
  have h1 : ¬ ((-1 : Int) > 0) := by decide
  simp only [h1, if_false]
  by_cases h : (n : Int) - 1 > -1
  · rw [if_pos h, show (- -1 : Int) = 1 by decide, Int.ediv_one]
    omega
  · rw [if_neg h]
    omega
theorem sliceApplied_rev {sl : Addr} {vl vu vs : Value} {n : Nat} {Q : Int × Int × Nat → Shared → Prop} (hs : s.heap.IsSliceOf sl vl vu vs) (pl : IsPart vl none) (pu : IsPart vu none) (ps : IsPart vs (some (-1)))
    (h : Q ((n : Int) - 1, -1, n) s) : wpAny (model prog w) A (Builtin.Slice.sliceApplied (.ref sl) (pure (n : Int))) Q E s := by
  obtain ⟨os, hos, hcs, hds⟩ := id hs
  unfold Builtin.Slice.sliceApplied Builtin.Slice.sliceFields
  refine wpAny_bind (wpAny_bind (wpAny_field hos hds (x := vl) rfl (wpAny_bind (wpAny_field hos hds (x := vu) rfl (wpAny_bind (wpAny_field hos hds (x := vs) rfl (wpAny_pure ?_)))))))
  refine wpAny_bind (slicePart_ ps ?_)
  show wpAny _ _ (if ((-1 : Int) == 0) = true then _ else _) _ _ s
  rw [if_neg (by decide)]
  refine wpAny_bind (slicePart_ pl (wpAny_bind (slicePart_ pu (wpAny_bind (wpAny_pure ?_)))))
  show wpAny _ _ (pure ((n : Int) - 1, (-1 : Int), Builtin.Slice.slicePlaces ((n : Int) - 1) (-1) (-1))) _ _ s
  rw [places_rev]
  exact wpAny_pure h
theorem fm_congr {α β : Type} {f g : α → Option β} : ∀ {xs : List α}, (∀ x ∈ xs, f x = g x) → xs.filterMap f = xs.filterMap g
  | [], _ => rfl
  | x :: xs, h => by
    rw [List.filterMap_cons, List.filterMap_cons, h x List.mem_cons_self, fm_congr fun y hy => h y (List.mem_cons_of_mem _ hy)]
theorem pick_rev (xs : Array Value) : ((List.range xs.size).filterMap fun (m : Nat) => xs[(((xs.size : Int) - 1) + (m : Int) * (-1)).toNat]?).toArray = xs.toList.reverse.toArray := by
  have e : (List.range xs.size).filterMap (fun (m : Nat) => xs[(((xs.size : Int) - 1) + (m : Int) * (-1)).toNat]?) = ((List.range xs.size).map fun k => xs.size - 1 - k).filterMap (xs[·]?) := by
    rw [List.filterMap_map]
    refine fm_congr fun m hm => ?_
    have := List.mem_range.mp hm
    show xs[(((xs.size : Int) - 1) + (m : Int) * (-1)).toNat]? = xs[xs.size - 1 - m]?
    rw [show (((xs.size : Int) - 1) + (m : Int) * (-1)).toNat = xs.size - 1 - m by omega]
  rw [e, PySem.W.krv_range, List.filterMap_reverse, PySem.W.krv_all]
theorem getItem_tuple_rev {t sl : Addr} {items : Array Value} {vl vu vs : Value} {Q : Value → Shared → Prop} (ht : IsTup s.heap t items) (hs : s.heap.IsSliceOf sl vl vu vs) (pl : IsPart vl none) (pu : IsPart vu none) (ps : IsPart vs (some (-1)))
    (h : Q (.ref s.heap.objs.size) { s with heap := s.heap.push { cls := .type "tuple", data := .seq items.toList.reverse.toArray } })
    (hsz : items.size ≤ sizeLine) : wpAny (model prog w) A (getItem (.ref t) (.ref sl)) Q E s := by
  have htake : sizeOk (.seq items.toList.reverse.toArray) := by
    show items.toList.reverse.toArray.size ≤ sizeLine
    rw [List.size_toArray, List.length_reverse, Array.length_toList]
    exact hsz
  obtain ⟨os, hos, hcs, hds⟩ := id hs
  have hTs : s.TypeIs (.ref sl) "slice" := ⟨os, hos, hcs⟩
  unfold getItem
  try with_reducible refine wpAny_holding ?_
  first | refine wpAny_bind (wpAny_pure ?_) | skip
  refine wpAny_bind (wpAny_sequenceKey ht.typeIs (by decide) ?_)
  refine wpAny_bind (wpAny_callSpecial?_slot (name := Str.ofString "__getitem__") ht.typeIs PyProof.Rows.slot_tuple_getitem
    (wpAny_call_entry PyProof.Rows.slot_tuple_getitem ht.typeIs entry_tuple_getitem ?_ (args_tuple_getitem _ _)))
  show wpAny _ _ (Builtin.Tuple.tupleItemsOf (.ref t) >>= _) _ _ s
  refine wpAny_bind (tupleItemsOf_ ht ?_)
  refine wpAny_bind (wpAny_typeOf hTs ?_)
  rw [if_pos (by decide)]
  refine wpAny_bind (sliceApplied_rev hs pl pu ps ?_)
  have hno : ¬ ((((items.size : Int) - 1) == 0 && (-1 : Int) == 1 && items.size == items.size) = true) := by
    simp
  show wpAny _ _ (if (((items.size : Int) - 1) == 0 && (-1 : Int) == 1 && items.size == items.size) = true then _ else _) _ _ s
  rw [if_neg hno, pick_rev]
  first
    | exact wpAny_bind (m := Builtin.Tuple.tupleExact _) (wpAny_newObj_type (wpAny_pure ⟨_, rfl, wpAny_pure h⟩) htake)
    | exact wpAny_bind (m := Builtin.Tuple.tupleExact _) (wpAny_newObj_type (wpAny_bind (wpAny_pure (wpAny_pure ⟨_, rfl, wpAny_pure h⟩))) htake)
    | exact wpAny_bind (wpAny_bind (m := Builtin.Tuple.tupleExact _) (wpAny_newObj_type (wpAny_pure (wpAny_pure ⟨_, rfl, wpAny_pure h⟩)) htake))
    | exact wpAny_bind (wpAny_bind (m := Builtin.Tuple.tupleExact _) (wpAny_newObj_type (wpAny_pure ⟨_, rfl, wpAny_pure h⟩) htake))
end
end HT
namespace Lk
open PySem PySem.Spec PyProof.Rows L2
section
variable {X : Cx}
/-- xs[::-1] of a list or a tuple -/
def tRevX (K : PySem.W.Frag) (te : TE) : TE := fun σ H Q => te σ H fun x H1 => ∃ a xs, x = .ref a ∧ ((SqL K H1 a xs ∧ ∀ p, H1 p = none → Q (.ref p) (upd H1 p (.lst xs.reverse))) ∨ (SqT K H1 a xs ∧ ∀ p H', Same H1 H' → H1 p = none → TupAt H' p xs.reverse → Q (.ref p) H'))
theorem pe_revX {e : Expr} {te : TE} {k : Nat} {p1 p2 p3 pos : Pos} (he : PE X e te) : PE X (.Subscript e (.Slice none none (some (.UnaryOp .USub (.Constant (.int 1) k p1) p2)) p3) pos) (tRevX X.K te) := by
  refine ⟨fun pins s σ H Q I h => ?_⟩
  refine Subscript_ (thn (he.run pins s σ H _ I h) fun v s1 ⟨x, H1, I1, r1, q1⟩ => ?_)
  obtain ⟨a, xs, ex, q⟩ := q1
  subst ex
  cases r1
  have hst : PO X (some (.UnaryOp .USub (.Constant (.int 1) k p1) p2)) (tPart (tUn (rU fun i => .int (-i)) (tC (.int 1)))) := po_some (pe_un un_neg pe_int)
  refine wpAny_Slice (thn (po_none.run pins s1 σ H1 (fun o H2 => o = none ∧ H2 = H1) I1 ⟨rfl, rfl⟩) fun vl s2 ⟨l, H2, I2, pl, el, e2⟩ => ?_)
  subst el e2
  refine thn (po_none.run pins s2 σ H2 (fun o H3 => o = none ∧ H3 = H2) I2 ⟨rfl, rfl⟩) fun vu s3 ⟨u, H3, I3, pu, eu, e3⟩ => ?_
  subst eu e3
  refine thn (hst.run pins s3 σ H3 (fun o H4 => o = some (-1) ∧ H4 = H3) I3 ⟨1, rfl, -1, rfl, rfl, rfl⟩) fun vs s4 ⟨o, H4, I4, ps, eo, e4⟩ => ?_
  subst eo e4
  have I5 : Inv X pins σ H4 { s4 with heap := s4.heap.push { cls := .type "slice", data := .fields #[vl, vu, vs] } } := I4.kept (t' := s4.toks) fun b ob q => Heap.get?_push_of_some _ q
  show wpAny (model X.prog X.w) X.A (subscriptTail e (.Slice none none (some (.UnaryOp .USub (.Constant (.int 1) k p1) p2)) p3) (.ref a) (.ref s4.heap.objs.size)) (EP X pins σ Q) X.xe { s4 with heap := s4.heap.push { cls := .type "slice", data := .fields #[vl, vu, vs] } }
  rcases q with ⟨hx, q⟩ | ⟨hx, q⟩
  · obtain ⟨its, r, ht, hz⟩ := I5.list hx
    have hlen := r.length
    refine tail_any (ops := [.ref a, .ref s4.heap.objs.size]) ht.isList.typeIs (PySem.slot_list_getitem.lookup) ?_ (by with_unfolding_all rfl)
    refine wpAny_getItem_list_slice ht.isList (Heap.IsSliceOf.new _ vl vu vs) pl pu ps (by decide) ?_ (by rw [List.size_toArray]; omega)
    rw [PySem.W.krv_pick]
    refine ⟨.ref _, _, I5.laid (t' := s4.toks) (o := .lst xs.reverse) (fun b ob q => Heap.get?_push_of_some _ q) (Nat.le_refl _) ?_, rfl, q _ (I5.hok.fresh (Nat.le_refl _))⟩
    exact ⟨by rw [List.length_reverse]; exact hz, _, 0, r.reverse, Heap.get?_push_size _ rfl⟩
  · obtain ⟨its, r, ht, hz⟩ := I5.tuple hx
    have hlen : its.toArray.size = xs.length := by rw [List.size_toArray]; exact r.length.symm
    refine tail_any (ops := [.ref a, .ref s4.heap.objs.size]) ht.typeIs (PyProof.Rows.slot_tuple_getitem.lookup) ?_ (by with_unfolding_all rfl)
    refine HT.getItem_tuple_rev ht (Heap.IsSliceOf.new _ vl vu vs) pl pu ps ?_ (by rw [hlen]; exact hz)
    have hf : H4 (s4.heap.push { cls := .type "slice", data := .fields #[vl, vu, vs] }).objs.size = none := I5.hok.fresh (Nat.le_refl _)
    exact ⟨.ref _, _, laid_tup (xs := xs.reverse) I5 (by rw [List.length_reverse]; exact hz) r.reverse, rfl, q _ _ (same_upd hf) hf ⟨_, rfl, upd_same⟩⟩
end
end Lk
set_option maxRecDepth 100000
set_option maxHeartbeats 4000000
namespace Lk
open PySem PySem.Spec PyProof.Rows L2
/-! ### sets whose members are tuples of anything that is carried by value (texts, numbers): below 64 members -/
section
variable {P : Program} {w : World} {A : Around} {E : Value → Shared → Prop} {s : Shared} {κ : Type} [DecidableEq κ] {knd : KeyKind P w κ}
/-! set of a tuple, some twice; sorted(set(tuple of pairs)) -/
theorem fed_loopD {R : Result → Shared → Prop} {I S : Addr} {fp wr : List Addr} {G : Array GenState → Array GenState → Prop} {n : Nat} {Pv : Nat → Value → Prop} {St : Nat → Shared → Prop}
    (W : WalksS P w A.in1 I fp wr G n Pv St) (nf : S ∉ fp) {ks : Mem κ} (en : ks.length = n) (few : ∀ us : List (List κ), us.Nodup → (∀ y ∈ us, y ∈ ks.map (·.2)) → us.length + 1 < 64) (hv : ∀ i v, Pv i v → ∃ z, ks[i]? = some z ∧ v = .ref z.1) {h0 : Heap} (lie : ∀ z ∈ ks, IsTupleKey knd h0 z.2 z.1)
    (hS : h0.get? S = none) (hw : ∀ b ∈ wr, h0.get? b = none) (hu : A.in1.units < cLine) :
    ∀ (m i : Nat) (s : Shared), i + m = n → St i s → (∀ b o, h0.get? b = some o → s.heap.get? b = some o) → (∃ L es ep t, HSet knd s.heap S L es ep t ∧ Fed (ks.take i) L) →
      (∀ s' L es ep t, Moved (S :: wr) G s s' → HSet knd s'.heap S L es ep t → Fed ks L → (∀ b o, h0.get? b = some o → s'.heap.get? b = some o) → R (.ok (.ret .none)) s') →
      codeAny (model P w) A (.builtin "set.update.loop" ⟨[.ref S, .ref I], []⟩) R s := by
  have nw : S ∉ wr := fun h => nf (W.sub _ h)
  have more : ∀ b ∈ wr, b ∈ S :: wr := fun b => List.mem_cons_of_mem _
  have stays : ∀ {s s' : Shared}, Moved wr G s s' → (∀ b o, h0.get? b = some o → s.heap.get? b = some o) → ∀ b o, h0.get? b = some o → s'.heap.get? b = some o := fun hm kp b o e =>
    hm.heap b o (fun q => by rw [hw b q] at e; cases e) (kp b o e)
  have goes : ∀ {s s' : Shared} {L es ep t} {i : Nat}, Moved wr G s s' → (∀ b o, h0.get? b = some o → s'.heap.get? b = some o) → Fed (ks.take i) L → HSet knd s.heap S L es ep t → HSet knd s'.heap S L es ep t := fun hm kp f R =>
    R.kept (fun o e => hm.heap S o nw e) fun z mz => lie_kept (lie z (List.mem_of_mem_take (f.1 z mz))) kp
  intro m
  induction m with
  | zero =>
    intro i s e st kp ⟨L, es, ep, t, so, fd⟩ fin
    have ei : i = n := by omega
    subst ei
    refine codeAny_builtin PyProof.Rows.F.entry_set_update_loop ?_
    rw [Around.under_plainId PyProof.Rows.F.plain_set_update_loop _]
    show wpAny _ A.in1 (pyNext (.ref I) >>= _) _ _ s
    refine wpAny_bind (W.done s _ _ st fun s' hm => ?_)
    have kp' := stays hm kp
    refine wpAny_pure (fin s' L es ep t (hm.mono more) (goes hm kp' fd so) ?_ kp')
    rw [← en, List.take_length] at fd
    exact fd
  | succ m ih =>
    intro i s e st kp ⟨L, es, ep, t, so, fd⟩ fin
    refine codeAny_builtin PyProof.Rows.F.entry_set_update_loop ?_
    rw [Around.under_plainId PyProof.Rows.F.plain_set_update_loop _]
    show wpAny _ A.in1 (pyNext (.ref I) >>= _) _ _ s
    refine wpAny_bind (W.item i s _ _ (by omega) st fun v s' hP st' hm => ?_)
    obtain ⟨z, hz, rfl⟩ := hv i v hP
    have kp' := stays hm kp
    have so' := goes hm kp' fd so
    have zx := lie_kept (lie z (List.mem_of_getElem? hz)) kp'
    have tl : (ks.take i).length ≤ i := by rw [List.length_take]; omega
    have ll : L.length + 1 < 64 := by
      have := few (L.map (·.2)) so'.once fun y hy => by
        obtain ⟨c, hc, rfl⟩ := List.mem_map.mp hy
        exact List.mem_map_of_mem (List.mem_of_mem_take (fd.1 c hc))
      rw [List.length_map] at this
      exact this
    show wpAny _ A.in1 (holding [Value.ref z.1] (setAdd S (.ref z.1)) >>= _) _ _ s'
    refine wpAny_bind (wpAny_holding ?_)
    unfold setAdd
    refine wpAny_holding (wpAny_bind (wpAny_pyHash_tuple hu zx ?_))
    refine add_in (s := { s' with toks := s'.toks + (z.2.length + 1) }) so' zx hu ll fun b h' L' es' ep' t' sb so2 c => ?_
    have fd' : Fed (ks.take (i + 1)) L' := by
      rw [List.take_add_one, hz]
      exact fd.step c
    have kp2 : ∀ b o, h0.get? b = some o → h'.get? b = some o := fun b o q => (sb.2 b (fun y => by rw [y, hS] at q; cases q)).trans (kp' b o q)
    refine wpAny_pure ⟨plainId_quiet PyProof.Rows.F.plain_set_update_loop _, ih (i + 1) _ (by omega) (W.frame _ s' _ _ st' (Nat.le_add_right _ _) fun b hb o y => ?_) kp2 ⟨L', es', ep', t', so2, fd'⟩ fun s2 L2 es2 ep2 t2 hm2 so4 fd4 kp4 => ?_⟩
    · exact (sb.2 b fun q => nf (q ▸ hb)).trans y
    · refine fin s2 L2 es2 ep2 t2 (Moved.trans W.gtrans ((hm.mono more).then_heap (Nat.le_add_right _ _) fun b o hb y => ?_) hm2) so4 fd4 kp4
      exact (sb.2 b fun q => hb (q ▸ List.mem_cons_self)).trans y
theorem set_memT {l : Addr} {ks : Mem κ} {Q : Value → Shared → Prop} (hh : A.handled = none) (hl : s.heap.IsTuple l (ks.map fun z => Value.ref z.1).toArray) (lie : ∀ z ∈ ks, IsTupleKey knd s.heap z.2 z.1) (few : ∀ us : List (List κ), us.Nodup → (∀ y ∈ us, y ∈ ks.map (·.2)) → us.length + 1 < 64) (hu : A.units + 3 < cLine)
    (q : ∀ (h' : Heap) (tk : Nat) L es ep t, HSet knd h' s.heap.objs.size L es ep t → Fed ks L → (∀ b o, s.heap.get? b = some o → h'.get? b = some o) → Q (.ref s.heap.objs.size) { s with heap := h', toks := tk }) :
    wpAny (model P w) A (call (.type "set") [.ref l]) Q E s := by
  obtain ⟨c, tl, hmro⟩ := PySem.F.called_set.mro
  have k1 := PySem.F.called_set.made
  have k2 := PySem.F.called_set.sub
  refine wpAny_call (codeAny_of_tree (show wpAny _ _ (callAny (.type "set") _) _ _ _ from wpAny_pure ⟨Code.quiet_builtin _ (by decide +kernel), codeAny_builtin PySem.F.entry_type_call ?_⟩))
  rw [Around.under_plain (weight_type_call_type "set" [.ref l] []) rfl]
  have k3 := PySem.F.called_set.notType
  have k4 := PySem.F.called_set.canCreate
  have k5 := PySem.F.typeCall_set_1 (.ref l)
  repeat (any_goals (first | assumption | wp_step))
  refine codeAny_mono (code_set_led1 (.ref l) (E := E) (Q₁ := fun obj s1 => obj = .ref s.heap.objs.size ∧ s1 = { s with heap := s.heap.push (setOb (!w.params.followText "set-order")) }) ⟨rfl, rfl⟩) fun r s1 hr => ?_
  match r, hr with
  | .error e, hr => exact hr
  | .ok .next, hr => exact hr.elim
  | .ok .brk, hr => exact hr.elim
  | .ok .cont, hr => exact hr.elim
  | .ok (.ret obj), hr =>
    obtain ⟨rfl, rfl⟩ := hr
    have gS : (s.heap.push (setOb (!w.params.followText "set-order"))).get? s.heap.objs.size = some (setOb (!w.params.followText "set-order")) := Heap.get?_push_size _ rfl
    have tS : Shared.TypeIs { s with heap := s.heap.push (setOb (!w.params.followText "set-order")) } (.ref s.heap.objs.size) "set" := ⟨_, gS, rfl⟩
    have k6 := PySem.F.called_set.init.lookup
    have k7 := PySem.F.called_set.init.bind (.ref s.heap.objs.size)
    repeat (any_goals (first | assumption | wp_step))
    refine codeAny_mono (codeAny_call_builtin (R := wants (fun r s2 => r = .none ∧ ∃ h' tk L es ep t, s2 = { s with heap := h', toks := tk } ∧ HSet knd h' s.heap.objs.size L es ep t ∧ Fed ks L ∧ (∀ b o, s.heap.get? b = some o → h'.get? b = some o)) E)
      PySem.F.called_set.init.plain PySem.F.entry_set_init (check_set_init_1 tS ?_)) fun r2 s2 hr2 => ?_
    · obtain ⟨⟨oc, od, oa, os⟩, lo, lc, nl, ld⟩ := hl
      simp only at lc ld
      subst lc ld
      have lt : l < s.heap.objs.size := Heap.lt_size lo
      have lo1 := Heap.get?_push_of_some (setOb (!w.params.followText "set-order")) lo
      have k8 := PySem.F.sub_tuple_set
      have k9 := PySem.F.sub_tuple_frozenset
      have k10 : (Value.type "tuple" == Value.type "dict") = false := by decide
      have l1 : (s.heap.push (setOb (!w.params.followText "set-order"))).IsTuple l (ks.map fun z => Value.ref z.1).toArray := ⟨_, lo1, rfl, nl, rfl⟩
      unfold Builtin.«set.__init__» noKeywords Builtin.Frozenset.updateFrom
      generalize hP : pyIter = Pi
      wp_walk
      subst hP
      refine wpAny_pyIter_tuple l1 (wpAny_bind (wpAny_runValue ?_))
      have sz : (s.heap.push (setOb (!w.params.followText "set-order"))).objs.size = s.heap.objs.size + 1 := Heap.size_push ..
      have ni : l ≠ (s.heap.push (setOb (!w.params.followText "set-order"))).objs.size := by rw [sz]; exact Nat.ne_of_lt (Nat.lt_succ_of_lt lt)
      have h3 : A.in1.in1.in1.handled = none := by simp [hh]
      have nf : s.heap.objs.size ∉ [(s.heap.push (setOb (!w.params.followText "set-order"))).objs.size, l] := fun z => by
        rcases List.mem_cons.mp z with z | z
        · rw [sz] at z
          exact Nat.ne_of_lt (Nat.lt_succ_self _) z
        · exact Nat.ne_of_gt lt (List.mem_singleton.mp z)
      have el : ks.length = (ks.map fun z => Value.ref z.1).toArray.size := by rw [List.size_toArray, List.length_map]
      have gone : ∀ b, s.heap.objs.size ≤ b → s.heap.get? b = none := fun b lb => by
        cases e : s.heap.get? b with
        | none => rfl
        | some o => exact absurd (Heap.lt_size e) (Nat.not_lt.mpr lb)
      refine fed_loopD ((Walks.tuple h3 _ l ni (ks.map fun z => Value.ref z.1).toArray).toS) nf el few (fun i v hv => ?_) lie (gone _ (Nat.le_refl _)) (fun b mb => gone b ?_) hu (ks.map fun z => Value.ref z.1).toArray.size 0 _ (Nat.zero_add _) ⟨⟨_, Heap.get?_push_size _ rfl, rfl, rfl⟩, l1.push _⟩ (fun b o z => Heap.get?_push_of_some _ (Heap.get?_push_of_some _ z)) ⟨[], #[], 0, _, HSet.new ?_, Fed.nil⟩ fun s' L es ep t hm so fd kp => ?_
      · have g : ks[i]?.map (fun z => Value.ref z.1) = some v := by
          rw [← List.getElem?_map]
          simpa using hv
        obtain ⟨z, hz, e⟩ := Option.map_eq_some_iff.mp g
        exact ⟨z, hz, e.symm⟩
      · rw [List.mem_singleton.mp mb, sz]
        exact Nat.le_succ _
      · exact Heap.get?_push_of_some _ gS
      · obtain ⟨h', g', d', tk', os'⟩ := s'
        obtain rfl : g' = s.gens := hm.gens
        obtain rfl : d' = s.drawn := hm.drawn
        obtain rfl : os' = s.os := hm.os
        exact wpAny_pure (show wpAny _ _ (ret Value.none) _ _ _ from wpAny_pure ⟨rfl, h', tk', L, es, ep, t, rfl, so, fd, kp⟩)
    · match r2, hr2 with
      | .error e, hr2 => exact hr2
      | .ok .next, hr2 => exact hr2.elim
      | .ok .brk, hr2 => exact hr2.elim
      | .ok .cont, hr2 => exact hr2.elim
      | .ok (.ret r), hr2 =>
        obtain ⟨rfl, h', tk, L, es, ep, t, rfl, so, fd, kp⟩ := hr2
        repeat (any_goals (first | assumption | wp_step))
        exact q _ _ _ _ _ _ so fd kp
end
section
variable {X : Cx}
def tSortSetT (K : PySem.W.Frag) (ta : TE) : TE := fun σ H Q => ta σ H fun x H1 => ∃ (l : Addr) (bs : Prs), x = .ref l ∧ SqT K H1 l (bs.map fun b => V.ref b.1) ∧ (∀ b ∈ bs, SqT K H1 b.1 [.str b.2.1, .str b.2.2]) ∧ bs.length ≤ 1000 ∧ (∀ us : List (Str × Str), us.Nodup → (∀ y ∈ us, y ∈ bs.map (·.2)) → us.length + 1 < 64) ∧
  ∀ (cs : Prs) (D : Addr), (∀ c ∈ cs, c ∈ bs) → (∀ b ∈ bs, b.2 ∈ cs.map (·.2)) → (cs.map (·.2)).Nodup → cs.length ≤ bs.length → (∃ ds : Prs, cs = ds.mergeSort (PySem.W.dataLe false encP)) → H1 D = none → Q (.ref D) (upd H1 D (.lst (cs.map fun c => V.ref c.1)))
theorem pe_sortSetT {a : Expr} {ta : TE} {p p2 q pos : Pos} (hc : X.calm = true) (hu : X.A.units + 64 < cLine) (hg : Gl X "sorted") (hm : X.mg "sorted" = none) (hg2 : Gl X "set") (hm2 : X.mg "set" = none) (ha : PE X a ta)
    (na : starEach [a] X.env = (false, eval a X.env) :: starEach [] X.env := by rfl) : PE X (.Call (.Name "sorted" p) [.Call (.Name "set" p2) [a] [] q] [] pos) (tSortSetT X.K ta) := by
  refine ⟨fun pins s σ H Q I h => Call_ (ld_blt I hg hm PyProof.Rows.boot_sorted (PyProof.Rows.callWith_builtin1 (PyProof.Rows.args_cons (Call_ (ld_blt I hg2 hm2 PyProof.Rows.boot_set ?_)) rfl) rfl rfl))⟩
  refine PyProof.Rows.callWith_type1 (PyProof.Rows.args_cons (thn (ha.run pins s σ H _ I h) fun v s1 ⟨x, H1, I1, r1, q1⟩ => PyProof.Rows.args_nil ?_) na) na rfl
  obtain ⟨l, bs, rfl, e, two, lb, few, q1⟩ := q1
  cases r1
  obtain ⟨its, r, pl, _⟩ := I1.tuple e
  have ei := refs_vals r
  subst ei
  have lie : ∀ z ∈ bs.map memOf, IsTupleKey (PySem.strKind X.prog X.w) s1.heap z.2 z.1 := fun z mz => by
    obtain ⟨b, mb, rfl⟩ := List.mem_map.mp mz
    obtain ⟨us, r2, ⟨o, g, c, n, dat⟩, _⟩ := I1.tuple (two b mb)
    obtain ⟨u1, u2, rfl, ⟨t1, rfl⟩, ⟨t2, rfl⟩⟩ := vals2 r2
    exact ⟨o, _, n, g, c, dat, .cons (PySem.strKind_is _ _ _ _) (.cons (PySem.strKind_is _ _ _ _) .nil)⟩
  have pl2 : s1.heap.IsTuple l ((bs.map memOf).map fun z => Value.ref z.1).toArray := by
    rw [List.map_map]
    exact pl
  have fewL : ∀ us : List (List Str), us.Nodup → (∀ y ∈ us, y ∈ (bs.map memOf).map (·.2)) → us.length + 1 < 64 := fun us nu mu => by
    have key : ∀ y ∈ us, ∃ c : Str × Str, y = [c.1, c.2] ∧ c ∈ bs.map (·.2) := fun y hy => by
      obtain ⟨z, mz, ez⟩ := List.mem_map.mp (mu y hy)
      obtain ⟨b, mb, rfl⟩ := List.mem_map.mp mz
      exact ⟨b.2, ez.symm, List.mem_map_of_mem mb⟩
    have inv : (us.map fun y => (y.headD Str.empty, y.getD 1 Str.empty)).map (fun c : Str × Str => [c.1, c.2]) = us := by
      rw [List.map_map]
      refine (List.map_congr_left fun y hy => ?_).trans (List.map_id us)
      obtain ⟨c, rfl, _⟩ := key y hy
      rfl
    have h := few (us.map fun y => (y.headD Str.empty, y.getD 1 Str.empty)) (List.Pairwise.of_map (S := fun x y : List Str => x ≠ y) (fun c : Str × Str => [c.1, c.2]) (fun _ _ ne e => ne (by rw [e])) (by rw [inv]; exact nu)) fun y hy => by
      obtain ⟨z, mz, rfl⟩ := List.mem_map.mp hy
      obtain ⟨c, rfl, mc⟩ := key z mz
      exact mc
    rw [List.length_map] at h
    exact h
  refine set_memT (I1.ok.hd hc) pl2 lie fewL (by omega) fun h' tk L es ep t so fd kp => PyProof.Rows.args_nil ?_
  have I2 := I1.kept (t' := tk) kp
  have onto : ∀ z ∈ L, ∃ b ∈ bs, memOf b = z := fun z mz => List.mem_map.mp (fd.1 z mz)
  refine sort_mem (s := { s1 with heap := h', toks := tk }) so (I1.ok.hd hc) hu (fun z mz => ?_) fun s' D c M kp2 g1 o1 sz pM at_ => ?_
  · obtain ⟨b, _, rfl⟩ := onto z mz
    exact ⟨_, _, rfl⟩
  generalize eN : M.mergeSort (PySem.W.dataLe false fun z => encP (prsOf z)) = N at at_
  have pN : N.Perm L := by
    rw [← eN]
    exact (List.mergeSort_perm _ _).trans pM
  have back : (N.map prsOf).map memOf = N := by
    rw [List.map_map]
    refine (List.map_congr_left fun z mz => ?_).trans (List.map_id N)
    obtain ⟨b, _, rfl⟩ := onto z (pN.mem_iff.mp mz)
    rfl
  have en : (N.map prsOf).map (fun c => Value.ref c.1) = N.map fun z => Value.ref z.1 := by
    rw [List.map_map]
    rfl
  have lN : (N.map prsOf).length ≤ bs.length := by
    have := fd.2.2
    rw [List.length_map] at this
    rw [List.length_map, pN.length_eq]
    exact this
  have lz : ((N.map prsOf).map fun c => V.ref c.1).length ≤ sizeLine := by
    rw [List.length_map, sizeLine_eq]
    omega
  have hn : H1 D = none := I2.hok.fresh sz
  rw [← en] at at_
  refine ⟨.ref D, upd H1 D (.lst ((N.map prsOf).map fun c => V.ref c.1)), I2.call' (ch := []) o1 (Un.laid kp2 sz hn) (I2.hok.laid kp2 sz ⟨lz, _, c, vals_refs _, at_⟩) (by rw [g1]; exact I2.bare) (fun _ z => nomatch z), rfl, q1 (N.map prsOf) D (fun c mc => ?_) (fun b mb => ?_) ?_ lN ⟨M.map prsOf, ?_⟩ hn⟩
  · obtain ⟨z, mz, rfl⟩ := List.mem_map.mp mc
    obtain ⟨b, mb, rfl⟩ := onto z (pN.mem_iff.mp mz)
    exact mb
  · obtain ⟨z, mz, ez⟩ := List.mem_map.mp (fd.2.1 (memOf b) (List.mem_map.mpr ⟨b, mb, rfl⟩))
    obtain ⟨b', mb', rfl⟩ := onto z mz
    rw [List.map_map]
    refine List.mem_map.mpr ⟨memOf b', pN.mem_iff.mpr mz, ?_⟩
    have e2 : [b'.2.1, b'.2.2] = [b.2.1, b.2.2] := ez
    injection e2 with e3 e4
    injection e4 with e4 _
    exact Prod.ext e3 e4
  · have od : (N.map (·.2)).Nodup := (pN.map (·.2)).nodup_iff.mpr so.once
    rw [← back, List.map_map] at od
    have od2 : (((N.map prsOf).map (·.2)).map fun y : Str × Str => [y.1, y.2]).Nodup := by
      rw [List.map_map]
      exact od
    exact List.Pairwise.of_map _ (fun _ _ ne e => ne (by rw [e])) od2
  · rw [← eN]
    exact List.map_mergeSort fun a _ b _ => rfl
end
end Lk
set_option maxRecDepth 100000
set_option maxHeartbeats 4000000
namespace Lk
open PySem PySem.Spec PyProof.Rows L2
/-! ### the greatest number in a thing -/
mutual
def bigD : PyData → Nat
  | .int i => i.natAbs
  | .list ds => bigAll ds
  | .tuple ds => bigAll ds
  | .none => 0
  | .bool _ => 0
  | .str _ => 0
  | .dict _ => 0
def bigAll : List PyData → Nat
  | [] => 0
  | d :: ds => max (bigD d) (bigAll ds)
end
theorem bigAll_le {n : Nat} : ∀ {ds : List PyData}, (∀ d ∈ ds, bigD d ≤ n) → bigAll ds ≤ n
  | [], _ => by simp only [bigAll]; exact Nat.zero_le _
  | d :: ds, h => by
    simp only [bigAll]
    exact Nat.max_le.mpr ⟨h d List.mem_cons_self, bigAll_le fun e he => h e (List.mem_cons_of_mem _ he)⟩
theorem bigAll_mem : ∀ {ds : List PyData} {d : PyData}, d ∈ ds → bigD d ≤ bigAll ds
  | [], _, h => nomatch h
  | e :: ds, d, h => by
    simp only [bigAll]
    rcases List.mem_cons.mp h with z | z
    · rw [z]
      exact Nat.le_max_left _ _
    · exact Nat.le_trans (bigAll_mem z) (Nat.le_max_right _ _)
theorem big_of {n : Nat} {d : PyData} {ds : List PyData} (e : d = .list ds ∨ d = .tuple ds) (h : ∀ c ∈ ds, bigD c ≤ n) : bigD d ≤ n := by
  rcases e with e | e <;> subst e <;> simp only [bigD] <;> exact bigAll_le h
theorem big_item {d c : PyData} {ds : List PyData} (e : d = .list ds ∨ d = .tuple ds) (h : c ∈ ds) : bigD c ≤ bigD d := by
  rcases e with e | e <;> subst e <;> simp only [bigD] <;> exact bigAll_mem h
/-! ### texts -/
theorem shifted_ok {N : Nat} : ∀ {l : List (Nat × Nat × Nat)} {c r : Nat}, (l.all fun e => decide (e.2.2 + (e.2.1 - e.1) < N)) = true → Unicode.shifted l c = some r → r < N
  | [], _, _, _, h => nomatch h
  | (a, b, t) :: l, c, r, hl, h => by
    rw [List.all_cons, Bool.and_eq_true] at hl
    have h : (if c < a then none else if c ≤ b then some (t + (c - a)) else Unicode.shifted l c) = some r := h
    by_cases h1 : c < a
    · rw [if_pos h1] at h
      cases h
    · rw [if_neg h1] at h
      by_cases h2 : c ≤ b
      · rw [if_pos h2] at h
        have := of_decide_eq_true hl.1
        cases h
        show t + (c - a) < N
        have : t + (b - a) < N := this
        omega
      · rw [if_neg h2] at h
        exact shifted_ok hl.2 h
theorem one_ok : (UnicodeData.oneUpper.all fun e => decide (e.2.2 + (e.2.1 - e.1) < 0x110000)) = true := by decide +kernel
theorem several_ok : (UnicodeData.severalUpper.all fun e => e.2.all fun c => decide (c < 0x110000)) = true := by decide +kernel
theorem lookup_mem {α : Type} : ∀ {l : List (Nat × α)} {c : Nat} {x : α}, l.lookup c = some x → ∃ k, (k, x) ∈ l
  | [], _, _, h => nomatch h
  | (k, y) :: l, c, x, h => by
    rw [List.lookup_cons] at h
    split at h
    · cases h
      exact ⟨k, List.mem_cons_self⟩
    · obtain ⟨k', h'⟩ := lookup_mem h
      exact ⟨k', List.mem_cons_of_mem _ h'⟩
theorem upperOf_ok {c : Nat} (hc : c < 0x110000) : ∀ x ∈ Unicode.upperOf c, x < 0x110000 := by
  unfold Unicode.upperOf Unicode.image
  intro x hx
  cases e : UnicodeData.severalUpper.lookup c with
  | some cs =>
    rw [e] at hx
    obtain ⟨k, hk⟩ := lookup_mem e
    have h1 := List.all_eq_true.mp several_ok _ hk
    exact of_decide_eq_true (List.all_eq_true.mp h1 x hx)
  | none =>
    rw [e] at hx
    have hx : x ∈ [(Unicode.shifted UnicodeData.oneUpper c).getD c] := hx
    rw [List.mem_singleton.mp hx]
    cases e2 : Unicode.shifted UnicodeData.oneUpper c with
    | none => exact hc
    | some r => exact shifted_ok one_ok e2
theorem good_iff {x : Str} : Good x ↔ ∀ c ∈ x.cps.toList, c < 0x110000 := by
  unfold Good PyData.strOk
  rw [Array.all_eq_true']
  constructor
  · intro h c hc
    exact of_decide_eq_true (h c (Array.mem_toList_iff.mp hc))
  · intro h c hc
    exact decide_eq_true (h c (Array.mem_toList_iff.mpr hc))
theorem upper_good {x : Str} (h : Good x) : Good (Txt.upper x) := by
  rw [good_iff] at h ⊢
  intro c hc
  have hc : c ∈ (placed x fun _ c => Unicode.upperOf c).toList := hc
  unfold placed at hc
  rw [Array.mem_toList_iff, Array.mem_flatten] at hc
  obtain ⟨arr, ha, hc⟩ := hc
  rw [Array.mem_mapIdx] at ha
  obtain ⟨i, hi, rfl⟩ := ha
  refine upperOf_ok (c := x.cps[i]) (h _ (Array.mem_toList_iff.mpr (Array.getElem_mem hi))) c ?_
  simpa using hc
theorem app_good {x y : Str} (hx : Good x) (hy : Good y) : Good (x ++ y) := by
  rw [good_iff] at *
  intro c hc
  have hc : c ∈ (x.cps ++ y.cps).toList := hc
  rw [Array.toList_append] at hc
  exact (List.mem_append.mp hc).elim (hx c) (hy c)
theorem cut_good {x : Str} {lo hi : Option Int} (h : Good x) : Good (cutS x lo hi) := by
  rw [good_iff] at *
  intro c hc
  have hc : c ∈ (((x.cps.toList.drop (HT.sIx x.length 0 lo)).take (HT.sIx x.length x.length hi - HT.sIx x.length 0 lo)).toArray).toList := hc
  rw [List.toList_toArray] at hc
  exact h c (List.mem_of_mem_drop (List.mem_of_mem_take hc))
theorem int_good : ∀ i : Int, i.natAbs ≤ 50 → Good (toString i : Str) ∧ (toString i : Str).length ≤ 8 := by
  have h : ∀ n : Fin 101, PyData.strOk (toString ((n.val : Int) - 50) : Str) = true ∧ (toString ((n.val : Int) - 50) : Str).length ≤ 8 := by decide +kernel
  intro i hi
  have e := h ⟨(i + 50).toNat, by omega⟩
  have e1 : (((i + 50).toNat : Nat) : Int) - 50 = i := by omega
  simp only [e1] at e
  exact e
/-! ### numbers and truths -/
def numV : V → Option Int
  | .int i => some i
  | .bl b => some (b2i b)
  | _ => none
section
variable {X : Cx}
theorem op_addNum : OpR X (binaryOp .Add) (fun x y H Q => ∃ k j, numV x = some k ∧ y = .int j ∧ Q (.int (k + j)) H) := by
  intro pins s σ H x y v u Q I rx ry h
  obtain ⟨k, j, hx, rfl, q⟩ := h
  cases x with
  | int i =>
    cases hx
    exact op_add pins s σ H _ _ v u Q I rx ry ⟨_, _, rfl, rfl, q⟩
  | bl c =>
    cases hx
    cases rx
    obtain ⟨t, rfl⟩ := ry
    exact PySem.IntBool.add_bool_int ⟨.int (b2i c + j), H, I.tok _, ⟨_, rfl⟩, q⟩
  | _ => cases hx
theorem op_subNum : OpR X (binaryOp .Sub) (fun x y H Q => ∃ k j, numV x = some k ∧ y = .int j ∧ Q (.int (k - j)) H) := by
  intro pins s σ H x y v u Q I rx ry h
  obtain ⟨k, j, hx, rfl, q⟩ := h
  cases x with
  | int i =>
    cases hx
    exact op_sub pins s σ H _ _ v u Q I rx ry ⟨_, _, rfl, rfl, q⟩
  | bl c =>
    cases hx
    cases rx
    obtain ⟨t, rfl⟩ := ry
    exact PySem.IntBool.sub_bool_int ⟨.int (b2i c - j), H, I.tok _, ⟨_, rfl⟩, q⟩
  | _ => cases hx
theorem call_strNum : CallR X (.type "str") (fun xs H Q => ∃ x, xs = [x] ∧ ((∃ i : Int, x = .int i ∧ i.natAbs.log2 < 1920 ∧ Q (.str (toString i)) H) ∨ ∃ c : Bool, x = .bl c ∧ Q (.str (if c = true then "True" else "False")) H)) := by
  intro pins s σ H xs us Q I r h
  obtain ⟨x, rfl, h⟩ := h
  rcases h with ⟨i, rfl, hi, q⟩ | ⟨c, rfl, q⟩
  · exact call_str_int pins s σ H _ us Q I r ⟨i, rfl, hi, q⟩
  · obtain ⟨u, rfl, rfl⟩ := vals1 r
    exact PySem.P.str_of_bool ⟨.str _, H, I.tok _, ⟨_, rfl⟩, q⟩
/-! ### twice a list or a tuple; a cut of either -/
def rDblX : R2 := fun x y H Q => ∃ a xs, x = .ref a ∧ y = .ref a ∧ xs.length + xs.length ≤ sizeLine ∧ ((H a = some (.lst xs) ∧ ∀ p, H p = none → Q (.ref p) (upd H p (.lst (xs ++ xs)))) ∨ (TupX H a xs ∧ ∀ t H', Same H H' → TupX H' t (xs ++ xs) → (t = a ∨ H t = none) → Q (.ref t) H'))
theorem op_dblX : OpR X (binaryOp .Add) rDblX := by
  intro pins s σ H x y v u Q I rx ry h
  obtain ⟨a, xs, rfl, rfl, hz, h⟩ := h
  rcases h with ⟨ha, q⟩ | ⟨ha, q⟩
  · exact op_cat pins s σ H _ _ v u Q I rx ry ⟨a, a, xs, xs, rfl, rfl, ha, ha, hz, q⟩
  · cases rx
    cases ry
    obtain ⟨its, r1, p1, _⟩ := I.tuple (ha.sq (K := X.K))
    by_cases hx : xs = []
    · subst hx
      cases r1
      exact cat_tup0 p1 p1 ⟨.ref a, H, I, rfl, q a H (Same.refl H) ha (.inl rfl)⟩
    · refine HT.cat_tup p1 p1 (fun z => hx (r1.nil_iff.mp z)) (fun z => absurd (r1.nil_iff.mp z) hx) (fun z => ?_) (by rw [← r1.length]; exact hz)
      have hf : H s.heap.objs.size = none := I.hok.fresh (Nat.le_refl _)
      exact ⟨.ref s.heap.objs.size, _, laid_tup (xs := xs ++ xs) I (by rw [List.length_append]; exact hz) (r1.append r1), rfl, q _ _ (same_upd hf) (.inr ⟨_, rfl, upd_same⟩) (.inr hf)⟩
def rSlX (K : PySem.W.Frag) : V → Option Int → Option Int → Hp → VK → Prop := fun x lo hi H Q => ∃ a xs, x = .ref a ∧ ((H a = some (.lst xs) ∧ ∀ p, H p = none → Q (.ref p) (upd H p (.lst (cutV xs lo hi)))) ∨ (TupX H a xs ∧ ∀ t H', Same H H' → TupX H' t (cutV xs lo hi) → (t = a ∨ H t = none) → Q (.ref t) H'))
theorem sl_X : SlR X (rSlX X.K) := by
  intro pins s σ H x v vl vu lo hi sl Q I rx hs pl pu h
  obtain ⟨a, xs, rfl, h⟩ := h
  rcases h with ⟨ha, q⟩ | ⟨ha, q⟩
  · exact sl_list pins s σ H _ v vl vu lo hi sl Q I rx hs pl pu ⟨a, xs, rfl, .inl (.inl ha), q⟩
  · by_cases hw : HT.sIx xs.length 0 lo = 0 ∧ HT.sIx xs.length xs.length hi = xs.length
    · exact sl_tupA pins s σ H _ v vl vu lo hi sl Q I rx hs pl pu ⟨a, xs, rfl, ha.sq, fun _ => q a H (Same.refl H) (by rw [cutV_whole hw]; exact ha) (.inl rfl), fun z => absurd hw z⟩
    · cases rx
      obtain ⟨its, r, ht, hz⟩ := I.tuple (ha.sq (K := X.K))
      have hlen : its.toArray.size = xs.length := by rw [List.size_toArray]; exact r.length.symm
      refine ⟨"tuple", _, PyProof.Rows.slot_tuple_getitem.lookup, ht.typeIs, ?_⟩
      refine HT.getItem_tuple_cut ht hs pl pu (by rw [hlen]; exact hw) ?_ (by rw [hlen]; exact hz)
      rw [hlen]
      have hf : H s.heap.objs.size = none := I.hok.fresh (Nat.le_refl _)
      exact ⟨.ref s.heap.objs.size, _, laid_tup (xs := cutV xs lo hi) I (Nat.le_trans (cutV_length xs lo hi) hz) ((r.drop (HT.sIx xs.length 0 lo)).take (HT.sIx xs.length xs.length hi - HT.sIx xs.length 0 lo)), rfl, q _ _ (same_upd hf) (.inr ⟨_, rfl, upd_same⟩) (.inr hf)⟩
end
/-! ### text.strip(letters) == '' -/
theorem tw_all {g : Nat → Bool} : ∀ {l : List Nat}, l.all g = true → l.takeWhile g = l
  | [], _ => rfl
  | c :: l, h => by
    rw [List.all_cons, Bool.and_eq_true] at h
    rw [List.takeWhile_cons, h.1]
    show c :: l.takeWhile g = c :: l
    rw [tw_all h.2]
theorem tw_lt {g : Nat → Bool} : ∀ {l : List Nat}, l.all g = false → (l.takeWhile g).length < l.length
  | [], h => by cases h
  | c :: l, h => by
    rw [List.all_cons] at h
    rw [List.takeWhile_cons]
    cases e : g c with
    | false => exact Nat.succ_pos _
    | true =>
      rw [e, Bool.true_and] at h
      exact Nat.succ_lt_succ (tw_lt h)
theorem tw_rest {g : Nat → Bool} : ∀ {l : List Nat}, l.all g = false → (l.drop (l.takeWhile g).length).all g = false
  | [], h => by cases h
  | c :: l, h => by
    rw [List.takeWhile_cons]
    cases e : g c with
    | false =>
      show (c :: l).all g = false
      rw [List.all_cons, e, Bool.false_and]
    | true =>
      rw [List.all_cons, e, Bool.true_and] at h
      exact tw_rest h
theorem str_empty {x : Str} : x = "" ↔ x.cps.size = 0 := by
  constructor
  · rintro rfl
    decide
  · intro h
    have : x.cps = #[] := Array.eq_empty_of_size_eq_zero h
    obtain ⟨c⟩ := x
    cases this
    rfl
theorem strip_empty {x y : Str} : Txt.stripChars x y = "" ↔ x.cps.toList.all y.cps.contains = true := by
  unfold Txt.stripChars Txt.stripBy
  have eLo : stripLo y.cps.contains true x = (x.cps.toList.takeWhile y.cps.contains).length := rfl
  have eHi : ∀ lo, stripHi y.cps.contains true x lo = x.length - ((x.cps.toList.drop lo).reverse.takeWhile y.cps.contains).length := fun _ => rfl
  have len : x.length = x.cps.toList.length := by rw [Array.length_toList]; rfl
  cases e : x.cps.toList.all y.cps.contains with
  | true =>
    rw [tw_all e] at eLo
    refine ⟨fun _ => rfl, fun _ => ?_⟩
    by_cases h : stripSame y.cps.contains true true x = true
    · rw [if_pos h]
      unfold stripSame at h
      rw [Bool.and_eq_true, eLo] at h
      have h1 := eq_of_beq h.1
      rw [str_empty]
      rw [← len] at h1
      exact h1
    · rw [if_neg h, str_empty]
      unfold stripped Builtin.Str.strSub
      show (x.cps.extract _ _).size = 0
      rw [Array.size_extract, eLo, eHi]
      have : x.cps.size = x.length := rfl
      omega
  | false =>
    refine ⟨fun h => ?_, fun h => by cases h⟩
    exfalso
    have h1 := tw_lt e
    have h2 := tw_rest e
    rw [← List.all_reverse] at h2
    have h3 := tw_lt h2
    rw [List.length_reverse, List.length_drop] at h3
    by_cases hs : stripSame y.cps.contains true true x = true
    · rw [if_pos hs, str_empty] at h
      have : x.cps.size = x.length := rfl
      omega
    · rw [if_neg hs, str_empty] at h
      unfold stripped Builtin.Str.strSub at h
      have h : (x.cps.extract (stripLo y.cps.contains true x) (stripHi y.cps.contains true x (stripLo y.cps.contains true x))).size = 0 := h
      rw [Array.size_extract, eHi, eLo] at h
      have : x.cps.size = x.length := rfl
      omega
theorem letters_lb (c : Nat) : (Str.ofString "abcdefghijklmnopqrstuvwxyz").cps.contains c = lb c := by
  have e : (Str.ofString "abcdefghijklmnopqrstuvwxyz").cps = #[97, 98, 99, 100, 101, 102, 103, 104, 105, 106, 107, 108, 109, 110, 111, 112, 113, 114, 115, 116, 117, 118, 119, 120, 121, 122] := by decide +kernel
  rw [e, Bool.eq_iff_iff, Array.contains_iff_mem]
  unfold lb
  simp only [List.mem_toArray, List.mem_cons, List.not_mem_nil, or_false, Bool.and_eq_true, decide_eq_true_eq]
  omega
theorem strip_lb {x : Str} : decide (Txt.stripChars x "abcdefghijklmnopqrstuvwxyz" = "") = (x.cps.toList.map lb).all id := by
  rw [Bool.eq_iff_iff, decide_eq_true_iff]
  have h : x.cps.toList.all (Str.ofString "abcdefghijklmnopqrstuvwxyz").cps.contains = x.cps.toList.all (id ∘ lb) := by
    congr 1
    funext c
    exact letters_lb c
  rw [List.all_map, ← h]
  exact strip_empty
/-! ### what is odd, what is bent -/
structure OddOk (m w : Nat) (d d' : PyData) : Prop where
  ok : Okd (m + 1) (3 * w + 60) d'
  wid : widD d' ≤ 2 * widD d + 2
  big : bigD d' ≤ bigD d + 2
  few : ∃ c1 c2, ∀ c ∈ itemsD d', c = c1 ∨ c = c2 ∨ c ∈ itemsD d
def spOddO : Sp := fun vs H Q _ => ∃ (b : Addr) (bad : Addr → Prop) (d : PyData) (v : V) (m w : Nat), vs = [.ref b, v] ∧ IsBox H b ∧ bad b ∧ (∀ a, bad a → H a ≠ none) ∧ Tr bad H d v ∧ Okd m w d ∧ w ≤ 100000 ∧ bigD d ≤ 40 ∧
  ∀ d' v' H', Oth b H H' → IsBox H' b → Tr bad H' d' v' → OddOk m w d d' → Q v' H'
def spBentO (n : Nat) : Sp := fun vs H Q _ => ∃ (b : Addr) (bad : Addr → Prop) (d : PyData) (v : V) (m w : Nat), vs = [.ref b, v] ∧ IsBox H b ∧ bad b ∧ (∀ a, bad a → H a ≠ none) ∧ Tr bad H d v ∧ d.depth < n ∧ Okd m w d ∧ w ≤ 100000 ∧ bigD d ≤ 40 ∧
  ∀ d' v' H', Oth b H H' → IsBox H' b → Tr bad H' d' v' → OddOk m w d d' → Q v' H'
theorem odd0_ok : ∀ d ∈ ([.none, .bool true, .bool false, .int 0, .int 1, .int (-1), .str "", .str "a", .str "abcdefghi", .str "A", .str "a b", .tuple [], .list [], .tuple [.str "a"], .tuple [.str "a", .str "a"], .list [.str "a", .str "b"]] : List PyData), Okd 1 60 d ∧ widD d ≤ 2 ∧ bigD d ≤ 1 ∧ ∀ c ∈ itemsD d, c = .str "a" ∨ c = .str "b" := by
  have g : Good "" ∧ Good "a" ∧ Good "abcdefghi" ∧ Good "A" ∧ Good "a b" ∧ Good "b" := by
    refine ⟨?_, ?_, ?_, ?_, ?_, ?_⟩ <;> (show PyData.strOk _ = true; decide +kernel)
  obtain ⟨g1, g2, g3, g4, g5, g6⟩ := g
  have e0 : OkL 0 60 [] := ⟨(fun _ h => nomatch h), by simp only [PyData.weightAll]; exact Nat.zero_le _⟩
  have ab : ∀ l : List PyData, (∀ c ∈ l, c = .str "a" ∨ c = .str "b") → PyData.weightAll l ≤ 60 → OkL 0 60 l := fun l h w => OkL.of (w := 10) (fun c hc => by
    rcases h c hc with e | e <;> rw [e]
    · exact okd_str g2 (by decide +kernel)
    · exact okd_str g6 (by decide +kernel)) w
  have m1 : ∀ c ∈ ([.str "a"] : List PyData), c = .str "a" ∨ c = .str "b" := fun c hc => by simp at hc; exact .inl hc
  have m2 : ∀ c ∈ ([.str "a", .str "a"] : List PyData), c = .str "a" ∨ c = .str "b" := fun c hc => by simp at hc; exact .inl hc
  have m3 : ∀ c ∈ ([.str "a", .str "b"] : List PyData), c = .str "a" ∨ c = .str "b" := fun c hc => by simpa using hc
  intro d hd
  simp only [List.mem_cons, List.not_mem_nil, or_false] at hd
  rcases hd with h | h | h | h | h | h | h | h | h | h | h | h | h | h | h | h <;> subst h
  · exact ⟨okd_none, by decide, by decide, fun _ h => nomatch h⟩
  · exact ⟨okd_bool _, by decide, by decide, fun _ h => nomatch h⟩
  · exact ⟨okd_bool _, by decide, by decide, fun _ h => nomatch h⟩
  · exact ⟨okd_int (by decide) (by decide), by decide, by decide, fun _ h => nomatch h⟩
  · exact ⟨okd_int (by decide) (by decide), by decide, by decide, fun _ h => nomatch h⟩
  · exact ⟨okd_int (by decide) (by decide), by decide, by decide, fun _ h => nomatch h⟩
  · exact ⟨okd_str g1 (by decide +kernel), by decide, by decide, fun _ h => nomatch h⟩
  · exact ⟨okd_str g2 (by decide +kernel), by decide, by decide, fun _ h => nomatch h⟩
  · exact ⟨okd_str g3 (by decide +kernel), by decide, by decide, fun _ h => nomatch h⟩
  · exact ⟨okd_str g4 (by decide +kernel), by decide, by decide, fun _ h => nomatch h⟩
  · exact ⟨okd_str g5 (by decide +kernel), by decide, by decide, fun _ h => nomatch h⟩
  · exact ⟨okd_tuple e0, by decide, by decide, fun _ h => nomatch h⟩
  · exact ⟨okd_list e0, by decide, by decide, fun _ h => nomatch h⟩
  · exact ⟨okd_tuple (ab _ m1 (by decide +kernel)), by decide, by decide, m1⟩
  · exact ⟨okd_tuple (ab _ m2 (by decide +kernel)), by decide, by decide, m2⟩
  · exact ⟨okd_list (ab _ m3 (by decide +kernel)), by decide, by decide, m3⟩
end Lk
set_option maxRecDepth 100000
set_option maxHeartbeats 4000000
namespace Lk
open PySem PySem.Spec PyProof.Rows L2
/-! ### friends of any shape -/
def prD : PyData → Bool
  | .tuple [.str x, .str y] => fpB [x, y]
  | _ => false
def twoD : PyData → Str × Str
  | .tuple [.str x, .str y] => (x, y)
  | _ => ("", "")
def frD : PyData → Bool
  | .tuple ds => ds.all prD && riseB (ds.map twoD)
  | _ => false
theorem prD_two {a c : PyData} : prD (.tuple [a, c]) = (nmB a && nmB c && decide ((strPD a).cps.toList < (strPD c).cps.toList)) := by
  cases a <;> cases c <;> simp [prD, nmB, fpB, strPD]
theorem prD_form {d : PyData} (h : prD d = true) : d = encQ (twoD d) ∧ NameOk (twoD d).1 ∧ NameOk (twoD d).2 ∧ (twoD d).1.cps.toList < (twoD d).2.cps.toList := by
  match d, h with
  | .tuple [.str x, .str y], h =>
    have h : (nb x && nb y && decide (x.cps.toList < y.cps.toList)) = true := h
    simp only [Bool.and_eq_true, decide_eq_true_eq] at h
    exact ⟨rfl, nb_iff.mp h.1.1, nb_iff.mp h.1.2, h.2⟩
theorem prD_len {ds : List PyData} (h : ds.length ≠ 2) : prD (.tuple ds) = false := by
  match ds, h with
  | [], _ => rfl
  | [a], _ => cases a <;> rfl
  | [_, _], h => exact absurd rfl h
  | a :: c :: e :: r, _ => cases a <;> cases c <;> rfl
def spIfpD : Sp := fun vs H Q _ => ∃ (v : V) (bad : Addr → Prop) (d : PyData), vs = [v] ∧ Tr bad H d v ∧ d.weight ≤ 10000 ∧ ∀ H', Same H H' → Q (.bl (prD d)) H'
def spIfrD : Sp := fun vs H Q _ => ∃ (v : V) (bad : Addr → Prop) (d : PyData), vs = [v] ∧ Tr bad H d v ∧ d.weight ≤ 10000 ∧ (itemsD d).length ≤ 900 ∧ ∀ H', Same H H' → Q (.bl (frD d)) H'
/-- the law's own look at a name -/
def spCalD : Sp := fun vs H Q _ => ∃ (v : V) (bad : Addr → Prop) (d : PyData), vs = [v] ∧ Tr bad H d v ∧ d.weight ≤ 10000 ∧ ∀ H', Same H H' → Q (.bl (nmB d)) H'
def spPalD : Sp := fun vs H Q _ => ∃ (v : V) (bad : Addr → Prop) (d : PyData) (n : Nat), vs = [v] ∧ Tr bad H d v ∧ Okd n 10000 d ∧ n ≤ 60 ∧ (itemsD d).length ≤ 900 ∧ (∀ us : List (Str × Str), us.Nodup → (∀ y ∈ us, encQ y ∈ itemsD d) → us.length + 1 < 64) ∧ ∀ H', Same H H' → Q (.bl (frD d)) H'
def spStaD : Sp := fun vs H Q _ => ∃ (v : V) (bad : Addr → Prop) (d : PyData), vs = [v] ∧ Tr bad H d v ∧ d.weight ≤ 10000 ∧ (itemsD d).length ≤ 90 ∧ ∀ H', Same H H' → Q (.bl (rowDB d)) H'
theorem tr_prs {bad : Addr → Prop} {H : Hp} : ∀ {ds : List PyData} {xs : List V}, (∀ d ∈ ds, prD d = true) → TrAll bad H ds xs → ∃ bs : Prs, xs = bs.map (fun b => V.ref b.1) ∧ (∀ b ∈ bs, TupX H b.1 [.str b.2.1, .str b.2.2]) ∧ bs.map (·.2) = ds.map twoD
  | [], xs, _, h => by
    simp only [TrAll] at h
    subst h
    exact ⟨[], rfl, (fun _ h => nomatch h), rfl⟩
  | d :: ds, xs, p, h => by
    simp only [TrAll] at h
    obtain ⟨x, r, rfl, h1, h2⟩ := h
    obtain ⟨bs, rfl, b2, b3⟩ := tr_prs (fun c hc => p c (List.mem_cons_of_mem _ hc)) h2
    obtain ⟨e, _⟩ := prD_form (p d List.mem_cons_self)
    rw [e] at h1
    unfold encQ at h1
    simp only [Tr] at h1
    obtain ⟨a, ys, rfl, na, ha, ty⟩ := h1
    simp only [TrAll, Tr] at ty
    obtain ⟨y1, r1, rfl, rfl, y2, r2, rfl, rfl, rfl⟩ := ty
    refine ⟨(a, twoD d) :: bs, rfl, fun b hb => ?_, by rw [List.map_cons, List.map_cons, b3]⟩
    rcases List.mem_cons.mp hb with z | z
    · rw [z]; exact ha
    · exact b2 b z
theorem eqv_prs : ∀ ps qs : List (Str × Str), PyData.eqvAll (ps.map encQ) (qs.map encQ) = decide (ps = qs)
  | [], [] => rfl
  | [], q :: qs => by simp [PyData.eqvAll]
  | p :: ps, [] => by simp [PyData.eqvAll]
  | p :: ps, q :: qs => by
    have ih := eqv_prs ps qs
    rw [List.map_cons, List.map_cons, PyData.eqvAll, ih]
    unfold encQ
    rw [Bool.eq_iff_iff]
    obtain ⟨p1, p2'⟩ := p
    obtain ⟨q1, q2⟩ := q
    simp only [PyData.eqv, PyData.eqvAll, Bool.and_eq_true, beq_iff_eq, decide_eq_true_eq, List.cons.injEq, Prod.mk.injEq, and_true]
/-- a list is its own set, sorted, just if it rises -/
theorem rise_set {ps : List (Str × Str)} {cs : Prs} (m1 : ∀ c ∈ cs, c.2 ∈ ps) (m2 : ∀ p ∈ ps, p ∈ cs.map (·.2)) (nd : (cs.map (·.2)).Nodup) (srt : ∃ ds : Prs, cs = ds.mergeSort (PySem.W.dataLe false encP)) : decide (ps = cs.map (·.2)) = riseB ps := by
  have rc : riseB (cs.map (·.2)) = true := rise_iff.mpr fun i p q hp hq => by
    rw [List.getElem?_map] at hp hq
    obtain ⟨b, hb, rfl⟩ := Option.map_eq_some_iff.mp hp
    obtain ⟨c, hc, rfl⟩ := Option.map_eq_some_iff.mp hq
    exact rise_of srt nd i b c hb hc
  rw [Bool.eq_iff_iff, decide_eq_true_iff]
  constructor
  · intro e
    rw [e]
    exact rc
  · intro h
    refine rise_uniq (rise_pw h) (rise_pw rc) fun p => ⟨m2 p, fun hp => ?_⟩
    obtain ⟨c, hc, rfl⟩ := List.mem_map.mp hp
    exact m1 c hc
theorem encQ_okd {p : Str × Str} (h1 : NameOk p.1) (h2 : NameOk p.2) : Okd 1 18 (encQ p) := by
  have l1 := h1.len
  have l2 := h2.len
  refine okd_tuple (OkL.of (n := 0) (w := 8) (fun d hd => ?_) ?_)
  · simp only [List.mem_cons, List.not_mem_nil, or_false] at hd
    rcases hd with e | e <;> rw [e]
    · exact okd_str h1.good l1
    · exact okd_str h2.good l2
  · simp only [PyData.weightAll, PyData.weight]
    have e1 : p.1.cps.size = p.1.length := rfl
    have e2 : p.2.cps.size = p.2.length := rfl
    omega
theorem prs_shaped {ps : List (Str × Str)} (h : ∀ p ∈ ps, NameOk p.1 ∧ NameOk p.2) : SeqAt.shaped (.list (ps.map encQ)) = true := by
  refine shaped_of (n := 2) (w := PyData.weightAll (ps.map encQ)) (okd_list (OkL.of (n := 1) (w := 18) (fun d hd => ?_) (Nat.le_refl _))) (by decide)
  obtain ⟨p, hp, rfl⟩ := List.mem_map.mp hd
  exact encQ_okd (h p hp).1 (h p hp).2
theorem rise_zipP : ∀ bs : Prs, ((bs.zip (bs.drop 1)).map fun z => pltB z.1.2 z.2.2).all id = riseB (bs.map (·.2))
  | [] => rfl
  | [_] => rfl
  | x :: y :: r => by
    have ih := rise_zipP (y :: r)
    show (pltB x.2 y.2 && (((y :: r).zip ((y :: r).drop 1)).map fun z => pltB z.1.2 z.2.2).all id) = (pltB x.2 y.2 && riseB ((y :: r).map (·.2)))
    rw [ih]
def triL : Nat → Nat
  | 0 => 0
  | n + 1 => triL n + n
theorem triL7 {n : Nat} (h : n ≤ 7) : triL n ≤ 21 := by
  match n, h with
  | 0, _ => decide
  | 1, _ => decide
  | 2, _ => decide
  | 3, _ => decide
  | 4, _ => decide
  | 5, _ => decide
  | 6, _ => decide
  | 7, _ => decide
  | n + 8, h => omega
def spPals01 : Sp := fun vs H Q _ => ∃ (b l : Addr) (pool : List Str), vs = [.ref b, .ref l] ∧ IsBox H b ∧ H l = some (.lst (pool.map V.str)) ∧ pool.Nodup ∧ pool.length ≤ 7 ∧
  ∀ (a : Addr) (bs : List B3) (H' : Hp), Oth b H H' → IsBox H' b → H a = none → H' a = some (.tup (refs bs)) → PairsAt H' bs → OfPool pool (bs.map (·.2)) → (bs.map (·.2)).Nodup → bs.length ≤ triL pool.length → (∃ cs : List B3, bs = cs.mergeSort (PySem.W.dataLe false encP)) → Q (.ref a) H'
theorem few_of {α β : Type} (f : α → β) (inj : ∀ x y, f x = f y → x = y) : ∀ (L : List β) (us : List α), us.Nodup → (∀ y ∈ us, f y ∈ L) → us.length ≤ L.length
  | [], us, _, h => by
    cases us with
    | nil => exact Nat.le_refl _
    | cons y r => exact absurd (h y List.mem_cons_self) List.not_mem_nil
  | x :: L, us, nd, h => by
    classical
    by_cases hx : ∃ y ∈ us, f y = x
    · obtain ⟨y, hy, rfl⟩ := hx
      obtain ⟨l1, l2, rfl⟩ := List.append_of_mem hy
      have nd' : (l1 ++ l2).Nodup ∧ y ∉ l1 ++ l2 := by
        have := (List.perm_middle (a := y) (l₁ := l1) (l₂ := l2)).nodup_iff.mp nd
        rw [List.nodup_cons] at this
        exact ⟨this.2, this.1⟩
      have ih := few_of f inj L (l1 ++ l2) nd'.1 fun z hz => by
        have hm : z ∈ l1 ++ y :: l2 := (List.mem_append.mp hz).elim (fun a => List.mem_append_left _ a) fun a => List.mem_append_right _ (List.mem_cons_of_mem _ a)
        rcases List.mem_cons.mp (h z hm) with e | e
        · rw [inj _ _ e] at hz
          exact absurd hz nd'.2
        · exact e
      rw [List.length_append] at ih ⊢
      rw [List.length_cons, List.length_cons]
      omega
    · have ih := few_of f inj L us nd fun z hz => by
        rcases List.mem_cons.mp (h z hz) with e | e
        · exact absurd ⟨z, hz, e⟩ hx
        · exact e
      rw [List.length_cons]
      omega
theorem encQ_inj (x y : Str × Str) (h : encQ x = encQ y) : x = y := by
  unfold encQ at h
  have h1 := PyData.tuple.inj h
  have h2 := List.cons.inj h1
  have h3 := List.cons.inj h2.2
  exact Prod.ext (PyData.str.inj h2.1) (PyData.str.inj h3.1)
theorem few64 {d : PyData} {c1 c2 c3 c4 : PyData} {L : List PyData} (hL : L.length ≤ 50) (h : ∀ c ∈ itemsD d, c ∈ c1 :: c2 :: c3 :: c4 :: L) : ∀ us : List (Str × Str), us.Nodup → (∀ y ∈ us, encQ y ∈ itemsD d) → us.length + 1 < 64 := fun us nd mu => by
  have := few_of encQ encQ_inj (c1 :: c2 :: c3 :: c4 :: L) us nd fun y hy => h _ (mu y hy)
  simp only [List.length_cons] at this
  omega
theorem alk_bls {H : Hp} {n : Nat} {a b : Addr} {xs : List Bool} (h1 : H a = some (.lst (xs.map V.bl))) (h2 : H b = some (.lst (xs.map V.bl))) (hz : xs.length ≤ 1000) : Alk H (n + 2) (.ref a) (.ref b) :=
  .inr (.inl ⟨a, b, _, _, rfl, rfl, h1, h2, rfl, by rw [List.length_map]; exact hz, fun i u v hu hv => by
    rw [hu] at hv
    cases hv
    obtain ⟨z, _, rfl⟩ := at_map hu
    exact alk_bl z⟩)
theorem items_wid0 (d : PyData) : (itemsD d).length ≤ widD d ∧ ∀ c ∈ itemsD d, widD c ≤ widD d := by
  cases d with
  | list ds => exact ⟨wid_len (.inl rfl), fun c hc => wid_item (.inl rfl) hc⟩
  | tuple ds => exact ⟨wid_len (.inr rfl), fun c hc => wid_item (.inr rfl) hc⟩
  | _ => exact ⟨Nat.zero_le _, fun _ h => nomatch h⟩
end Lk
set_option maxRecDepth 100000
set_option maxHeartbeats 4000000
namespace Lk
open PySem PySem.Spec PyProof.Rows L2
def topS (i : Nat) : Stmt := PySem.Challenge.pw_letinrow_k01_friends_and_rows_or_not.main.body.getD i (.Pass ⟨0, 0, 0, 0⟩)
section
variable {P : Program} {w : World} {K : PySem.W.Frag} {mg : Str → Option Value} {base : Heap}
/-! ### _law_take -/
abbrev sTake : Stmt := topS 8
theorem scTake : FnScope ["_law_box_here", "_law_many", "_law_found", "_law_blend"] ["_law_box_here", "_law_many"] (defScope sTake) := ⟨rfl, rfl, rfl, by decide +kernel, rfl, by decide +kernel, by decide +kernel⟩
theorem ok_take {f : Addr} {fd : FuncData} (F : Fun K "_law_take" "_law_take" sTake f fd) : FnOk P w K mg base CX0 1 f fd ["_law_box_here", "_law_many"] spTake := by
  refine fok F scTake (fun vs H Q E h => ?_) (fun cdv A outer s H vs Q E hr h => ?_)
  · obtain ⟨b, many, rfl, _⟩ := h
    rfl
  obtain ⟨b, many, rfl, ⟨x, y, z, hb⟩, h0, h1, q⟩ := h
  refine ⟨_, pss_cons (ps_if (pt_cmpR op_gt (pe_ix ix_list (pv 0) pe_int (fun _ _ => rfl)) pe_int (nomark _))
      (pss_cons (ps_set (i := 2) scTake.nd rfl (.inl rfl) (pe_op op_mod (pe_ix ix_list (pv 0) pe_int (fun _ _ => rfl)) (pv 1)))
      (pss_cons (ps_asg (pe_op op_fdiv (pe_ix ix_list (pv 0) pe_int (fun _ _ => rfl)) (pv 1)) (pg_sub (pv 0) pe_int set_list))
      (pss_one (ps_ret (pv 2))))) pss_nil)
    (pss_cons (ps_asg (pe_op op_add (pe_ix ix_list (pv 0) pe_int (fun _ _ => rfl)) pe_int) (pg_sub (pv 0) pe_int set_list))
    (pss_cons (ps_set (i := 3) scTake.nd rfl (.inl rfl) (pe_op op_mod (pe_op op_add (pe_ix ix_list (pv 0) pe_int (fun _ _ => rfl)) (pe_op op_mul pe_int (pe_ix ix_list (pv 0) pe_int (fun _ _ => rfl)))) pe_int))
    (pss_cons (ps_set (i := 3) scTake.nd rfl (.inl rfl) (pe_op op_mod (pe_op op_add (pe_op op_add (pe_op op_mul (pv 3) (pv 3)) (pe_op op_mul pe_int (pe_ix ix_list (pv 0) pe_int (fun _ _ => rfl)))) pe_int) pe_int))
    (pss_cons (ps_set (i := 3) scTake.nd rfl (.inl rfl) (pe_op op_mod (pe_op op_add (pe_op op_mul (pv 3) (pe_op op_add (pe_op op_fdiv (pv 3) pe_int) pe_int)) (pe_ix ix_list (pv 0) pe_int (fun _ _ => rfl))) pe_int))
    (pss_one (ps_ret (pe_op op_mod (pe_op op_fdiv (pv 3) pe_int) (pv 1)))))))), ?_⟩
  have hL : SqL K H b [.int x, .int y, .int z] := .inl (.inl hb)
  refine ⟨.ref b, rfl, b, _, 0, _, rfl, rfl, hL, atI_nat (j := 0) rfl, _, _, rfl, rfl, _, rfl, ?_⟩
  refine ite2 (fun c => ?_) (fun c => ?_)
  · refine ⟨.ref b, rfl, b, _, 0, _, rfl, rfl, hL, atI_nat (j := 0) rfl, _, rfl, _, _, rfl, rfl, h0, ?_⟩
    refine ⟨.ref b, rfl, b, _, 0, _, rfl, rfl, hL, atI_nat (j := 0) rfl, _, rfl, _, _, rfl, rfl, ⟨h0, h1⟩, ?_⟩
    refine ⟨.ref b, rfl, b, _, 0, 0, rfl, rfl, hb, rfl, ?_⟩
    exact ⟨_, rfl, q _ _ Oth.upd ⟨_, _, _, upd_same⟩ (Int.emod_nonneg _ (by omega)) (Int.emod_lt_of_pos _ h0)⟩
  · refine ⟨.ref b, rfl, b, _, 2, _, rfl, rfl, hL, atI_nat (j := 2) rfl, _, _, rfl, rfl, ?_⟩
    refine ⟨.ref b, rfl, b, _, 2, 2, rfl, rfl, hb, rfl, ?_⟩
    have hU : upd H b (.lst ([.int x, .int y, .int z].set 2 (.int (z + 1)))) b = some (.lst [.int x, .int y, .int (z + 1)]) := upd_same
    have hL2 : SqL K (upd H b (.lst ([.int x, .int y, .int z].set 2 (.int (z + 1))))) b [.int x, .int y, .int (z + 1)] := .inl (.inl hU)
    refine ⟨.ref b, rfl, b, _, 1, _, rfl, rfl, hL2, atI_nat (j := 1) rfl, .ref b, rfl, b, _, 2, _, rfl, rfl, hL2, atI_nat (j := 2) rfl, _, _, rfl, rfl, .inl (by decide), _, _, rfl, rfl, _, _, rfl, rfl, (by show (0 : Int) < 2305843009213693951; decide), ?_⟩
    generalize hm1 : (y + 1442695040888963407 * (z + 1)) % 2305843009213693951 = m1
    have b1 : 0 ≤ m1 ∧ m1 < 2305843009213693951 := by
      rw [← hm1]
      exact ⟨Int.emod_nonneg _ (by decide), Int.emod_lt_of_pos _ (by decide)⟩
    refine ⟨_, rfl, _, rfl, _, _, rfl, rfl, .inl ⟨by omega, by omega⟩, .ref b, rfl, b, _, 2, _, rfl, rfl, hL2, atI_nat (j := 2) rfl, _, _, rfl, rfl, .inl (by decide), _, _, rfl, rfl, _, _, rfl, rfl, _, _, rfl, rfl, (by show (0 : Int) < 2305843009213693921; decide), ?_⟩
    generalize hm2 : (m1 * m1 + 39373 * (z + 1) + 7) % 2305843009213693921 = m2
    have b2 : 0 ≤ m2 ∧ m2 < 2305843009213693921 := by
      rw [← hm2]
      exact ⟨Int.emod_nonneg _ (by decide), Int.emod_lt_of_pos _ (by decide)⟩
    refine ⟨_, rfl, _, rfl, _, _, rfl, rfl, ⟨by decide, by decide⟩, _, _, rfl, rfl, _, _, rfl, rfl, .inl ⟨by omega, by omega⟩, .ref b, rfl, b, _, 2, _, rfl, rfl, hL2, atI_nat (j := 2) rfl, _, _, rfl, rfl, _, _, rfl, rfl, (by show (0 : Int) < 2305843009213693907; decide), ?_⟩
    generalize (m2 * (m2 / 65536 + 3) + (z + 1)) % 2305843009213693907 = m3
    refine ⟨_, rfl, _, _, rfl, rfl, ⟨by decide, by decide⟩, _, rfl, _, _, rfl, rfl, h0, ?_⟩
    exact q _ _ Oth.upd ⟨_, _, _, upd_same⟩ (Int.emod_nonneg _ (by omega)) (Int.emod_lt_of_pos _ h0)
/-! ### _law_box -/
abbrev sBox : Stmt := topS 7
theorem scBox : FnScope ["_law_cells_here", "_law_k", "_law_cell"] ["_law_cells_here", "_law_k"] (defScope sBox) := ⟨rfl, rfl, rfl, by decide +kernel, rfl, by decide +kernel, by decide +kernel⟩
theorem ok_box {f : Addr} {fd : FuncData} (B : Blt mg) (F : Fun K "_law_box" "_law_box" sBox f fd) : FnOk P w K mg base CX0 1 f fd ["_law_cells_here", "_law_k"] spBox := by
  refine fok F scBox (fun vs H Q E h => ?_) (fun cdv A outer s H vs Q E hr h => ?_)
  · obtain ⟨a, ns, k, rfl, _⟩ := h
    rfl
  obtain ⟨a, ns, k, rfl, ha, hk, hk2, q⟩ := h
  refine ⟨_, pss_cons (ps_set (i := 2) scBox.nd rfl (.inl rfl) (pe_ix ix_list (pv 0) (pv 1) (fun _ _ => rfl)))
    (pss_one (ps_ret (pe_lst (pa_cons (pe_op op_mul (pe_callB call_abs (by rfl) B.abs (by decide +kernel) (pa_cons (pv 2) pa_nil)) (pe_callTy call_int1 (by rfl) B.int (by decide +kernel) (pa_cons (pe_cmpR op_ge (pe_callB call_abs (by rfl) B.abs (by decide +kernel) (pa_cons (pv 2) pa_nil)) (pe_op op_pow pe_int pe_int) (nomark _)) pa_nil)))
      (pa_cons (pe_op op_add (pe_op op_add (pe_op op_mod (pv 2) pe_int) (pe_op op_mul pe_int (pv 1))) pe_int) (pa_cons pe_int pa_nil)))))), ?_⟩
  obtain ⟨c, hc⟩ : ∃ c, ns[k]? = some c := ⟨ns[k], List.getElem?_eq_getElem hk⟩
  refine ⟨.ref a, rfl, .int k, rfl, a, _, k, .int c, rfl, rfl, .inl (.inl ha), atI_nat (ix_map hc), ?_⟩
  refine ⟨_, rfl, _, rfl, _, rfl, _, rfl, _, _, rfl, rfl, ⟨by decide, by decide, by decide⟩, _, _, rfl, rfl, .inr ⟨_, rfl, _, _, rfl, rfl, .inr (bit01 _), ?_⟩⟩
  refine ⟨_, rfl, _, _, rfl, rfl, (by show (0 : Int) < 2305843009213693951; decide), _, rfl, _, _, rfl, rfl, .inl (by decide), _, _, rfl, rfl, _, _, rfl, rfl, (by show 3 ≤ sizeLine; decide), fun p hp => ?_⟩
  exact q p _ (same_upd hp) hp ⟨_, _, _, upd_same⟩
/-! ### _law_cells -/
abbrev sCells : Stmt := topS 9
theorem scCells : FnScope ["_law_script", "_law_utmost", "_law_cells_here", "_law_k", "_law_cell"] ["_law_script", "_law_utmost"] (defScope sCells) := ⟨rfl, rfl, rfl, by decide +kernel, rfl, by decide +kernel, by decide +kernel⟩
theorem ok_cells {f : Addr} {fd : FuncData} (B : Blt mg) (F : Fun K "_law_cells" "_law_cells" sCells f fd) : FnOk P w K mg base CX0 1 f fd ["_law_script", "_law_utmost"] (spCells K) := by
  refine fok F scCells (fun vs H Q E h => ?_) (fun cdv A outer s H vs Q E hr h => ?_)
  · obtain ⟨a, ns, k, rfl, _⟩ := h
    rfl
  obtain ⟨a, ns, u, rfl, ha, hn, h0, h3, q⟩ := h
  refine ⟨_, pss_cons (ps_set (i := 2) scCells.nd rfl (.inl rfl) (pe_orT (pe_callTy call_list_of (by rfl) B.list (by decide +kernel) (pa_cons (pe_slice sl_list (pv 0) po_none (po_some (pv 1))) pa_nil)) (pe_one (pe_lst (pa_cons pe_int pa_nil)))))
    (pss_cons (ps_for PassesOwn.never rfl (pi_enum (by rfl) B.enumerate (pa_cons (pe_slice sl_list (pv 0) (po_some (pv 1)) (po_some pe_int)) pa_nil))
        (pg_tup rfl (pgs_cons (pg_name (i := 3) scCells.nd rfl (.inl rfl)) (pgs_cons (pg_name (i := 4) scCells.nd rfl (.inl rfl)) pgs_nil)))
      (pss_one (ps_asg (pe_op op_add (pe_ix ix_list (pv 2) (pe_op op_mod (pv 3) (pv 1)) (fun _ _ => rfl)) (pe_op op_mul (pv 4) (pe_op op_add (pv 3) pe_int))) (pg_sub (pv 2) (pe_op op_mod (pv 3) (pv 1)) set_list))))
    (pss_one (ps_ret (pv 2)))), ?_⟩
  -- what follows once cells stand at c
  have rest : ∀ (c : Addr) (ms : List Int) (H1 : Hp), Same H H1 → H c = none → H1 c = some (.lst (ms.map V.int)) → 0 < ms.length → ms.length ≤ 3 → (u < ns.length → ms.length = u) → ∀ (D : Ends) , D.rt = Q → 
      (tSeq (tFor (iEnum K (tCons (tSl (rSlL K) (tVar 0) (tPart (tVar 1)) (tPart (tC (.int 63)))) tNil)) (gTup K 2 (gCons (gName 3) (gCons (gName 4) gNil))) (tAsg (tOp (rI0 fun i j => .int (i + j)) (tOp (rIxL K) (tVar 2) (tOp (rI (fun _ j => 0 < j) fun i j => .int (i % j)) (tVar 3) (tVar 1))) (tOp (rI CMul fun i j => .int (i * j)) (tVar 4) (tOp (rI0 fun i j => .int (i + j)) (tVar 3) (tC (.int 2))))) (gSub (tVar 2) (tOp (rI (fun _ j => 0 < j) fun i j => .int (i % j)) (tVar 3) (tVar 1)) rSetL))) (tRet (tVar 2))) D [some (.ref a), some (.int u), some (.ref c), none, none] H1 := by
    intro c ms H1 s1 nc hc m0 m3 mu D hD
    refine ⟨.ref a, rfl, _, rfl, u, rfl, 63, rfl, a, _, rfl, s1.seq ha, fun p hp => ?_⟩
    have s2 : Same H1 (upd H1 p (.lst (cutV (ns.map V.int) (some u) (some 63)))) := same_upd hp
    have npc : c ≠ p := ne_of_none hc hp
    rw [cutV_map]
    generalize hr2 : cutL ns (some (u : Int)) (some 63) = r2
    refine ⟨p, r2.map V.int, rfl, .inl (.inl upd_same), ?_⟩
    refine for_it (walk_enum (xs := r2.map V.int)) (fun i σ H3 => ∃ (y3 y4 : Option V) (ms' : List Int), σ = [some (.ref a), some (.int u), some (.ref c), y3, y4] ∧ Same H H3 ∧ H3 p = some (.lst (r2.map V.int)) ∧ H3 c = some (.lst (ms'.map V.int)) ∧ ms'.length = ms.length) ?_ ?_ ?_ ?_
    · exact ⟨none, none, ms, rfl, s1.trans (same_upd hp), upd_same, (upd_ne npc).trans hc, rfl⟩
    · rintro i σ H3 _ ⟨y3, y4, ms', rfl, e1, e2, e3, e4⟩
      exact .inl (.inl e2)
    · rintro i x σ H3 H4 hi ⟨y3, y4, ms', rfl, e1, e2, e3, e4⟩ ⟨T, x1, x2, rfl, nT, rfl, f1, f2⟩
      cases f1
      obtain ⟨z, hz, rfl⟩ := at_map f2
      rw [List.length_map] at hi
      have hun : u < ns.length := cutL_has (k := u) (hi := some 63) (by rw [hr2]; omega)
      have hml := mu hun
      have nTc : c ≠ T := ne_of_none e3 nT
      have nTp : p ≠ T := ne_of_none e2 nT
      refine ⟨T, _, rfl, .inl (.inl upd_same), rfl, _, _, rfl, _, _, rfl, rfl, ?_⟩
      have hlt : i % u < ms'.length := by
        rw [e4, hml]
        exact Nat.mod_lt _ h0
      have e3' : upd H3 T (.tup [.int (i : Nat), .int z]) c = some (.lst (ms'.map V.int)) := (upd_ne nTc).trans e3
      have eim : ((i : Int) % (u : Int)) = ((i % u : Nat) : Int) := (Int.natCast_emod i u).symm
      have hi2 : i < 63 := by
        have q1 := cutL_le ns (some (u : Int)) (some 63)
        rw [hr2] at q1
        omega
      refine ⟨.ref c, rfl, _, rfl, _, rfl, _, _, rfl, rfl, (by show (0 : Int) < u; omega), c, _, _, .int ms'[i % u], rfl, rfl, .inl (.inl e3'), (by rw [eim]; exact atI_nat (ix_map (List.getElem?_eq_getElem hlt))), ?_⟩
      refine ⟨_, rfl, _, rfl, _, _, rfl, rfl, _, _, rfl, rfl, .inr ⟨by omega, by omega⟩, _, _, rfl, rfl, ?_⟩
      refine ⟨.ref c, rfl, _, rfl, _, rfl, _, _, rfl, rfl, (by show (0 : Int) < u; omega), c, _, _, i % u, rfl, rfl, e3', ?_, ?_⟩
      · rw [eim, List.length_map]
        unfold ixN
        rw [if_pos (by omega), if_pos (by omega), Int.toNat_natCast]
      · refine ⟨_, _, ms'.set (i % u) (ms'[i % u] + z * ((i : Int) + 2)), rfl, fun b o e => ?_, ?_, ?_, ?_⟩
        · rw [upd_ne (ne_of_none e nc)]
          exact same_upd nT _ _ (e1 b o e)
        · rw [upd_ne (Ne.symm npc), upd_ne nTp]
          exact e2
        · rw [upd_same, ← set_map]
        · rw [List.length_set]
          exact e4
    · rintro σ H3 ⟨y3, y4, ms', rfl, e1, e2, e3, e4⟩
      refine ⟨.ref c, rfl, ?_⟩
      rw [hD]
      exact q c ms' H3 e1 nc e3 (by omega) (by omega)
  -- cells = list(script[:u]) or [0]
  refine ⟨.ref a, rfl, .int u, rfl, u, rfl, a, _, rfl, ha, fun p hp => ?_⟩
  rw [cutV_map, cutL_to]
  refine ⟨p, _, rfl, .inl (.inl (.inl upd_same)), fun l hl => ?_⟩
  have s2 : Same H (upd H p (.lst ((ns.take u).map V.int))) := same_upd hp
  have s3 := s2.trans (same_upd (o := .lst ((ns.take u).map V.int)) hl)
  refine ⟨_, .inl ⟨_, .inl (.inl upd_same), rfl⟩, ?_⟩
  refine ite2 (fun z => ?_) (fun z => ?_)
  · have hne : 0 < ns.length := by
      cases ns with
      | nil => rw [List.take_nil] at z; cases z
      | cons n r => exact Nat.succ_pos _
    refine rest l (ns.take u) _ s3 (s2.free hl) upd_same ?_ ?_ ?_ _ rfl
    · rw [List.length_take]
      omega
    · rw [List.length_take]
      omega
    · intro z
      rw [List.length_take]
      omega
  · have hne : ns.length = 0 := by
      cases ns with
      | nil => rfl
      | cons n r =>
        have e : u = (u - 1) + 1 := by omega
        rw [e, List.take_succ_cons] at z
        exact absurd rfl z
    refine ⟨(by show 1 ≤ sizeLine; decide), fun c hc => ?_⟩
    exact rest c [0] _ (s3.trans (same_upd hc)) (s3.free hc) upd_same (by decide) (by decide) (fun z => absurd z (by omega)) _ rfl
/-! ### _law_names -/
abbrev sNames : Stmt := topS 10
abbrev nNames : List Str := ["_law_box_here", "_law_many", "_law_letters", "_law_first", "_law_found", "_law_stem", "_law_step", "_law_few", "_law_k", "_law_cut", "_law_name", "_law_turn"]
theorem scNames : FnScope nNames ["_law_box_here", "_law_many"] (defScope sNames) := ⟨rfl, rfl, rfl, by decide +kernel, rfl, by decide +kernel, by decide +kernel⟩
theorem ok_names {f : Addr} {fd : FuncData} (B : Blt mg) (CT : Cal P w K mg base 1 "_law_take" ["_law_box_here", "_law_many"] spTake) (F : Fun K "_law_names" "_law_names" sNames f fd) : FnOk P w K mg base CX0 2 f fd ["_law_box_here", "_law_many"] spNames := by
  refine fok F scNames (fun vs H Q E h => ?_) (fun cdv A outer s H vs Q E hr h => ?_)
  · obtain ⟨b, many, rfl, _⟩ := h
    rfl
  obtain ⟨b, many, rfl, hb, hm, q⟩ := h
  refine ⟨_, pss_cons (ps_asg (pe_tup (pa_cons pe_str (pa_cons (pe_cal CT hr (pa_cons (pv 0) (pa_cons pe_int pa_nil))) (pa_cons (pe_lst pa_nil) pa_nil)))) (pg_tup rfl (pgs_cons (pg_name (i := 2) scNames.nd rfl (.inr rfl)) (pgs_cons (pg_name (i := 3) scNames.nd rfl (.inl rfl)) (pgs_cons (pg_name (i := 4) scNames.nd rfl (.inl rfl)) pgs_nil)))))
    (pss_cons (ps_set (i := 5) scNames.nd rfl (.inl rfl) (pe_join pe_str
      (pe_lc (own := [("_law_turn", 11)]) (g := gName 11) (tt := tYes) rfl scNames.nd (pi_range1 (by rfl) B.range (pa_cons (pe_cal CT hr (pa_cons (pv 0) (pa_cons pe_int pa_nil))) pa_nil)) (blkOk_by (N := nNames) (sc := defScope sNames) (by decide +kernel)) (fun _ _ _ _ _ => pg_name (i := 11) scNames.nd rfl (Or.inl rfl)) (fun _ _ _ _ _ => pts_nil)
        (fun _ _ _ _ _ => pe_ix ix_str (pv 2) (pe_cal CT hr (pa_cons (pv 0) (pa_cons pe_int pa_nil))) (fun _ _ => rfl)))))
    (pss_cons (ps_par (i := 6) (j := 7) (by rfl) scNames.nd rfl rfl (by decide) rfl rfl (pa_cons (pe_ix ix_list (pe_lst (pa_cons pe_int (pa_cons pe_int (pa_cons pe_int (pa_cons pe_int pa_nil))))) (pe_cal CT hr (pa_cons (pv 0) (pa_cons pe_int pa_nil))) (fun _ _ => rfl)) (pa_cons (pe_callTy call_int1 (by rfl) B.int (by decide +kernel) (pa_cons (pe_cmpR op_eq (pe_op op_mod (pv 3) pe_int) pe_int (nomark _)) pa_nil)) pa_nil)) (by rfl))
    (pss_cons (ps_for PassesOwn.never rfl (pi_range1 (by rfl) B.range (pa_cons (pv 1) pa_nil)) (pg_name (i := 8) scNames.nd rfl (.inl rfl))
      (pss_cons (ps_set (i := 9) scNames.nd rfl (.inl rfl) (pe_op op_sub (pe_callB call_len_str (by rfl) B.len PySem.boot_len (pa_cons (pv 5) pa_nil)) (pe_op op_mul (pv 7) (pe_op op_mod (pv 8) pe_int))))
      (pss_cons (ps_set (i := 10) scNames.nd rfl (.inl rfl) (pe_op op_add_str (pe_slice sl_str (pv 5) po_none (po_some (pv 9))) (pe_ix ix_str (pv 2) (pe_op op_mod (pe_op op_add (pv 3) (pe_op op_mul (pv 6) (pv 8))) pe_int) (fun _ _ => rfl))))
      (pss_one (ps_expr (pe_bm PySem.F.plainAttrs_list PySem.F.slot_list_insert PySem.F.type_list_insert mt_insert (pv 4) (pa_cons (pe_cal CT hr (pa_cons (pv 0) (pa_cons (pe_op op_add (pe_callB call_len_seq (by rfl) B.len PySem.boot_len (pa_cons (pv 4) pa_nil)) pe_int) pa_nil))) (pa_cons (pv 10) pa_nil))))))))
    (pss_one (ps_ret (pv 4)))))), ?_⟩
  -- letters, first, found
  refine ⟨.ref b, rfl, b, 26, rfl, hb, by decide, by decide, fun first H1 o1 b1 f0 f1 => ⟨(by show 0 ≤ sizeLine; decide), fun l hl => ?_⟩⟩
  refine ⟨(by show 3 ≤ sizeLine; decide), fun t ht => ?_⟩
  have nlb : l ≠ b := b1.ne_none hl
  have ntl : t ≠ l := fun z => by rw [z, upd_same] at ht; cases ht
  have ntb : t ≠ b := fun z => by
    rw [z, upd_ne (Ne.symm nlb)] at ht
    exact b1.ne_none ht rfl
  have nl : H l = none := o1.free nlb hl
  refine ⟨t, _, rfl, .inl (.inl upd_same), rfl, _, _, rfl, _, _, rfl, _, _, rfl, rfl, ?_⟩
  dsimp only
  generalize hH2 : upd (upd H1 l (.lst [])) t (.tup [.str (Str.ofString "abcdefghijklmnopqrstuvwxyz"), .int first, .ref l]) = H2
  have o2 : Oth b H H2 := o1.trans (fun a o n e => by
    rw [← hH2]
    exact same_upd ht _ _ (same_upd hl _ _ e))
  have b2 : IsBox H2 b := by
    rw [← hH2]
    exact (b1.same (same_upd hl)).same (same_upd ht)
  have l2 : H2 l = some (.lst []) := by
    rw [← hH2, upd_ne (Ne.symm ntl), upd_same]
  -- stem
  refine ⟨⟨_, rfl⟩, .ref b, rfl, b, 8, rfl, b2, by decide, by decide, fun n H3 o3 b3 n0 n1 => ⟨n, rfl, by omega, by omega, fun D hD => ?_⟩⟩
  have nDb : D ≠ b := b3.ne_none hD
  have l3 : H3 l = some (.lst []) := o3 _ _ nlb l2
  have nDl : l ≠ D := ne_of_none l3 hD
  refine lc_it (walk_range (lo := 0) (n := n.toNat)) (fun i H' => ∃ ys : List Str, Oth b H H' ∧ IsBox H' b ∧ H' l = some (.lst []) ∧ H' D = some (.lst (ys.map V.str)) ∧ ys.length = i ∧ ∀ y ∈ ys, IsOne y) ?_ (fun _ _ _ _ => trivial) ?_ ?_
  · refine ⟨[], fun a o na e => ?_, b3.same (same_upd hD), (upd_ne nDl).trans l3, upd_same, rfl, fun _ h => nomatch h⟩
    exact same_upd hD _ _ (o3 _ _ na (o2 _ _ na e))
  · rintro i x H4 H5 hi ⟨ys, o4, b4, l4, d4, y1, y2⟩ ⟨rfl, rfl⟩
    refine ⟨rfl, ⟨.str abc, rfl, .ref b, rfl, b, 26, rfl, b4, by decide, by decide, fun v H6 o6 b6 v0 v1 => ⟨abc, v, 97 + v.toNat, rfl, rfl, (by rw [abc_len]; decide), abc_ix v0 v1, ys.map V.str, o6 _ _ nDb d4, ?_, ?_⟩⟩⟩
    · rw [List.length_map]
      exact small1000 (by omega)
    · have s6 : ∀ a o, a ≠ D → H6 a = some o → upd H6 D (.lst (ys.map V.str ++ [.str ⟨#[97 + v.toNat]⟩])) a = some o := fun a o na e => by rw [upd_ne na]; exact e
      refine ⟨ys ++ [⟨#[97 + v.toNat]⟩], fun a o na e => ?_, ?_, s6 _ _ nDl (o6 _ _ nlb l4), ?_, ?_, ?_⟩
      · have q6 := o6 _ _ na (o4 _ _ na e)
        by_cases z : a = D
        · subst z
          have q3 := o3.free nDb hD
          rw [o2 _ _ na e] at q3
          cases q3
        · exact s6 _ _ z q6
      · obtain ⟨i1, i2, i3, e⟩ := b6
        exact ⟨i1, i2, i3, s6 _ _ (Ne.symm nDb) e⟩
      · rw [upd_same, List.map_append]
        rfl
      · rw [List.length_append, y1]
        rfl
      · intro y hy
        rcases List.mem_append.mp hy with z | z
        · exact y2 y z
        · have e : y = ⟨#[97 + v.toNat]⟩ := by simpa using z
          exact ⟨v.toNat, by omega, e⟩
  · rintro H4 ⟨ys, o4, b4, l4, d4, y1, y2⟩
    have z1 := ones_len y2
    refine ⟨_, D, ys, rfl, rfl, .inl (.inl (.inl d4)), ?_, ?_⟩
    · rw [z1]
      have z2 : (Str.ofString "").length = 0 := by decide +kernel
      rw [z2]
      omega
    have w1 := ones_flat y2
    rw [← join0] at w1
    generalize Txt.join (Str.ofString "") ys = stem at w1
    have w2 : (tlx stem).length ≤ 7 := by rw [w1.1]; omega
    have w3 : Low (tlx stem) := w1.2
    clear w1 z1
    -- step, few
    refine ⟨(by show 4 ≤ sizeLine; decide), fun p hp => ⟨.ref b, rfl, b, 4, rfl, b4.same (same_upd hp), by decide, by decide, fun v H5 o5 b5 v0 v1 => ?_⟩⟩
    obtain ⟨step, hst, hat⟩ := menu4 v0 v1
    have npb : p ≠ b := b4.ne_none hp
    have o5' : Oth b H H5 := fun a o na e => o5 _ _ na (same_upd hp _ _ (o4 _ _ na e))
    have l5 : H5 l = some (.lst []) := o5 _ _ nlb (same_upd hp _ _ l4)
    refine ⟨p, _, v, .int step, rfl, rfl, .inl (.inl (o5 _ _ npb upd_same)), hat, ?_⟩
    refine ⟨.int first, rfl, _, _, rfl, rfl, (by show (0 : Int) < 4; decide), rfl, .inr ⟨_, rfl, _, _, rfl, ?_⟩⟩
    generalize hk : (decide (V.int (first % 4) = V.int 3)) = kf
    have hf := bit2 kf
    generalize (if kf = true then 1 else 0 : Int) = few at hf
    -- the loop
    refine ⟨.int many, rfl, many, rfl, by omega, by omega, ?_⟩
    refine for_it (walk_range (lo := 0) (n := (many : Int).toNat)) (fun i σ H' => ∃ (y8 y9 y10 y11 : Option V) (names : List Str), σ = [some (.ref b), some (.int many), some (.str abc), some (.int first), some (.ref l), some (.str stem), some (.int step), some (.int few), y8, y9, y10, y11] ∧ Oth b H H' ∧ IsBox H' b ∧ H' l = some (.lst (names.map V.str)) ∧ names.length = i ∧ names.Nodup ∧ ∀ x ∈ names, NameOk x ∧ ∃ j : Nat, j < i ∧ lastC x = some (97 + ((first + step * (j : Int)) % 26).toNat)) ?_ (fun _ _ _ _ _ => trivial) ?_ ?_
    · exact ⟨_, _, _, _, [], rfl, o5', b5, l5, rfl, List.nodup_nil, fun _ h => nomatch h⟩
    · rintro i x σ H7 H6 hi ⟨y8, y9, y10, y11, names, rfl, o6, b6, l6, m1, m2, m3⟩ ⟨rfl, rfl⟩
      have hi2 : i < 26 := by omega
      have hsl : stem.length ≤ sizeLine := by rw [len_tlx]; exact small_le (by omega)
      refine ⟨_, rfl, _, rfl, hsl, _, rfl, _, rfl, _, _, rfl, rfl, (by show (0 : Int) < 3; decide), _, _, rfl, rfl, .inl ⟨by omega, by omega⟩, _, _, rfl, rfl, ?_⟩
      dsimp only
      generalize (stem.length : Int) - few * ((0 + (i : Int)) % 3) = cut
      have c0 : 0 ≤ (first + step * (0 + (i : Int))) % 26 := Int.emod_nonneg _ (by decide)
      have c1 : (first + step * (0 + (i : Int))) % 26 < 26 := Int.emod_lt_of_pos _ (by decide)
      refine ⟨_, rfl, _, rfl, cut, rfl, stem, rfl, hsl, _, rfl, _, rfl, _, rfl, _, rfl, _, _, rfl, rfl, ?_, _, _, rfl, rfl, _, _, rfl, rfl, (by show (0 : Int) < 26; decide), abc, _, _, rfl, rfl, (by rw [abc_len]; decide), abc_ix c0 c1, _, _, rfl, rfl, ?_, ?_⟩
      · rcases hst with rfl | rfl | rfl | rfl <;> exact .inl (by decide)
      · rw [len_tlx, cutS_tlx]
        have z := cutL_le (tlx stem) none (some cut)
        exact small_le (by show _ + 1 ≤ 1000; omega)
      rw [Int.zero_add] at c0 c1 ⊢
      have nok : NameOk (cutS stem none (some cut) ++ ⟨#[97 + ((first + step * (i : Int)) % 26).toNat]⟩) := name_ok w2 w3 (by omega)
      have nla := lastC_app (cutS stem none (some cut)) (97 + ((first + step * (i : Int)) % 26).toNat)
      generalize (cutS stem none (some cut) ++ ⟨#[97 + ((first + step * (i : Int)) % 26).toNat]⟩ : Str) = nm at nok nla
      have hnew : nm ∉ names := fun hm2 => by
        obtain ⟨_, j, hj, ej⟩ := m3 nm hm2
        rw [nla] at ej
        have q1 := Option.some.inj ej
        have q2 := apart hst hj hi2 first
        have q3 : 0 ≤ (first + step * (j : Int)) % 26 := Int.emod_nonneg _ (by decide)
        omega
      -- found.insert(take(box, len(found) + 1), name)
      have L6 : SqL K H6 l (names.map V.str) := .inl (.inl l6)
      refine ⟨.ref l, rfl, .inl ⟨rfl, _, L6⟩, .ref b, rfl, .ref l, rfl, l, _, rfl, .inl L6, _, _, rfl, rfl, b, _, rfl, b6, by omega, ?_, fun v H8 o8 b8 v0 v1 => ?_⟩
      · rw [List.length_map]
        omega
      have l8 : H8 l = some (.lst (names.map V.str)) := o8 _ _ nlb l6
      refine ⟨_, rfl, l, _, v, _, rfl, rfl, l8, ?_, v0, ?_, ?_⟩
      · rw [List.length_map]
        exact small1000 (by omega)
      · rw [List.length_map] at v1
        omega
      have pm := ins_perm names v.toNat nm
      refine ⟨_, _, _, _, names.take v.toNat ++ [nm] ++ names.drop v.toNat, rfl, fun a o na e => ?_, ?_, ?_, ?_, ?_, ?_⟩
      · have e8 := o8 _ _ na (o6 _ _ na e)
        rw [upd_ne (ne_of_none e nl)]
        exact e8
      · obtain ⟨i1, i2, i3, e⟩ := b8
        exact ⟨i1, i2, i3, (upd_ne (Ne.symm nlb)).trans e⟩
      · rw [upd_same, ins_map]
      · rw [pm.length_eq, List.length_cons, m1]
      · exact pm.nodup_iff.mpr (List.nodup_cons.mpr ⟨hnew, m2⟩)
      · intro x hx
        rcases List.mem_cons.mp (pm.mem_iff.mp hx) with rfl | hx
        · exact ⟨nok, i, Nat.lt_succ_self _, nla⟩
        · obtain ⟨z1, j, z2, z3⟩ := m3 x hx
          exact ⟨z1, j, Nat.lt_succ_of_lt z2, z3⟩
    · rintro σ H6 ⟨y8, y9, y10, y11, names, rfl, o6, b6, l6, m1, m2, m3⟩
      exact ⟨.ref l, rfl, q l names H6 o6 b6 nl l6 (by omega) m2 fun x hx => (m3 x hx).1⟩
/-! ### _law_pals -/
abbrev sPals : Stmt := topS 11
abbrev nPals : List Str := ["_law_box_here", "_law_pool", "_law_way", "_law_found", "_law_side", "_law_k", "_law_mine", "_law_j", "_law_fine", "_law_name"]
theorem scPals : FnScope nPals ["_law_box_here", "_law_pool"] (defScope sPals) := ⟨rfl, rfl, rfl, by decide +kernel, rfl, by decide +kernel, by decide +kernel⟩
theorem ok_pals {f : Addr} {fd : FuncData} (B : Blt mg) (CT : Cal P w K mg base 1 "_law_take" ["_law_box_here", "_law_many"] spTake) (F : Fun K "_law_pals" "_law_pals" sPals f fd) : FnOk P w K mg base CX0 2 f fd ["_law_box_here", "_law_pool"] spPals01 := by
  refine fok F scPals (fun vs H Q E h => ?_) (fun cdv A outer s H vs Q E hr h => ?_)
  · obtain ⟨b, l, pool, rfl, _⟩ := h
    rfl
  obtain ⟨b, l, pool, rfl, hb, hl, hnd, hn, q⟩ := h
  have t7 := triL7 hn
  have nlb : l ≠ b := hb.ne_strs hl
  refine ⟨_, pss_cons (ps_par (i := 2) (j := 3) (by rfl) scPals.nd rfl rfl (by decide) rfl rfl (pa_cons (pe_cal CT hr (pa_cons (pv 0) (pa_cons pe_int pa_nil))) (pa_cons (pe_lst pa_nil) pa_nil)) (by rfl))
    (pss_cons (ps_setLc (i := 4) (own := [("_law_name", 9)]) (g := gName 9) (tt := tYes) rfl scPals.nd rfl rfl (sw_true rfl rfl rfl (by decide +kernel)) (pi_list (pv 1)) (blkOk_by (N := nPals) (sc := defScope sPals) (by decide +kernel)) (fun _ _ _ _ _ => pg_name (i := 9) scPals.nd rfl (Or.inl rfl)) (fun _ _ _ _ _ => pts_nil)
        (fun _ _ _ _ _ => pe_cal CT hr (pa_cons (pv 0) (pa_cons pe_int pa_nil))))
    (pss_cons (ps_for PassesOwn.never rfl (pi_enum (by rfl) B.enumerate (pa_cons (pv 1) pa_nil)) (pg_tup rfl (pgs_cons (pg_name (i := 5) scPals.nd rfl (.inl rfl)) (pgs_cons (pg_name (i := 6) scPals.nd rfl (.inl rfl)) pgs_nil)))
      (pss_one (ps_for PassesOwn.never rfl (pi_range1 (by rfl) B.range (pa_cons (pv 5) pa_nil)) (pg_name (i := 7) scPals.nd rfl (.inl rfl))
        (pss_cons (ps_set (i := 8) scPals.nd rfl (.inl rfl) (pe_mid (pe_ix ix_list (pe_lst (pa_cons (pe_cmpR op_eq (pe_cal CT hr (pa_cons (pv 0) (pa_cons pe_int pa_nil))) pe_int (nomark _)) (pa_cons (pe_cmpR op_eq (pe_cal CT hr (pa_cons (pv 0) (pa_cons pe_int pa_nil))) pe_int (nomark _)) (pa_cons (pe_cmpR op_gt (pe_cal CT hr (pa_cons (pv 0) (pa_cons pe_int pa_nil))) pe_int (nomark _)) pa_nil)))) (pe_op op_mod (pv 2) pe_int) (fun _ _ => rfl))))
        (pss_cons (ps_set (i := 8) scPals.nd rfl (.inl rfl) (pe_mid (pe_ifExp (pt_cmpR op_eq (pv 2) pe_int (nomark _)) (pe_cmpR op_eq (pe_ix ix_list (pv 4) (pv 5) (fun _ _ => rfl)) (pe_ix ix_list (pv 4) (pv 7) (fun _ _ => rfl)) (nomark _)) (pv 8))))
        (pss_one (ps_if (pt_val (pv 8)) (pss_one (ps_expr (pe_bm PySem.F.plainAttrs_list PySem.F.slot_list_append PySem.F.type_list_append mt_append (pv 3) (pa_cons (pe_tup (pa_cons (pe_callB (call_minS rfl) (by rfl) B.min (by decide +kernel) (pa_cons (pv 6) (pa_cons (pe_ix ix_list (pv 1) (pv 7) (fun _ _ => rfl)) pa_nil))) (pa_cons (pe_callB (call_maxS rfl) (by rfl) B.max (by decide +kernel) (pa_cons (pv 6) (pa_cons (pe_ix ix_list (pv 1) (pv 7) (fun _ _ => rfl)) pa_nil))) pa_nil))) pa_nil)))) pss_nil)))))))
    (pss_one (ps_ret (pe_callTy call_tuple_of (by rfl) B.tuple (by decide +kernel) (pa_cons (pe_callB (cr_sortedTT hr.units) (by rfl) B.sorted (by decide +kernel) (pa_cons (pv 3) pa_nil)) pa_nil)))))), ?_⟩
  -- way, found
  refine ⟨.ref b, rfl, b, 6, rfl, hb, by decide, by decide, fun way H1 o1 b1 w0 w1 => ⟨(by show 0 ≤ sizeLine; decide), fun fa hfa => ⟨_, _, rfl, ?_⟩⟩⟩
  have nfb : fa ≠ b := b1.ne_none hfa
  have nf : H fa = none := o1.free nfb hfa
  have l1 : H1 l = some (.lst (pool.map V.str)) := o1 _ _ nlb hl
  have nlf : l ≠ fa := ne_of_none l1 hfa
  have l2 : upd H1 fa (.lst []) l = some (.lst (pool.map V.str)) := (upd_ne nlf).trans l1
  have b2 : IsBox (upd H1 fa (.lst [])) b := b1.same (same_upd hfa)
  have o2 : Oth b H (upd H1 fa (.lst [])) := o1.trans (Oth.of (same_upd hfa))
  have f2 : upd H1 fa (.lst []) fa = some (.lst []) := upd_same
  dsimp only
  generalize upd H1 fa (.lst []) = H2 at *
  -- side
  refine ⟨.ref l, rfl, l, rfl, ⟨_, .inl (.inl l2)⟩, fun sa hsa => ?_⟩
  have nsb : sa ≠ b := b2.ne_none hsa
  have nsl : l ≠ sa := ne_of_none l2 hsa
  have nsf : fa ≠ sa := ne_of_none f2 hsa
  have ns : H sa = none := o2.free nsb hsa
  refine lc_it (walk_list (xs := pool.map V.str)) (fun i H' => ∃ sd : List Int, Oth b H H' ∧ IsBox H' b ∧ H' l = some (.lst (pool.map V.str)) ∧ H' fa = some (.lst []) ∧ H' sa = some (.lst (sd.map V.int)) ∧ sd.length = i) ?_ ?_ ?_ ?_
  · exact ⟨[], o2.trans (Oth.of (same_upd hsa)), b2.same (same_upd hsa), (upd_ne nsl).trans l2, (upd_ne nsf).trans f2, upd_same, rfl⟩
  · rintro i H' _ ⟨sd, _, _, e, _⟩
    exact .inl (.inl e)
  · rintro i x H4 H3 hi ⟨sd, o3, b3, l3, f3, s3, m3⟩ ⟨rfl, _⟩
    rw [List.length_map] at hi
    refine ⟨rfl, ⟨.ref b, rfl, b, 3, rfl, b3, by decide, by decide, fun v H5 o5 b5 v0 v1 => ⟨sd.map V.int, o5 _ _ nsb s3, ?_, ?_⟩⟩⟩
    · rw [List.length_map]
      exact small1000 (by omega)
    · refine ⟨sd ++ [v], fun a o na e => ?_, ?_, (upd_ne nsl).trans (o5 _ _ nlb l3), (upd_ne nsf).trans (o5 _ _ nfb f3), ?_, ?_⟩
      · rw [upd_ne (ne_of_none e ns)]
        exact o5 _ _ na (o3 _ _ na e)
      · obtain ⟨i1, i2, i3, e⟩ := b5
        exact ⟨i1, i2, i3, (upd_ne (Ne.symm nsb)).trans e⟩
      · rw [upd_same, List.map_append]
        rfl
      · rw [List.length_append, m3]
        rfl
  rintro H3 ⟨sd, o3, b3, l3, f3, s3, m3⟩
  rw [List.length_map] at m3
  -- the loops
  have hw : way = 0 ∨ way = 1 ∨ way = 2 ∨ way = 3 ∨ way = 4 ∨ way = 5 := by omega
  refine ⟨.ref l, rfl, l, _, rfl, .inl (.inl l3), ?_⟩
  refine for_it (walk_enum (xs := pool.map V.str)) (fun i σ H' => ∃ (y5 y6 y7 y8 y9 : Option V) (bs : List B3), σ = [some (.ref b), some (.ref l), some (.int way), some (.ref fa), some (.ref sa), y5, y6, y7, y8, y9] ∧ Oth b H H' ∧ IsBox H' b ∧ H' l = some (.lst (pool.map V.str)) ∧ H' fa = some (.lst (refs bs)) ∧ H' sa = some (.lst (sd.map V.int)) ∧ PairsAt H' bs ∧ OfN pool (bs.map (·.2)) i 0 ∧ bs.length ≤ triL i) ?_ ?_ ?_ ?_
  · exact ⟨_, _, _, _, _, [], rfl, o3, b3, l3, f3, s3, (fun _ h => nomatch h), OfN.nil, Nat.zero_le _⟩
  · rintro i σ H' _ ⟨y5, y6, y7, y8, y9, bs, _, _, _, e, _⟩
    exact .inl (.inl e)
  · rintro i x σ H4 H5 hi ⟨y5, y6, y7, y8, y9, bs, rfl, o4, b4, l4, f4, s4, p4, g4, c4⟩ ⟨T, x1, x2, rfl, nT, rfl, e1, e2⟩
    have ti : triL i ≤ 21 := triL7 (by have h : i < (pool.map V.str).length := hi; rw [List.length_map] at h; omega)
    rw [List.length_map] at hi
    cases e1
    obtain ⟨mine, hmine, rfl⟩ := at_map e2
    have sT : Same H4 (upd H4 T (.tup [.int (i : Nat), .str mine])) := same_upd nT
    refine ⟨T, _, rfl, .inl (.inl upd_same), rfl, _, _, rfl, _, _, rfl, rfl, ?_⟩
    refine ⟨_, rfl, i, rfl, by omega, by omega, ?_⟩
    refine for_it (walk_range (lo := 0) (n := (i : Int).toNat)) (fun j σ H' => ∃ (y7 y8 y9 : Option V) (bs : List B3), σ = [some (.ref b), some (.ref l), some (.int way), some (.ref fa), some (.ref sa), some (.int i), some (.str mine), y7, y8, y9] ∧ Oth b H H' ∧ IsBox H' b ∧ H' l = some (.lst (pool.map V.str)) ∧ H' fa = some (.lst (refs bs)) ∧ H' sa = some (.lst (sd.map V.int)) ∧ PairsAt H' bs ∧ OfN pool (bs.map (·.2)) i j ∧ bs.length ≤ triL i + j) ?_ (fun _ _ _ _ _ => trivial) ?_ ?_
    · exact ⟨_, _, _, bs, rfl, o4.trans (Oth.of sT), b4.same sT, sT _ _ l4, sT _ _ f4, sT _ _ s4, p4.same sT, g4, by omega⟩
    · rintro j x σ H7 H6 hj ⟨y7, y8, y9, bs, rfl, o6, b6, l6, f6, s6, p6, g6, c6⟩ ⟨rfl, rfl⟩
      have hj2 : j < i := by omega
      obtain ⟨sj, hsj⟩ : ∃ v, sd[j]? = some v := ⟨sd[j]'(by omega), List.getElem?_eq_getElem _⟩
      obtain ⟨si, hsi⟩ : ∃ v, sd[i]? = some v := ⟨sd[i]'(by omega), List.getElem?_eq_getElem _⟩
      obtain ⟨pj, hpj⟩ : ∃ v, pool[j]? = some v := ⟨pool[j]'(by omega), List.getElem?_eq_getElem _⟩
      -- fine, by a draw
      refine ⟨fun v H8 => (∃ fb : Bool, v = .bl fb) ∧ Oth b H6 H8 ∧ IsBox H8 b, ?_, ?_⟩
      · refine ⟨.ref b, rfl, b, 4, rfl, b6, by decide, by decide, fun v1 h1 q1 c1 _ _ => ⟨rfl, .ref b, rfl, b, 2, rfl, c1, by decide, by decide, fun v2 h2 q2 c2 _ _ => ⟨rfl, .ref b, rfl, b, 4, rfl, c2, by decide, by decide, fun v3 h3 q3 c3 _ _ => ⟨_, _, rfl, rfl, (by show 3 ≤ sizeLine; decide), fun p hp => ?_⟩⟩⟩⟩
        have k0 : 0 ≤ way % 3 := Int.emod_nonneg _ (by decide)
        have k1 : way % 3 < 3 := Int.emod_lt_of_pos _ (by decide)
        have ox : Oth b H6 (upd h3 p (.lst [.bl (decide (V.int v1 = V.int 0)), .bl (decide (V.int v2 = V.int 0)), .bl (decide (v3 > 0))])) := ((q1.trans q2).trans q3).trans (Oth.of (same_upd hp))
        have bx : IsBox (upd h3 p (.lst [.bl (decide (V.int v1 = V.int 0)), .bl (decide (V.int v2 = V.int 0)), .bl (decide (v3 > 0))])) b := c3.same (same_upd hp)
        have km : way % 3 = ((0 : Nat) : Int) ∨ way % 3 = ((1 : Nat) : Int) ∨ way % 3 = ((2 : Nat) : Int) := by omega
        rcases km with km | km | km
        · exact ⟨_, rfl, _, _, rfl, rfl, (by show (0 : Int) < 3; decide), p, _, _, _, rfl, rfl, .inl (.inl upd_same), (by rw [km]; exact atI_nat (j := 0) rfl), ⟨_, rfl⟩, ox, bx⟩
        · exact ⟨_, rfl, _, _, rfl, rfl, (by show (0 : Int) < 3; decide), p, _, _, _, rfl, rfl, .inl (.inl upd_same), (by rw [km]; exact atI_nat (j := 1) rfl), ⟨_, rfl⟩, ox, bx⟩
        · exact ⟨_, rfl, _, _, rfl, rfl, (by show (0 : Int) < 3; decide), p, _, _, _, rfl, rfl, .inl (.inl upd_same), (by rw [km]; exact atI_nat (j := 2) rfl), ⟨_, rfl⟩, ox, bx⟩
      rintro v H8 ⟨⟨fb, rfl⟩, o8, b8⟩
      have l8 := o8 _ _ nlb l6
      have f8 := o8 _ _ nfb f6
      have s8 := o8 _ _ nsb s6
      have p8 := p6.oth o8 b6
      have o8' := o6.trans o8
      -- fine, by sides
      refine ⟨fun v H9 => (∃ fb : Bool, v = .bl fb) ∧ H9 = H8, ?_, ?_⟩
      · refine ⟨_, rfl, rfl, _, rfl, ite2 (fun _ => ?_) (fun _ => ?_)⟩
        · exact ⟨_, rfl, _, rfl, sa, _, _, _, rfl, rfl, .inl (.inl s8), atI_nat (ix_map hsi), _, rfl, _, rfl, sa, _, _, _, rfl, rfl, .inl (.inl s8), (by rw [Int.zero_add]; exact atI_nat (ix_map hsj)), rfl, ⟨_, rfl⟩, rfl⟩
        · exact ⟨_, rfl, ⟨_, rfl⟩, rfl⟩
      rintro v H9 ⟨⟨fb2, rfl⟩, rfl⟩
      refine ⟨_, rfl, fb2, rfl, ite2 (fun _ => ?_) (fun _ => ?_)⟩
      · refine ⟨.ref fa, rfl, .inl ⟨rfl, _, .inl (.inl f8)⟩, _, rfl, _, rfl, _, rfl, l, _, _, _, rfl, rfl, .inl (.inl l8), (by rw [Int.zero_add]; exact atI_nat (ix_map hpj)), _, _, rfl, _, rfl, _, rfl, _, rfl, l, _, _, _, rfl, rfl, .inl (.inl l8), (by rw [Int.zero_add]; exact atI_nat (ix_map hpj)), _, _, rfl, (by show 2 ≤ sizeLine; decide), fun t ht => ?_⟩
        have st : Same H9 (upd H9 t (.tup [.str (lmin mine pj), .str (lmax mine pj)])) := same_upd ht
        have f9 := st _ _ f8
        have ntf : t ≠ fa := (ne_of_none f8 ht).symm
        refine ⟨fa, _, _, rfl, rfl, f9, ?_, ?_⟩
        · show (bs.map _).length < _
          rw [List.length_map]
          exact small1000 (by omega)
        · refine ⟨_, _, _, bs ++ [(t, lmin mine pj, lmax mine pj)], rfl, fun a o na e => ?_, ?_, ?_, ?_, ?_, ?_, ?_, ?_⟩
          · rw [upd_ne (ne_of_none e nf)]
            exact st _ _ (o8' _ _ na e)
          · obtain ⟨i1, i2, i3, e⟩ := b8
            exact ⟨i1, i2, i3, (upd_ne (Ne.symm nfb)).trans (st _ _ e)⟩
          · exact (upd_ne nlf).trans (st _ _ l8)
          · rw [upd_same]
            show _ = some (HO.lst ((bs ++ [_]).map _))
            rw [List.map_append]
            rfl
          · exact (upd_ne (Ne.symm nsf)).trans (st _ _ s8)
          · intro c hc
            rcases List.mem_append.mp hc with z | z
            · have e := st _ _ (p8 c z)
              rw [upd_ne (ne_of e f9 (fun z => nomatch z))]
              exact e
            · have ec : c = (t, lmin mine pj, lmax mine pj) := by simpa using z
              rw [ec]
              exact (upd_ne ntf).trans upd_same
          · rw [List.map_append]
            exact g6.put hnd hj2 hmine hpj
          · rw [List.length_append]
            show bs.length + 1 ≤ _
            omega
      · exact ⟨_, _, _, bs, rfl, o8', b8, l8, f8, s8, p8, g6.step, by omega⟩
    · rintro σ H6 ⟨y7, y8, y9, bs, rfl, o6, b6, l6, f6, s6, p6, g6, c6⟩
      rw [Int.toNat_natCast] at g6
      exact ⟨_, _, _, _, _, bs, rfl, o6, b6, l6, f6, s6, p6, g6.next, by show bs.length ≤ triL i + i; omega⟩
  · rintro σ H4 ⟨y5, y6, y7, y8, y9, bs, rfl, o4, b4, l4, f4, s4, p4, g4, c4⟩
    rw [List.length_map] at c4
    refine ⟨_, rfl, fa, bs, rfl, .inl (.inl f4), p4, fun p hp => ?_⟩
    have s5 : Same H4 (upd H4 p (.lst ((bs.mergeSort (PySem.W.dataLe false encP)).map fun b => V.ref b.1))) := same_upd hp
    refine ⟨p, _, rfl, .inl ⟨.inl (.inl upd_same), fun a ha => ?_⟩⟩
    have s6 := s5.trans (same_upd (o := .tup ((bs.mergeSort (PySem.W.dataLe false encP)).map fun b => V.ref b.1)) ha)
    have nab : a ≠ b := (b4.same s5).ne_none ha
    have pm := List.mergeSort_perm bs (PySem.W.dataLe false encP)
    refine q a (bs.mergeSort (PySem.W.dataLe false encP)) _ (o4.trans (Oth.of s6)) (b4.same s6) (o4.free nab (s5.free ha)) upd_same (fun c hc => s6 _ _ (p4 c (pm.mem_iff.mp hc))) (fun p' hp' => (g4.of hnd) p' ((pm.map _).mem_iff.mp hp')) ((pm.map _).nodup_iff.mpr g4.1) ?_ ⟨bs, rfl⟩
    rw [pm.length_eq]
    omega
/-! ### _law_same -/
abbrev sSame : Stmt := topS 12
abbrev nSame : List Str := ["_law_found", "_law_due", "_law_piece", "_law_part"]
theorem scSame : FnScope nSame ["_law_found", "_law_due"] (defScope sSame) := ⟨rfl, rfl, rfl, by decide +kernel, rfl, by decide +kernel, by decide +kernel⟩
theorem ok_same_step {f : Addr} {fd : FuncData} {n : Nat} (B : Blt mg) (CS : Cal P w K mg base n "_law_same" ["_law_found", "_law_due"] (spSame n)) (F : Fun K "_law_same" "_law_same" sSame f fd) : FnOk P w K mg base CX0 (n + 1) f fd ["_law_found", "_law_due"] (spSame (n + 1)) := by
  refine fok F scSame (fun vs H Q E h => ?_) (fun cdv A outer s H vs Q E hr h => ?_)
  · obtain ⟨x, y, rfl, _⟩ := h
    rfl
  obtain ⟨x, y, rfl, hA, q⟩ := h
  refine ⟨_, pss_cons (ps_if (pt_val (pe_callB call_isiT (by rfl) B.isinstance (by decide +kernel) (pa_cons (pv 1) (pa_cons (pe_tup (pa_cons (pe_bltn (v := .ty "list") (by rfl) B.list (by decide +kernel) rfl) (pa_cons (pe_bltn (v := .ty "tuple") (by rfl) B.tuple (by decide +kernel) rfl) pa_nil))) pa_nil))))
      (pss_cons (ps_if (PW.pt (pw_or (pt_cmpR op_ne (pe_callB call_isi (by rfl) B.isinstance (by decide +kernel) (pa_cons (pv 0) (pa_cons (pe_bltn (v := .ty "list") (by rfl) B.list (by decide +kernel) rfl) pa_nil))) (pe_callB call_isi (by rfl) B.isinstance (by decide +kernel) (pa_cons (pv 1) (pa_cons (pe_bltn (v := .ty "list") (by rfl) B.list (by decide +kernel) rfl) pa_nil))) (nomark _))
          (pw_or1 (pt_cmpR op_ne (pe_callB call_isi (by rfl) B.isinstance (by decide +kernel) (pa_cons (pv 0) (pa_cons (pe_bltn (v := .ty "tuple") (by rfl) B.tuple (by decide +kernel) rfl) pa_nil))) (pe_callB call_isi (by rfl) B.isinstance (by decide +kernel) (pa_cons (pv 1) (pa_cons (pe_bltn (v := .ty "tuple") (by rfl) B.tuple (by decide +kernel) rfl) pa_nil))) (nomark _)))))
        (pss_one (ps_ret pe_bl)) pss_nil)
      (pss_one (ps_ret (pe_and (pe_cmpR op_eq (pe_callB call_len_seq (by rfl) B.len PySem.boot_len (pa_cons (pv 0) pa_nil)) (pe_callB call_len_seq (by rfl) B.len PySem.boot_len (pa_cons (pv 1) pa_nil)) (nomark _))
        (pe_one (pe_callB (cr_all rfl) (by rfl) B.all (by decide +kernel) (pa_cons (pe_lc (own := [("_law_piece", 2), ("_law_part", 3)]) (g := gTup K 2 (gCons (gName 2) (gCons (gName 3) gNil))) (tt := tYes) rfl scSame.nd (RZ.pi_zipA (by rfl) B.zip (pa_cons (pv 0) (pa_cons (pv 1) pa_nil))) (blkOk_by (N := nSame) (sc := defScope sSame) (by decide +kernel))
          (fun _ _ _ _ _ => pg_tup rfl (pgs_cons (pg_name (i := 2) scSame.nd rfl (Or.inl rfl)) (pgs_cons (pg_name (i := 3) scSame.nd rfl (Or.inl rfl)) pgs_nil))) (fun _ _ _ _ _ => pts_nil) (fun _ _ _ _ _ => pe_cal CS hr (pa_cons (pv 2) (pa_cons (pv 3) pa_nil)))) pa_nil))))))) pss_nil)
    (pss_cons (ps_if (PW.pt (pw_or (pt_cmp (pc_isN (pv 1))) (pw_or1 (pt_val (pe_callB call_isi (by rfl) B.isinstance (by decide +kernel) (pa_cons (pv 1) (pa_cons (pe_bltn (v := .ty "str") (by rfl) B.str (by decide +kernel) rfl) pa_nil)))))))
      (pss_one (ps_ret (pe_and (pe_cmpR op_eq (pe_callB call_isi (by rfl) B.isinstance (by decide +kernel) (pa_cons (pv 0) (pa_cons (pe_bltn (v := .ty "str") (by rfl) B.str (by decide +kernel) rfl) pa_nil))) (pe_callB call_isi (by rfl) B.isinstance (by decide +kernel) (pa_cons (pv 1) (pa_cons (pe_bltn (v := .ty "str") (by rfl) B.str (by decide +kernel) rfl) pa_nil))) (nomark _)) (pe_one (pe_cmpR op_eq (pv 0) (pv 1) (nomark _)))))) pss_nil)
    (pss_one (ps_ret (pe_and (pe_callB call_isi (by rfl) B.isinstance (by decide +kernel) (pa_cons (pv 0) (pa_cons (pe_bltn (v := .ty "int") (by rfl) B.int (by decide +kernel) rfl) pa_nil)))
      (pe_and (pe_cmpR op_eq (pe_callB call_isi (by rfl) B.isinstance (by decide +kernel) (pa_cons (pv 0) (pa_cons (pe_bltn (v := .ty "bool") (by rfl) B.bool (by decide +kernel) rfl) pa_nil))) (pe_callB call_isi (by rfl) B.isinstance (by decide +kernel) (pa_cons (pv 1) (pa_cons (pe_bltn (v := .ty "bool") (by rfl) B.bool (by decide +kernel) rfl) pa_nil))) (nomark _)) (pe_one (pe_cmpR op_eq (pv 0) (pv 1) (nomark _)))))))), ?_⟩
  have l2 : (2 : Nat) ≤ sizeLine := by decide
  rcases hA with ⟨hx, rfl⟩ | ⟨a, b, xs, ys, rfl, rfl, h1, h2, hl, hz, h⟩ | ⟨a, b, xs, ys, rfl, rfl, h1, h2, hl, hz, h⟩
  · rcases hx with rfl | ⟨c, rfl⟩ | ⟨c, rfl⟩ | ⟨c, rfl⟩
    · refine ⟨_, rfl, l2, fun p hp => ⟨_, p, _, _, _, false, rfl, upd_same, .cons (.ty _) (.cons (.ty _) .nil), .base .non, kitAny_cons (b := false) (kit_ty (by decide +kernel)) (fun _ => kitAny_cons (b := false) (kit_ty (by decide +kernel)) (fun _ => kitAny_nil) (fun z => nomatch z)) (fun z => nomatch z), _, rfl, ?_⟩⟩
      refine ⟨_, rfl, _, rfl, ?_⟩
      refine ⟨_, rfl, _, _, _, _, false, rfl, .ty _, .base .non, kit_ty (by decide +kernel), _, rfl, _, _, _, _, false, rfl, .ty _, .base .non, kit_ty (by decide +kernel), rfl, _, rfl, ?_⟩
      exact ⟨_, rfl, _, rfl, rfl, q _ (same_upd hp)⟩
    · refine ⟨_, rfl, l2, fun p hp => ⟨_, p, _, _, _, false, rfl, upd_same, .cons (.ty _) (.cons (.ty _) .nil), .base (.bl c), kitAny_cons (b := false) (kit_ty (by decide +kernel)) (fun _ => kitAny_cons (b := false) (kit_ty (by decide +kernel)) (fun _ => kitAny_nil) (fun z => nomatch z)) (fun z => nomatch z), _, rfl, ?_⟩⟩
      refine ⟨_, rfl, _, rfl, _, rfl, _, _, _, _, false, rfl, .ty _, .base (.bl c), kit_ty (by decide +kernel), _, rfl, ?_⟩
      refine ⟨_, rfl, _, _, _, _, true, rfl, .ty _, .base (.bl c), kit_ty (by decide +kernel), _, rfl, ?_⟩
      refine ⟨_, rfl, _, _, _, _, true, rfl, .ty _, .base (.bl c), kit_ty (by decide +kernel), _, rfl, _, _, _, _, true, rfl, .ty _, .base (.bl c), kit_ty (by decide +kernel), rfl, _, rfl, ?_⟩
      refine ⟨_, rfl, _, rfl, rfl, ?_⟩
      rw [decide_eq_true rfl]
      exact q _ (same_upd hp)
    · refine ⟨_, rfl, l2, fun p hp => ⟨_, p, _, _, _, false, rfl, upd_same, .cons (.ty _) (.cons (.ty _) .nil), .base (.int c), kitAny_cons (b := false) (kit_ty (by decide +kernel)) (fun _ => kitAny_cons (b := false) (kit_ty (by decide +kernel)) (fun _ => kitAny_nil) (fun z => nomatch z)) (fun z => nomatch z), _, rfl, ?_⟩⟩
      refine ⟨_, rfl, _, rfl, _, rfl, _, _, _, _, false, rfl, .ty _, .base (.int c), kit_ty (by decide +kernel), _, rfl, ?_⟩
      refine ⟨_, rfl, _, _, _, _, true, rfl, .ty _, .base (.int c), kit_ty (by decide +kernel), _, rfl, ?_⟩
      refine ⟨_, rfl, _, _, _, _, false, rfl, .ty _, .base (.int c), kit_ty (by decide +kernel), _, rfl, _, _, _, _, false, rfl, .ty _, .base (.int c), kit_ty (by decide +kernel), rfl, _, rfl, ?_⟩
      refine ⟨_, rfl, _, rfl, rfl, ?_⟩
      rw [decide_eq_true rfl]
      exact q _ (same_upd hp)
    · refine ⟨_, rfl, l2, fun p hp => ⟨_, p, _, _, _, false, rfl, upd_same, .cons (.ty _) (.cons (.ty _) .nil), .base (.str c), kitAny_cons (b := false) (kit_ty (by decide +kernel)) (fun _ => kitAny_cons (b := false) (kit_ty (by decide +kernel)) (fun _ => kitAny_nil) (fun z => nomatch z)) (fun z => nomatch z), _, rfl, ?_⟩⟩
      refine ⟨_, rfl, _, rfl, _, rfl, _, _, _, _, true, rfl, .ty _, .base (.str c), kit_ty (by decide +kernel), _, rfl, ?_⟩
      refine ⟨_, rfl, _, _, _, _, true, rfl, .ty _, .base (.str c), kit_ty (by decide +kernel), _, rfl, _, _, _, _, true, rfl, .ty _, .base (.str c), kit_ty (by decide +kernel), rfl, _, rfl, ?_⟩
      refine ⟨_, rfl, _, rfl, rfl, ?_⟩
      rw [decide_eq_true rfl]
      exact q _ (same_upd hp)
  · refine ⟨_, rfl, l2, fun p hp => ⟨_, p, _, _, _, true, rfl, upd_same, .cons (.ty _) (.cons (.ty _) .nil), .base (.lst (same_upd hp _ _ h2)), kitAny_cons (b := true) (kit_ty (by decide +kernel)) (fun z => nomatch z) (fun _ => rfl), _, rfl, ?_⟩⟩
    have sp : Same H (upd H p (.tup [.ty "list", .ty "tuple"])) := same_upd hp
    have k1 := sp _ _ h1
    have k2 := sp _ _ h2
    refine ⟨_, rfl, _, _, _, _, true, rfl, .ty _, .base (.lst k1), kit_ty (by decide +kernel), _, rfl, _, _, _, _, true, rfl, .ty _, .base (.lst k2), kit_ty (by decide +kernel), rfl, _, rfl, ?_⟩
    refine ⟨_, rfl, _, _, _, _, false, rfl, .ty _, .base (.lst k1), kit_ty (by decide +kernel), _, rfl, _, _, _, _, false, rfl, .ty _, .base (.lst k2), kit_ty (by decide +kernel), rfl, _, rfl, ?_⟩
    refine ⟨_, rfl, a, _, rfl, .inl (.inl (.inl k1)), _, rfl, b, _, rfl, .inl (.inl (.inl k2)), rfl, _, rfl, ?_⟩
    rw [hl, decide_eq_true rfl]
    refine ⟨_, rfl, _, rfl, a, b, xs, ys, rfl, .inl ⟨.inl (.inl k1), .inl (.inl k2), fun D hD => ?_⟩⟩
    refine lc_it (walk_zip (xs := xs) (ys := ys) (n := xs.length) (by omega)) (fun i H' => Same (upd H p (.tup [.ty "list", .ty "tuple"])) H' ∧ H' D = some (.lst ((List.replicate i true).map V.bl))) ?_ ?_ ?_ ?_
    · exact ⟨same_upd hD, upd_same⟩
    · rintro i H' _ ⟨s2, _⟩
      exact ⟨.inl (.inl (s2 _ _ k1)), .inl (.inl (s2 _ _ k2))⟩
    · rintro i v H2 H3 hi ⟨s2, d2⟩ ⟨T, u1, u2, rfl, nT, rfl, e1, e2⟩
      have s3 := s2.trans (same_upd (o := .tup [u1, u2]) nT)
      refine ⟨T, _, rfl, .inl (.inl upd_same), rfl, _, _, rfl, _, _, rfl, rfl, rfl, ?_⟩
      refine ⟨_, rfl, _, rfl, u1, u2, rfl, (h i u1 u2 e1 e2).same (sp.trans s3), fun H4 s4 => ?_⟩
      have d4 := s4 _ _ (same_upd nT _ _ d2)
      refine ⟨_, d4, ?_, fun c o e => ?_, ?_⟩
      · rw [List.length_map, List.length_replicate]
        exact small1000 (by omega)
      · rw [upd_ne (ne_of_none e hD)]
        exact s4 _ _ (s3 _ _ e)
      · rw [upd_same, List.replicate_succ', List.map_append]
        rfl
    · rintro H2 ⟨s2, d2⟩
      refine ⟨D, _, rfl, .inl (.inl d2), ?_⟩
      rw [show (List.replicate xs.length true).all id = true by simp]
      exact q _ (sp.trans s2)
  · refine ⟨_, rfl, l2, fun p hp => ⟨_, p, _, _, _, true, rfl, upd_same, .cons (.ty _) (.cons (.ty _) .nil), (h2.same (same_upd hp)).ty, kitAny_cons (b := false) (kit_ty (by decide +kernel)) (fun _ => kitAny_cons (b := true) (kit_ty (by decide +kernel)) (fun z => nomatch z) (fun _ => rfl)) (fun z => nomatch z), _, rfl, ?_⟩⟩
    have sp : Same H (upd H p (.tup [.ty "list", .ty "tuple"])) := same_upd hp
    have k1 := h1.same sp
    have k2 := h2.same sp
    refine ⟨_, rfl, _, _, _, _, false, rfl, .ty _, k1.ty, kit_ty (by decide +kernel), _, rfl, _, _, _, _, false, rfl, .ty _, k2.ty, kit_ty (by decide +kernel), rfl, _, rfl, ?_⟩
    refine ⟨_, rfl, _, _, _, _, true, rfl, .ty _, k1.ty, kit_ty (by decide +kernel), _, rfl, _, _, _, _, true, rfl, .ty _, k2.ty, kit_ty (by decide +kernel), rfl, _, rfl, ?_⟩
    refine ⟨_, rfl, a, _, rfl, .inr k1.sq, _, rfl, b, _, rfl, .inr k2.sq, rfl, _, rfl, ?_⟩
    rw [hl, decide_eq_true rfl]
    refine ⟨_, rfl, _, rfl, a, b, xs, ys, rfl, .inr ⟨k1.sq, k2.sq, fun D hD => ?_⟩⟩
    refine lc_it (walk_zipT (xs := xs) (ys := ys) (n := xs.length) (by omega)) (fun i H' => Same (upd H p (.tup [.ty "list", .ty "tuple"])) H' ∧ H' D = some (.lst ((List.replicate i true).map V.bl))) ?_ ?_ ?_ ?_
    · exact ⟨same_upd hD, upd_same⟩
    · rintro i H' _ ⟨s2, _⟩
      exact ⟨(k1.same s2).sq, (k2.same s2).sq⟩
    · rintro i v H2 H3 hi ⟨s2, d2⟩ ⟨T, u1, u2, rfl, nT, rfl, e1, e2⟩
      have s3 := s2.trans (same_upd (o := .tup [u1, u2]) nT)
      refine ⟨T, _, rfl, .inl (.inl upd_same), rfl, _, _, rfl, _, _, rfl, rfl, rfl, ?_⟩
      refine ⟨_, rfl, _, rfl, u1, u2, rfl, (h i u1 u2 e1 e2).same (sp.trans s3), fun H4 s4 => ?_⟩
      have d4 := s4 _ _ (same_upd nT _ _ d2)
      refine ⟨_, d4, ?_, fun c o e => ?_, ?_⟩
      · rw [List.length_map, List.length_replicate]
        exact small1000 (by omega)
      · rw [upd_ne (ne_of_none e hD)]
        exact s4 _ _ (s3 _ _ e)
      · rw [upd_same, List.replicate_succ', List.map_append]
        rfl
    · rintro H2 ⟨s2, d2⟩
      refine ⟨D, _, rfl, .inl (.inl d2), ?_⟩
      rw [show (List.replicate xs.length true).all id = true by simp]
      exact q _ (sp.trans s2)
theorem ok_same {f : Addr} {fd : FuncData} (B : Blt mg) (F : Fun K "_law_same" "_law_same" sSame f fd) (hm : mg "_law_same" = some (.ref f)) (hb : L2.Binds K fd ["_law_found", "_law_due"] []) : ∀ n : Nat, FnOk P w K mg base CX0 n f fd ["_law_found", "_law_due"] (spSame n)
  | 0 => by
    have no : ∀ vs H Q E, ¬ spSame 0 vs H Q E := fun vs H Q E h => by
      obtain ⟨_, _, _, h, _⟩ := h
      exact h
    exact ⟨fun vs H Q E h => absurd h (no vs H Q E), fun A outer s H args us vs Q E _ _ _ _ h => absurd h (no vs H Q E)⟩
  | n + 1 => ok_same_step B ⟨f, fd, ok_same B F hm hb n, hm, F.kp, hb⟩ F
/-! ### is_name, any text -/
abbrev sIsName : Stmt := topS 2
abbrev nIsName : List Str := ["thing", "letter"]
theorem scIsName : FnScope nIsName ["thing"] (defScope sIsName) := ⟨rfl, rfl, rfl, by decide +kernel, rfl, by decide +kernel, by decide +kernel⟩
theorem ok_isNmD {f : Addr} {fd : FuncData} (B : Blt mg) (hL : ∃ u, mg "LONGEST_NAME" = some u ∧ RelV (.int 8) u) (F : Fun K "is_name" "is_name" sIsName f fd) : FnOk P w K mg base CX0 1 f fd ["thing"] spIsNmD := by
  obtain ⟨uL, hmL, rL⟩ := hL
  refine fok F scIsName (fun vs H Q E h => ?_) (fun cdv A outer s H vs Q E hr h => ?_)
  · obtain ⟨v, bad, d, rfl, _⟩ := h
    rfl
  obtain ⟨v, bad, d, rfl, tr, lw, q0⟩ := h
  refine ⟨_, pss_cons (ps_if (PW.pt (pw_or (pt_not (pt_val (pe_callB call_isi (by rfl) B.isinstance (by decide +kernel) (pa_cons (pv 0) (pa_cons (pe_bltn (v := .ty "str") (by rfl) B.str (by decide +kernel) rfl) pa_nil))))) (pw_or1 (pt_not (pt_chain op_le op_le pe_int (pe_callB call_len_str (by rfl) B.len PySem.boot_len (pa_cons (pv 0) pa_nil)) (pe_glob (v := .int 8) (by rfl) hmL rL)))))) (pss_one (ps_ret pe_bl)) pss_nil)
    (pss_one (ps_ret (pe_callB (cr_all rfl) (by rfl) B.all (by decide +kernel) (pa_cons (pe_lc (own := [("letter", 1)]) (g := gName 1) (tt := tYes) (te := tChain rLeS rLeS (tC (.str "a")) (tVar 1) (tC (.str "z"))) rfl scIsName.nd (pi_str (pv 0)) (blkOk_by (N := nIsName) (sc := defScope sIsName) (by decide +kernel))
      (fun _ _ _ _ _ => pg_name (i := 1) scIsName.nd rfl (Or.inl rfl)) (fun _ _ _ _ _ => pts_nil) (fun _ _ _ _ _ => pe_chain op_leS op_leS pe_str (pv 1) pe_str)) pa_nil)))), ?_⟩
  refine ⟨_, rfl, _, _, _, _, _, rfl, .ty _, tr.ty, isi_S d, _, rfl, ite2 (fun c => ?_) (fun c => ?_)⟩
  · have fin := q0 H (Same.refl _)
    have : nmB d = false := by cases d <;> simp_all [isS, nmB]
    rw [this] at fin
    exact fin
  obtain ⟨x, rfl⟩ := is_str (by simpa using c)
  simp only [Tr] at tr
  subst tr
  have lx : x.length ≤ 20000 := (show x.cps.size ≤ 20000 by simpa only [PyData.weight] using lw)
  have q : ∀ H', Same H H' → Q (.bl (nb x)) H' := q0
  refine ⟨.str x, rfl, x, rfl, Nat.le_trans lx (by decide), _, _, rfl, rfl, _, rfl, ?_⟩
  by_cases h1 : 1 ≤ x.length
  · have e1 : decide ((1 : Int) ≤ ((x.length : Nat) : Int)) = true := decide_eq_true (by omega)
    rw [e1]
    refine iteT ⟨_, _, rfl, rfl, _, rfl, ?_⟩
    by_cases h2 : x.length ≤ 8
    · have e2 : decide (((x.length : Nat) : Int) ≤ (8 : Int)) = true := decide_eq_true (by omega)
      rw [e2]
      refine ⟨.str x, rfl, x, rfl, fun D hD => ?_⟩
      refine lc_list (walk_str (z := x)) x.cps.toList (fun c => .bl (lb c)) (by simp) (by have : x.cps.size ≤ 8 := h2; omega) hD (fun _ _ => trivial) ?_ ?_
      · rintro i c v H2 H2' k hi s2 ⟨rfl, c', hc, rfl⟩ hk
        obtain rfl : c' = c := by
          rw [← Array.getElem?_toList] at hc
          exact Option.some.inj (hc.symm.trans hi)
        refine ⟨rfl, _, rfl, _, _, rfl, rfl, _, rfl, ?_⟩
        have hk' : ∀ H4, Same H2' H4 → k (.bl (decide (97 ≤ c') && decide (c' ≤ 122))) H4 := hk
        by_cases c1 : 97 ≤ c'
        · rw [show (!decide ((⟨#[c']⟩ : Str).cps.toList < (("a" : Str)).cps.toList)) = true from letter_ge c1]
          refine iteT ⟨_, _, rfl, rfl, ?_⟩
          rw [decide_eq_true c1, Bool.true_and] at hk'
          by_cases c2 : c' ≤ 122
          · rw [show (!decide ((("z" : Str)).cps.toList < (⟨#[c']⟩ : Str).cps.toList)) = true from letter_le c2]
            rw [decide_eq_true c2] at hk'
            exact hk' H2' (Same.refl _)
          · rw [show (!decide ((("z" : Str)).cps.toList < (⟨#[c']⟩ : Str).cps.toList)) = false from letter_gt (by omega)]
            rw [decide_eq_false c2] at hk'
            exact hk' H2' (Same.refl _)
        · rw [show (!decide ((⟨#[c']⟩ : Str).cps.toList < (("a" : Str)).cps.toList)) = false from letter_lt (by omega)]
          rw [decide_eq_false c1, Bool.false_and] at hk'
          exact iteF (hk' H2' (Same.refl _))
      · intro H2 s2 d2
        rw [bools_map] at d2
        refine ⟨D, _, rfl, .inl (.inl d2), ?_⟩
        have := q H2 s2
        rw [nb_in h1 h2] at this
        exact this
    · have e2 : decide (((x.length : Nat) : Int) ≤ (8 : Int)) = false := decide_eq_false (by omega)
      rw [e2]
      have := q H (Same.refl _)
      rw [show nb x = false by unfold nb; simp [h2]] at this
      exact this
  · have e1 : decide ((1 : Int) ≤ ((x.length : Nat) : Int)) = false := decide_eq_false (by omega)
    rw [e1]
    refine iteF ?_
    have := q H (Same.refl _)
    rw [show nb x = false by unfold nb; simp [h1]] at this
    exact ⟨_, rfl, this⟩
/-! ### is_friend_pair -/
abbrev sIfp : Stmt := topS 3
abbrev nIfp : List Str := ["thing", "who"]
abbrev pIfp : List Str := ["thing"]
theorem scIfp : FnScope nIfp pIfp (defScope sIfp) := ⟨rfl, rfl, rfl, by decide +kernel, rfl, by decide +kernel, by decide +kernel⟩
-- slots: 0:thing 1:who
theorem ok_ifpD {f : Addr} {fd : FuncData} (B : Blt mg) (CIn : Cal P w K mg base 1 "is_name" ["thing"] spIsNmD) (F : Fun K "is_friend_pair" "is_friend_pair" sIfp f fd) : FnOk P w K mg base CX0 2 f fd pIfp spIfpD := by
  refine fok F scIfp (fun vs H Q E h => ?_) (fun cdv A outer s H vs Q E hr h => ?_)
  · obtain ⟨v, bad, d, rfl, _⟩ := h
    rfl
  have hu := hu_of hr
  refine ⟨_, pss_cons (ps_if (PW.pt (pw_or (pt_not (pt_val (pe_callB call_isi (by rfl) B.isinstance (by decide +kernel) (pa_cons (pv 0) (pa_cons (pe_bltn (v := .ty "tuple") (by rfl) B.tuple (by decide +kernel) rfl) pa_nil))))) (pw_or1 (pt_cmpR op_ne (pe_callB call_len_seq (by rfl) B.len PySem.boot_len (pa_cons (pv 0) pa_nil)) pe_int (nomark _)))))
      (pss_one (ps_ret pe_bl))
      pss_nil)
    (pss_one (ps_ret (pe_and (pe_callB (cr_all rfl) (by rfl) B.all (by decide +kernel) (pa_cons (pe_lc (own := [("who", 1)]) (g := gName 1) (tt := tYes) (te := tCall spIsNmD [] E0 (tCons (tVar 1) tNil)) rfl scIfp.nd (pi_tup (pv 0)) (blkOk_by (N := nIfp) (sc := defScope sIfp) (by decide +kernel)) (fun _ _ _ _ _ => pg_name (i := 1) scIfp.nd rfl (Or.inl rfl)) (fun _ _ _ _ _ => pts_nil) (fun _ _ _ _ _ => pe_cal CIn hr (pa_cons (pv 1) pa_nil))) pa_nil)) (pe_one (pe_cmpR op_lt_str (pe_ix ix_tup (pv 0) pe_int (fun _ _ => rfl)) (pe_ix ix_tup (pv 0) pe_int (fun _ _ => rfl)) (nomark _)))))), ?_⟩
  obtain ⟨v, bad, d, rfl, tr, wt, q⟩ := h
  refine ⟨_, rfl, _, _, _, _, _, rfl, .ty _, tr.ty, isi_T d, _, rfl, ?_⟩
  cases d with
  | none => exact q _ (Same.refl _)
  | bool _ => exact q _ (Same.refl _)
  | int _ => exact q _ (Same.refl _)
  | str _ => exact q _ (Same.refl _)
  | list _ => exact q _ (Same.refl _)
  | dict _ => simp only [Tr] at tr
  | tuple ds =>
  simp only [Tr] at tr
  obtain ⟨t, xs, rfl, nt, ht, tx⟩ := tr
  have lx := tx.len
  refine ⟨_, rfl, t, _, rfl, .inr ht.sq, rfl, _, rfl, ite2 (fun c => ?_) (fun c => ?_)⟩
  · have n2 : ds.length ≠ 2 := fun z => by
      rw [lx, z] at c
      simp at c
    have := q _ (Same.refl _)
    rw [prD_len n2] at this
    exact this
  have l2 : ds.length = 2 := by
    have h : V.int ((xs.length : Nat) : Int) = V.int 2 := by simpa using c
    have := V.int.inj h
    omega
  obtain ⟨d0, d1, rfl⟩ : ∃ d0 d1, ds = [d0, d1] := by
    match ds, l2 with
    | [d0, d1], _ => exact ⟨d0, d1, rfl⟩
  have wt : PyData.weightAll [d0, d1] ≤ 10000 := by simpa only [PyData.weight] using wt
  refine ⟨_, rfl, t, rfl, ⟨_, ht.sq⟩, fun D hD => ?_⟩
  refine lc_vals (walk_tup (K := K) (xs := xs)) (fun i => .bl (nmB (([d0, d1] : List PyData).getD i .none))) (by rw [lx]; show 2 ≤ 1000; decide) hD (fun H' s => (ht.same s).sq) ?_ ?_
  · rintro j v H1 H1' kk hj s1 ⟨rfl, ex⟩ k1
    have hj' : j < ([d0, d1] : List PyData).length := by omega
    have ed := List.getElem?_eq_getElem hj'
    have t1 := (tx.at ed ex).same s1
    have e2 : ([d0, d1] : List PyData).getD j .none = [d0, d1][j] := by rw [List.getD_eq_getElem?_getD, ed]; rfl
    have w1 := weight_mem (List.mem_of_getElem? ed)
    rw [← e2] at t1 w1
    exact ⟨rfl, _, rfl, v, bad, _, rfl, t1, by omega, k1⟩
  intro H2 s2 e2
  have eb : (List.range xs.length).map (fun i => V.bl (nmB (([d0, d1] : List PyData).getD i .none))) = [nmB d0, nmB d1].map V.bl := by rw [lx]; rfl
  rw [eb] at e2
  refine ⟨D, _, rfl, .inl (.inl e2), _, rfl, ?_⟩
  have fin := q H2 s2
  rw [prD_two] at fin
  have ea : ([nmB d0, nmB d1] : List Bool).all id = (nmB d0 && nmB d1) := by simp
  rw [ea]
  cases e : nmB d0 && nmB d1 with
  | false =>
    rw [e, Bool.false_and] at fin
    exact iteF fin
  | true =>
    rw [e, Bool.true_and] at fin
    rw [Bool.and_eq_true] at e
    obtain ⟨r0, _⟩ := nm_str e.1
    obtain ⟨r1, _⟩ := nm_str e.2
    simp only [TrAll] at tx
    obtain ⟨x0, rr, rfl, tx0, x1, rr1, rfl, tx1, e0⟩ := tx
    subst e0
    rw [r0] at tx0
    rw [r1] at tx1
    simp only [Tr] at tx0 tx1
    subst tx0
    subst tx1
    have t2 := ht.same s2
    refine iteT ?_
    exact ⟨_, rfl, t, _, 0, _, rfl, rfl, t2.sq, atI_nat (j := 0) rfl, _, rfl, t, _, 1, _, rfl, rfl, t2.sq, atI_nat (j := 1) rfl, _, _, rfl, rfl, fin⟩
/-! ### is_friends -/
abbrev sIfr : Stmt := topS 4
abbrev nIfr : List Str := ["thing", "pair", "later"]
abbrev pIfr : List Str := ["thing"]
theorem scIfr : FnScope nIfr pIfr (defScope sIfr) := ⟨rfl, rfl, rfl, by decide +kernel, rfl, by decide +kernel, by decide +kernel⟩
-- slots: 0:thing 1:pair 2:later
theorem ok_ifrD {f : Addr} {fd : FuncData} (B : Blt mg) (CIfp : Cal P w K mg base 2 "is_friend_pair" ["thing"] spIfpD) (F : Fun K "is_friends" "is_friends" sIfr f fd) : FnOk P w K mg base CX0 3 f fd pIfr spIfrD := by
  refine fok F scIfr (fun vs H Q E h => ?_) (fun cdv A outer s H vs Q E hr h => ?_)
  · obtain ⟨v, bad, d, rfl, _⟩ := h
    rfl
  have hu := hu_of hr
  refine ⟨_, pss_cons (ps_if (PW.pt (pw_or (pt_not (pt_val (pe_callB call_isi (by rfl) B.isinstance (by decide +kernel) (pa_cons (pv 0) (pa_cons (pe_bltn (v := .ty "tuple") (by rfl) B.tuple (by decide +kernel) rfl) pa_nil))))) (pw_or1 (pt_not (pt_val (pe_callB (cr_all rfl) (by rfl) B.all (by decide +kernel) (pa_cons (pe_lc (own := [("pair", 1)]) (g := gName 1) (tt := tYes) (te := tCall spIfpD [] E0 (tCons (tVar 1) tNil)) rfl scIfr.nd (pi_tup (pv 0)) (blkOk_by (N := nIfr) (sc := defScope sIfr) (by decide +kernel)) (fun _ _ _ _ _ => pg_name (i := 1) scIfr.nd rfl (Or.inl rfl)) (fun _ _ _ _ _ => pts_nil) (fun _ _ _ _ _ => pe_cal CIfp hr (pa_cons (pv 1) pa_nil))) pa_nil)))))))
      (pss_one (ps_ret pe_bl))
      pss_nil)
    (pss_one (ps_ret (pe_callB (cr_all rfl) (by rfl) B.all (by decide +kernel) (pa_cons (pe_lc (own := [("pair", 1), ("later", 2)]) (g := gTup K 2 (gCons (gName 1) (gCons (gName 2) gNil))) (tt := tYes) (te := tOp (rLtTT K) (tVar 1) (tVar 2)) rfl scIfr.nd (RZ.pi_zipA (by rfl) B.zip (pa_cons (pv 0) (pa_cons (pe_slice sl_tupQ (pv 0) (po_some pe_int) po_none) pa_nil))) (blkOk_by (N := nIfr) (sc := defScope sIfr) (by decide +kernel)) (fun _ _ _ _ _ => pg_tup rfl (pgs_cons (pg_name (i := 1) scIfr.nd rfl (Or.inl rfl)) (pgs_cons (pg_name (i := 2) scIfr.nd rfl (Or.inl rfl)) pgs_nil))) (fun _ _ _ _ _ => pts_nil) (fun _ _ _ _ _ => pe_cmpR (op_ltTT hr.units) (pv 1) (pv 2) (nomark _))) pa_nil)))), ?_⟩
  obtain ⟨v, bad, d, rfl, tr, wt, hn, q⟩ := h
  refine ⟨_, rfl, _, _, _, _, _, rfl, .ty _, tr.ty, isi_T d, _, rfl, ?_⟩
  cases d with
  | none => exact q _ (Same.refl _)
  | bool _ => exact q _ (Same.refl _)
  | int _ => exact q _ (Same.refl _)
  | str _ => exact q _ (Same.refl _)
  | list _ => exact q _ (Same.refl _)
  | dict _ => simp only [Tr] at tr
  | tuple ds =>
  have hn : ds.length ≤ 900 := hn
  have q : ∀ H', Same H H' → Q (.bl (ds.all prD && riseB (ds.map twoD))) H' := q
  simp only [Tr] at tr
  obtain ⟨t, xs, rfl, nt, ht, tx⟩ := tr
  have lx := tx.len
  refine ⟨.ref t, rfl, t, rfl, ⟨_, ht.sq⟩, fun D hD => ?_⟩
  refine lc_vals (walk_tup (K := K) (xs := xs)) (fun i => .bl (prD (ds.getD i .none))) (by omega) hD (fun H' s => (ht.same s).sq) ?_ ?_
  · rintro j v H1 H1' kk hj s1 ⟨rfl, ex⟩ k1
    have hj' : j < ds.length := by omega
    have ed := List.getElem?_eq_getElem hj'
    have t1 := (tx.at ed ex).same s1
    have e2 : ds.getD j .none = ds[j] := by rw [List.getD_eq_getElem?_getD, ed]; rfl
    have w1 := weight_mem (List.mem_of_getElem? ed)
    have wt : PyData.weightAll ds ≤ 10000 := by simpa only [PyData.weight] using wt
    rw [← e2] at t1 w1
    exact ⟨rfl, _, rfl, v, bad, _, rfl, t1, by omega, k1⟩
  intro H2 s2 e2
  have eb : (List.range xs.length).map (fun i => V.bl (prD (ds.getD i .none))) = ((List.range ds.length).map fun i => prD (ds.getD i .none)).map V.bl := by rw [List.map_map, lx]; rfl
  rw [eb] at e2
  refine ⟨D, _, rfl, .inl (.inl e2), _, rfl, ?_⟩
  rw [range_map prD ds _ (fun i x e => by rw [List.getD_eq_getElem?_getD, e]; rfl)]
  cases ea : ds.all prD with
  | false =>
    have fin := q H2 s2
    rw [ea, Bool.false_and] at fin
    exact fin
  | true =>
    have good := List.all_eq_true.mp ea
    have t2 := ht.same s2
    obtain ⟨bs, exs, hb2, em⟩ := tr_prs good (tx.same s2)
    have lb : bs.length = ds.length := by have := congrArg List.length em; rw [List.length_map, List.length_map] at this; exact this
    subst exs
    refine ⟨.ref t, rfl, .ref t, rfl, _, rfl, t, _, rfl, t2.sq, fun t3 H3 s3 e3 => ?_⟩
    have e3' : SqT K H3 t3 ((bs.drop 1).map fun b => V.ref b.1) := by
      rw [cutV_map, show (1 : Int) = ((1 : Nat) : Int) from rfl, cutL_from] at e3
      exact e3
    have t3' := t2.same s3
    refine ⟨t, t3, _, _, rfl, .inr ⟨t3'.sq, e3', fun L hL => ?_⟩⟩
    refine lc_list (walk_zipT (K := K) (a := t) (b := t3) (xs := bs.map fun b => V.ref b.1) (ys := (bs.drop 1).map fun b => V.ref b.1) (n := bs.length - 1) (by rw [List.length_map, List.length_map, List.length_drop]; omega)) (bs.zip (bs.drop 1)) (fun z => .bl (pltB z.1.2 z.2.2)) (by rw [List.length_zip, List.length_drop]; omega) (by omega) hL (fun H' s => ⟨(t3'.same s).sq, sqT_same s e3'⟩) ?_ ?_
    · rintro i z v H4 H5 kk hz s4 ⟨T6, x1, x2, rfl, nT6, rfl, f1, f2⟩ hkk
      obtain ⟨z1, z2⟩ := List.getElem?_zip_eq_some.mp hz
      obtain ⟨c, hc, rfl⟩ := at_map f1
      obtain ⟨d, hd, rfl⟩ := at_map f2
      obtain rfl : c = z.1 := Option.some.inj (hc.symm.trans z1)
      obtain rfl : d = z.2 := Option.some.inj (hd.symm.trans z2)
      have m1 := List.mem_of_getElem? z1
      have m2 := List.mem_of_mem_drop (List.mem_of_getElem? z2)
      have sT6 := same_upd (o := .tup [.ref z.1.1, .ref z.2.1]) nT6
      have s34 := (s3.trans s4).trans sT6
      refine ⟨T6, _, rfl, .inl (.inl upd_same), rfl, _, _, rfl, _, _, rfl, rfl, rfl, ?_⟩
      refine ⟨_, rfl, _, rfl, z.1.1, z.2.1, z.1.2, z.2.2, rfl, rfl, ((hb2 _ m1).same s34).sq, ((hb2 _ m2).same s34).sq, ?_⟩
      exact hkk _ sT6
    intro H4 s4 e4
    rw [bools_map (fun z : (Addr × Str × Str) × (Addr × Str × Str) => pltB z.1.2 z.2.2)] at e4
    refine ⟨L, _, rfl, .inl (.inl e4), ?_⟩
    have fin := q H4 ((s2.trans s3).trans s4)
    rw [ea, Bool.true_and, ← em] at fin
    rw [rise_zipP]
    exact fin
/-! ### is_row of any thing -/
abbrev sIsRow : Stmt := topS 5
abbrev nIsRow : List Str := ["thing", "who"]
theorem scIsRow : FnScope nIsRow ["thing"] (defScope sIsRow) := ⟨rfl, rfl, rfl, by decide +kernel, rfl, by decide +kernel, by decide +kernel⟩
theorem ok_rowD {f : Addr} {fd : FuncData} (B : Blt mg) (CN : Cal P w K mg base 1 "is_name" ["thing"] spIsNmD) (F : Fun K "is_row" "is_row" sIsRow f fd) : FnOk P w K mg base CX0 2 f fd ["thing"] spRowD := by
  refine fok F scIsRow (fun vs H Q E h => ?_) (fun cdv A outer s H vs Q E hr h => ?_)
  · obtain ⟨v, bad, d, rfl, _⟩ := h
    rfl
  obtain ⟨v, bad, d, rfl, tr, wt, hn, q⟩ := h
  refine ⟨_, pss_cons (ps_if (PW.pt (pw_or (pt_not (pt_val (pe_callB call_isi (by rfl) B.isinstance (by decide +kernel) (pa_cons (pv 0) (pa_cons (pe_bltn (v := .ty "tuple") (by rfl) B.tuple (by decide +kernel) rfl) pa_nil))))) (pw_or1 (pt_not (pt_val (pe_callB (cr_all rfl) (by rfl) B.all (by decide +kernel) (pa_cons (pe_lc (own := [("who", 1)]) (g := gName 1) (tt := tYes) (te := tCall spIsNmD [] E0 (tCons (tVar 1) tNil)) rfl scIsRow.nd (pi_tup (pv 0)) (blkOk_by (N := nIsRow) (sc := defScope sIsRow) (by decide +kernel))
        (fun _ _ _ _ _ => pg_name (i := 1) scIsRow.nd rfl (Or.inl rfl)) (fun _ _ _ _ _ => pts_nil) (fun _ _ _ _ _ => pe_cal CN hr (pa_cons (pv 1) pa_nil))) pa_nil))))))) (pss_one (ps_ret pe_bl)) pss_nil)
    (pss_one (ps_ret (pe_cmpR op_eq (pe_lenStrsTQ rfl (by rfl) B.len (by rfl) B.set (pv 0)) (pe_callB call_len_seq (by rfl) B.len PySem.boot_len (pa_cons (pv 0) pa_nil)) (nomark _)))), ?_⟩
  refine ⟨_, rfl, _, _, _, _, _, rfl, .ty _, tr.ty, isi_T d, _, rfl, ?_⟩
  cases d with
  | tuple ds =>
    have hn : ds.length ≤ 90 := hn
    have q : ∀ H', Same H H' → Q (.bl (ds.all nmB && decide (ds.map strPD).Nodup)) H' := q
    simp only [Tr] at tr
    obtain ⟨t, xs, rfl, nt, ht, tx⟩ := tr
    have lx := tx.len
    refine ⟨.ref t, rfl, t, rfl, ⟨_, ht.sq⟩, fun D hD => ?_⟩
    refine lc_vals (walk_tup (K := K) (xs := xs)) (fun i => .bl (nmB (ds.getD i .none))) (by omega) hD (fun H' s => (ht.same s).sq) ?_ ?_
    · rintro j v H1 H1' kk hj s1 ⟨rfl, ex⟩ k1
      have hj' : j < ds.length := by omega
      have ed := List.getElem?_eq_getElem hj'
      have t1 := (tx.at ed ex).same s1
      have e2 : ds.getD j .none = ds[j] := by rw [List.getD_eq_getElem?_getD, ed]; rfl
      have w1 := weight_mem (List.mem_of_getElem? ed)
      have wt : PyData.weightAll ds ≤ 10000 := by simpa only [PyData.weight] using wt
      rw [← e2] at t1
      rw [← e2] at w1
      exact ⟨rfl, _, rfl, v, bad, _, rfl, t1, by omega, k1⟩
    intro H2 s2 e2
    have eb : (List.range xs.length).map (fun i => V.bl (nmB (ds.getD i .none))) = ((List.range ds.length).map fun i => nmB (ds.getD i .none)).map V.bl := by rw [List.map_map, lx]; rfl
    rw [eb] at e2
    refine ⟨D, _, rfl, .inl (.inl e2), _, rfl, ?_⟩
    rw [range_map nmB ds _ (fun i x e => by rw [List.getD_eq_getElem?_getD, e]; rfl)]
    have fin := q H2 s2
    have t2 := ht.same s2
    cases ea : ds.all nmB with
    | false =>
      rw [ea, Bool.false_and] at fin
      exact fin
    | true =>
      rw [ea, Bool.true_and] at fin
      have ns := nms_str ea
      have tx' := tx
      rw [ns.1] at tx'
      have exs := tx'.strs_eq
      subst exs
      refine ⟨.ref t, rfl, t, _, rfl, t2.sq, (by rw [List.length_map]; omega), fun us nu mu => ⟨.ref t, rfl, t, _, rfl, .inr t2.sq, rfl, ?_⟩⟩
      rw [List.length_map, set_len nu mu]
      exact fin
  | none => exact q _ (Same.refl _)
  | bool _ => exact q _ (Same.refl _)
  | int _ => exact q _ (Same.refl _)
  | str _ => exact q _ (Same.refl _)
  | list _ => exact q _ (Same.refl _)
  | dict _ => simp only [Tr] at tr
/-! ### _law_odd -/
abbrev sOdd : Stmt := topS 13
abbrev nOdd : List Str := ["_law_box_here", "_law_matter", "_law_some"]
abbrev pOdd : List Str := ["_law_box_here", "_law_matter"]
theorem scOdd : FnScope nOdd pOdd (defScope sOdd) := ⟨rfl, rfl, rfl, by decide +kernel, rfl, by decide +kernel, by decide +kernel⟩
-- slots: 0:box_here 1:matter 2:some
theorem ok_odd {f : Addr} {fd : FuncData} (B : Blt mg) (CT : Cal P w K mg base 1 "_law_take" ["_law_box_here", "_law_many"] spTake) (F : Fun K "_law_odd" "_law_odd" sOdd f fd) : FnOk P w K mg base CX0 2 f fd pOdd spOddO := by
  refine fok F scOdd (fun vs H Q E h => ?_) (fun cdv A outer s H vs Q E hr h => ?_)
  · obtain ⟨b, bad, d, v, m, w, rfl, _⟩ := h
    rfl
  have hu := hu_of hr
  refine ⟨_, pss_cons (ps_set (i := 2) scOdd.nd rfl (.inl rfl) (pe_lst (pa_cons pe_non (pa_cons pe_bl (pa_cons pe_bl (pa_cons pe_int (pa_cons pe_int (pa_cons (pe_un un_neg pe_int) (pa_cons pe_str (pa_cons pe_str (pa_cons pe_str (pa_cons pe_str (pa_cons pe_str (pa_cons (pe_tupF pa_nil) (pa_cons (pe_lst pa_nil) (pa_cons (pe_tupF (pa_cons pe_str pa_nil)) (pa_cons (pe_tupF (pa_cons pe_str (pa_cons pe_str pa_nil))) (pa_cons (pe_lst (pa_cons pe_str (pa_cons pe_str pa_nil))) pa_nil))))))))))))))))))
    (pss_cons (ps_mid <| ps_if (pt_val (pe_callB call_isi (by rfl) B.isinstance (by decide +kernel) (pa_cons (pv 1) (pa_cons (pe_bltn (v := .ty "str") (by rfl) B.str (by decide +kernel) rfl) pa_nil))))
      (pss_one (ps_set (i := 2) scOdd.nd rfl (.inl rfl) (pe_op op_cat (pv 2) (pe_lst (pa_cons (pe_op op_add_str (pv 1) pe_str) (pa_cons (pe_slice sl_str (pv 1) (po_some pe_int) po_none) (pa_cons (pe_bm0 PySem.F.plainAttrs_str PySem.F.slot_str_upper PySem.F.type_str_upper mt_upper (pv 1)) (pa_cons (pe_op op_add_str (pv 1) pe_str) (pa_cons (pe_tupF (pa_cons (pv 1) pa_nil)) pa_nil)))))))))
      pss_nil)
    (pss_cons (ps_mid <| ps_if (pt_val (pe_callB call_isiT (by rfl) B.isinstance (by decide +kernel) (pa_cons (pv 1) (pa_cons (pe_tup (pa_cons (pe_bltn (v := .ty "list") (by rfl) B.list (by decide +kernel) rfl) (pa_cons (pe_bltn (v := .ty "tuple") (by rfl) B.tuple (by decide +kernel) rfl) pa_nil))) pa_nil))))
      (pss_one (ps_set (i := 2) scOdd.nd rfl (.inl rfl) (pe_op op_cat (pv 2) (pe_lst (pa_cons (pe_callTy call_listN (by rfl) B.list (by decide +kernel) (pa_cons (pv 1) pa_nil)) (pa_cons (pe_mid (pe_callTy call_tupleF (by rfl) B.tuple (by decide +kernel) (pa_cons (pv 1) pa_nil))) (pa_cons (pe_mid (pe_op op_dblX (pv 1) (pv 1))) (pa_cons (pe_mid (pe_revX (pv 1))) (pa_cons (pe_mid (pe_slice sl_X (pv 1) (po_some pe_int) po_none)) (pa_cons (pe_mid (pe_slice sl_X (pv 1) po_none (po_some (pe_un un_neg pe_int)))) pa_nil))))))))))
      pss_nil)
    (pss_cons (ps_mid <| ps_if (pt_val (pe_callB call_isi (by rfl) B.isinstance (by decide +kernel) (pa_cons (pv 1) (pa_cons (pe_bltn (v := .ty "int") (by rfl) B.int (by decide +kernel) rfl) pa_nil))))
      (pss_one (ps_set (i := 2) scOdd.nd rfl (.inl rfl) (pe_op op_cat (pv 2) (pe_lst (pa_cons (pe_op op_addNum (pv 1) pe_int) (pa_cons (pe_op op_subNum (pv 1) pe_int) (pa_cons (pe_mid (pe_callTy call_strNum (by rfl) B.str (by decide +kernel) (pa_cons (pv 1) pa_nil))) (pa_cons (pe_cmpR (op_eqD hr.units) (pv 1) pe_int (nomark _)) pa_nil))))))))
      pss_nil)
    (pss_one (ps_ret (pe_ix ix_list (pv 2) (pe_cal CT hr (pa_cons (pv 0) (pa_cons (pe_callB call_len_seq (by rfl) B.len PySem.boot_len (pa_cons (pv 2) pa_nil)) pa_nil))) (fun _ _ => rfl))))))), ?_⟩
  obtain ⟨b, bad, d, v, m, w, rfl, hb, bb, old, tr, ok, wl, big, q⟩ := h
  -- what is always there
  refine ⟨1, rfl, (by show 0 ≤ sizeLine; decide), fun t0 H1 s1 n1 e1 => ?_⟩
  refine ⟨(by show 0 ≤ sizeLine; decide), fun l0 hl0 => ?_⟩
  have s2 := same_upd (o := .lst []) hl0
  have e2 : upd H1 l0 (.lst []) l0 = some (.lst []) := upd_same
  generalize upd H1 l0 (.lst []) = H2 at s2 e2 ⊢
  refine ⟨(by show 1 ≤ sizeLine; decide), fun t1 H3 s3 n3 e3 => ?_⟩
  refine ⟨(by show 2 ≤ sizeLine; decide), fun t2 H4 s4 n4 e4 => ?_⟩
  refine ⟨(by show 2 ≤ sizeLine; decide), fun l1 hl1 => ?_⟩
  have s5 := same_upd (o := .lst [.str "a", .str "b"]) hl1
  have e5 : upd H4 l1 (.lst [.str "a", .str "b"]) l1 = some (.lst [.str "a", .str "b"]) := upd_same
  generalize upd H4 l1 (.lst [.str "a", .str "b"]) = H5 at s5 e5 ⊢
  refine ⟨(by show 16 ≤ sizeLine; decide), fun L hL => ?_⟩
  have B1 := hb.same s1
  have B2 := B1.same s2
  have B3 := B2.same s3
  have B4 := B3.same s4
  have B5 := B4.same s5
  have f4 := s5
  have f3 := s4.trans f4
  have f2 := s3.trans f3
  have f1 := s2.trans f2
  have f0 := s1.trans f1
  have old' : ∀ {H' : Hp}, Same H H' → ∀ a, bad a → H' a ≠ none := fun s a ha => by
    obtain ⟨o, ho⟩ := Option.ne_none_iff_exists'.mp (old a ha)
    rw [s a o ho]
    exact nofun
  have TA : TrAll bad H5 [.none, .bool true, .bool false, .int 0, .int 1, .int (-1), .str "", .str "a", .str "abcdefghi", .str "A", .str "a b", .tuple [], .list [], .tuple [.str "a"], .tuple [.str "a", .str "a"], .list [.str "a", .str "b"]] [.non, .bl true, .bl false, .int 0, .int 1, .int (-1), .str "", .str "a", .str "abcdefghi", .str "A", .str "a b", .ref t0, .ref l0, .ref t1, .ref t2, .ref l1] := by
    have nt0 := old_new old n1
    have nl0 := old_new (old' s1) hl0
    have nt1 := old_new (old' (s1.trans s2)) n3
    have nt2 := old_new (old' ((s1.trans s2).trans s3)) n4
    have nl1 := old_new (old' (((s1.trans s2).trans s3).trans s4)) hl1
    exact .cons (by simp only [Tr]) (.cons (by simp only [Tr]) (.cons (by simp only [Tr]) (.cons (by simp only [Tr]) (.cons (by simp only [Tr]) (.cons (by simp only [Tr]) (.cons (tr_str _) (.cons (tr_str _) (.cons (tr_str _) (.cons (tr_str _) (.cons (tr_str _) (.cons (tr_tup nt0 (.inr (e1.same f1)) .nil) (.cons (tr_lst nl0 (f2 _ _ e2) .nil) (.cons (tr_tup nt1 (.inr (e3.same f3)) (TrAll.strs ["a"])) (.cons (tr_tup nt2 (.inr (e4.same f4)) (TrAll.strs ["a", "a"])) (.cons (tr_lst nl1 e5 (TrAll.strs ["a", "b"])) .nil)))))))))))))))
  have w60 : 60 ≤ 3 * w + 60 := by omega
  have TH : ∀ d' ∈ ([.none, .bool true, .bool false, .int 0, .int 1, .int (-1), .str "", .str "a", .str "abcdefghi", .str "A", .str "a b", .tuple [], .list [], .tuple [.str "a"], .tuple [.str "a", .str "a"], .list [.str "a", .str "b"]] : List PyData), OddOk m w d d' := fun d' hd => by
    obtain ⟨o1, o2, o3, o4⟩ := odd0_ok d' hd
    exact ⟨o1.mono (by omega) w60, by omega, by omega, .str "a", .str "b", fun c hc => by rcases o4 c hc with h | h <;> simp [h]⟩
  have lTA := TA.len
  generalize ([.none, .bool true, .bool false, .int 0, .int 1, .int (-1), .str "", .str "a", .str "abcdefghi", .str "A", .str "a b", .tuple [], .list [], .tuple [.str "a"], .tuple [.str "a", .str "a"], .list [.str "a", .str "b"]] : List PyData) = D0 at TA TH lTA
  have lD0 : D0.length = 16 := lTA.symm
  generalize ([.non, .bl true, .bl false, .int 0, .int 1, .int (-1), .str "", .str "a", .str "abcdefghi", .str "A", .str "a b", .ref t0, .ref l0, .ref t1, .ref t2, .ref l1] : List V) = X0 at TA lTA ⊢
  have s6 := same_upd (o := .lst X0) hL
  have e6 : upd H5 L (.lst X0) L = some (.lst X0) := upd_same
  have TA6 := TA.same s6
  have B6 := B5.same s6
  have nL := B5.ne_none hL
  have f6 := f0.trans s6
  generalize upd H5 L (.lst X0) = H6 at s6 e6 TA6 B6 f6 ⊢
  clear s1 s2 s3 s4 s5 f0 f1 f2 f3 f4 B1 B2 B3 B4 B5 e1 e2 e3 e4 e5 n1 hl0 n3 n4 hl1 TA hL s6
  -- a text
  refine ⟨fun σ' H' => ∃ (S : Addr) (D : List PyData) (X : List V), σ' = [some (.ref b), some v, some (.ref S)] ∧ Same H H' ∧ H' S = some (.lst X) ∧ TrAll bad H' D X ∧ (∀ d' ∈ D, OddOk m w d d') ∧ 16 ≤ D.length ∧ D.length ≤ 21 ∧ S ≠ b, ?_, ?_⟩
  · refine ⟨_, rfl, _, _, _, _, _, rfl, .ty _, (tr.same f6).ty, isi_S d, _, rfl, ite2 (fun c => ?_) (fun c => ?_)⟩
    rotate_left
    · exact ⟨L, D0, X0, rfl, f6, e6, TA6, TH, by omega, by omega, nL⟩
    obtain ⟨x, rfl⟩ := is_str c
    simp only [Tr] at tr
    subst tr
    have gx : Good x := show PyData.strOk x = true by have := ok.lay; simpa only [PyData.canLay0] using this
    have lx : x.length ≤ w := show x.cps.size ≤ w by have := ok.fit.wt; simpa only [PyData.weight] using this
    have ga : Good "a" := by show PyData.strOk _ = true; decide +kernel
    have gs : Good " " := by show PyData.strOk _ = true; decide +kernel
    have l1 : (Str.ofString "a").length = 1 := by decide +kernel
    have l2 : (Str.ofString " ").length = 1 := by decide +kernel
    have lc := cutS_length x (some 1) none
    have lu := PyProof.Rows.len_upper x
    have txt : ∀ y : Str, Good y → y.length ≤ 3 * w + 60 → OddOk m w (.str x) (.str y) := fun y g l => ⟨(okd_str g l).mono (Nat.zero_le _) (Nat.le_refl _), by simp only [widD]; omega, by simp only [bigD]; omega, .none, .none, fun _ h => nomatch h⟩
    have sz : ∀ n : Nat, n ≤ 300100 → n ≤ sizeLine := fun n h => Nat.le_trans h (by decide)
    refine ⟨_, rfl, _, rfl, x, _, rfl, rfl, sz _ (by omega), _, rfl, _, rfl, x, rfl, sz _ (by omega), _, rfl, rfl, x, rfl, rfl, by omega, _, rfl, x, _, rfl, rfl, sz _ (by omega), _, rfl, (by show 1 ≤ sizeLine; decide), fun t H7 s7 n7 e7 => ?_⟩
    refine ⟨(by show 5 ≤ sizeLine; decide), fun l hl => ?_⟩
    have s8 := same_upd (o := .lst [.str (x ++ "a"), .str (cutS x (some 1) none), .str (Txt.upper x), .str (x ++ " "), .ref t]) hl
    have e8 : upd H7 l (.lst [.str (x ++ "a"), .str (cutS x (some 1) none), .str (Txt.upper x), .str (x ++ " "), .ref t]) l = some (.lst [.str (x ++ "a"), .str (cutS x (some 1) none), .str (Txt.upper x), .str (x ++ " "), .ref t]) := upd_same
    generalize upd H7 l (.lst [.str (x ++ "a"), .str (cutS x (some 1) none), .str (Txt.upper x), .str (x ++ " "), .ref t]) = H8 at s8 e8 ⊢
    have lX0 := TA6.len
    refine ⟨L, l, _, _, rfl, rfl, s8 _ _ (s7 _ _ e6), e8, small_le (by show X0.length + 5 ≤ _; omega), fun L2 hL2 => ?_⟩
    have s9 := same_upd (o := .lst (X0 ++ [.str (x ++ "a"), .str (cutS x (some 1) none), .str (Txt.upper x), .str (x ++ " "), .ref t])) hL2
    have s69 := (s7.trans s8).trans s9
    have la : (x ++ "a").length = x.length + 1 := by show (x.cps ++ ("a" : Str).cps).size = _; rw [Array.size_append]; rfl
    have ls : (x ++ " ").length = x.length + 1 := by show (x.cps ++ (" " : Str).cps).size = _; rw [Array.size_append]; rfl
    refine ⟨L2, D0 ++ [.str (x ++ "a"), .str (cutS x (some 1) none), .str (Txt.upper x), .str (x ++ " "), .tuple [.str x]], _, rfl, f6.trans s69, upd_same, (TA6.same s69).app (.cons (tr_str _) (.cons (tr_str _) (.cons (tr_str _) (.cons (tr_str _) (.cons (tr_tup (old_new (old' f6) n7) (.inr ((e7.same s8).same s9)) (TrAll.strs [x])) .nil))))), fun d' hd => ?_, by rw [List.length_append]; omega, by rw [List.length_append]; show D0.length + 5 ≤ 21; omega, ((B6.same s7).same s8).ne_none hL2⟩
    rcases List.mem_append.mp hd with z | z
    · exact TH d' z
    simp only [List.mem_cons, List.not_mem_nil, or_false] at z
    rcases z with z | z | z | z | z <;> subst z
    · exact txt _ (app_good gx ga) (by omega)
    · exact txt _ (cut_good gx) (by omega)
    · exact txt _ (upper_good gx) (by omega)
    · exact txt _ (app_good gx gs) (by omega)
    · refine ⟨(okd_tuple (OkL.of (n := 0) (w := x.length) (w' := x.length + 1) (fun c hc => by rw [List.mem_singleton.mp hc]; exact okd_str gx (Nat.le_refl _)) ?_)).mono (by omega) (by omega), by simp [widD, widAll], by simp [bigD, bigAll], .str x, .str x, fun c hc => .inl (List.mem_singleton.mp (show c ∈ [PyData.str x] from hc))⟩
      simp only [PyData.weightAll, PyData.weight]
      exact Nat.le_refl _
  clear e6 TA6 B6 f6 TH lD0 lTA nL
  rintro σ' H10 ⟨S, D, X, rfl, f10, e10, T10, TH, lD16, lD21, nS⟩
  -- a list or a tuple
  refine ⟨fun σ' H' => ∃ (S : Addr) (D : List PyData) (X : List V), σ' = [some (.ref b), some v, some (.ref S)] ∧ Same H H' ∧ H' S = some (.lst X) ∧ TrAll bad H' D X ∧ (∀ d' ∈ D, OddOk m w d d') ∧ 16 ≤ D.length ∧ D.length ≤ 27 ∧ S ≠ b, ?_, ?_⟩
  · have tr10 := tr.same f10
    refine ⟨_, rfl, (by show 2 ≤ sizeLine; decide), fun tp htp => ?_⟩
    have s11 := same_upd (o := .tup [.ty "list", .ty "tuple"]) htp
    refine ⟨_, tp, _, _, _, _, rfl, upd_same, .cons (.ty _) (.cons (.ty _) .nil), (tr10.same s11).ty, isi_LT d, _, rfl, ?_⟩
    have e11 := s11 _ _ e10
    have T11 := T10.same s11
    have f11 := f10.trans s11
    have tr11 := tr10.same s11
    generalize upd H10 tp (.tup [.ty "list", .ty "tuple"]) = H11 at s11 e11 T11 f11 tr11 ⊢
    clear e10 T10 s11 htp tr10
    cases es : isL d || isT d with
    | false => exact ⟨S, D, X, rfl, f11, e11, T11, TH, by omega, by omega, nS⟩
    | true =>
    obtain ⟨ds, a, xs, ed, rfl, na, ha, tx⟩ := Tr.items es tr11
    obtain ⟨mm, rfl⟩ : ∃ mm, m = mm + 1 := by
      rcases ed with e | e <;> subst e
      · exact okd_deep (.inl ok)
      · exact okd_deep (.inr ok)
    have oks : OkL mm w ds := by
      rcases ed with e | e <;> subst e
      · exact okd_items (.inl ok)
      · exact okd_items (.inr ok)
    have it : itemsD d = ds := by rcases ed with e | e <;> rw [e] <;> rfl
    have lxs := tx.len
    have wds := oks.2
    have lds := weight_len ds
    have wlen := wid_len ed
    have fin : ∀ es : List PyData, (∀ c ∈ es, c ∈ ds) → PyData.weightAll es ≤ 2 * w → es.length ≤ 2 * ds.length → ∀ d', (d' = .list es ∨ d' = .tuple es) → OddOk (mm + 1) w d d' := fun es me we le d' e' => by
      have o : OkL mm (2 * w) es := OkL.of (fun c hc => oks.1 c (me c hc)) we
      have i' : itemsD d' = es := by rcases e' with e | e <;> rw [e] <;> rfl
      refine ⟨?_, wid_of e' (by omega) fun c hc => by have := wid_item ed (me c hc); omega, big_of e' fun c hc => by have := big_item ed (me c hc); omega, .none, .none, fun c hc => .inr (.inr ?_)⟩
      · rcases e' with e | e <;> rw [e]
        · exact (okd_list o).mono (by omega) (by omega)
        · exact (okd_tuple o).mono (by omega) (by omega)
      · rw [it]
        rw [i'] at hc
        exact me c hc
    have lL : ∀ n : Nat, n ≤ 300100 → n ≤ sizeLine := fun n h => Nat.le_trans h (by decide)
    have seq : ∀ {H' : Hp} {t : Addr} {ys : List V}, SqL K H' t ys → SqL K H' t ys ∨ SqT K H' t ys := fun h => .inl h
    -- list(..)
    refine ⟨_, rfl, _, rfl, a, xs, rfl, seq_sq ha, fun l1 hl1 => ?_⟩
    have s12 := same_upd (o := .lst xs) hl1
    have e12 : upd H11 l1 (.lst xs) l1 = some (.lst xs) := upd_same
    have T12 : Tr bad (upd H11 l1 (.lst xs)) (.list ds) (.ref l1) := tr_lst (old_new (old' f11) hl1) e12 (tx.same s12)
    have ha12 : upd H11 l1 (.lst xs) a = some (.lst xs) ∨ TupX (upd H11 l1 (.lst xs)) a xs := ha.imp (s12 _ _) fun h => h.same s12
    have f12 := f11.trans s12
    have tx12 := tx.same s12
    generalize upd H11 l1 (.lst xs) = H12 at s12 e12 T12 ha12 f12 tx12 ⊢
    -- tuple(..)
    refine ⟨fun v H' => Same H12 H' ∧ ∃ d', Tr bad H' d' v ∧ OddOk (mm + 1) w d d', ?_, ?_⟩
    · rcases ha12 with h | h
      · exact ⟨_, rfl, a, xs, rfl, .inl ⟨.inl (.inl h), fun t H' s n e => ⟨s, .tuple ds, tr_tup (old_new (old' f12) n) (.inr e) (tx12.same s), fin ds (fun _ h => h) (by omega) (by omega) _ (.inr rfl)⟩⟩⟩
      · exact ⟨_, rfl, a, xs, rfl, .inr ⟨h.sq, Same.refl _, .tuple ds, tr_tup na h tx12, fin ds (fun _ h => h) (by omega) (by omega) _ (.inr rfl)⟩⟩
    rintro v2 H13 ⟨s13, d2, T13, k13⟩
    have f13 := f12.trans s13
    have ha13 : H13 a = some (.lst xs) ∨ TupX H13 a xs := ha12.imp (s13 _ _) fun h => h.same s13
    have tx13 := tx12.same s13
    -- twice
    refine ⟨fun v H' => Same H13 H' ∧ ∃ d', Tr bad H' d' v ∧ OddOk (mm + 1) w d d', ?_, ?_⟩
    · have mem2 : ∀ c ∈ ds ++ ds, c ∈ ds := fun c hc => (List.mem_append.mp hc).elim id id
      have wg2 : PyData.weightAll (ds ++ ds) ≤ 2 * w := by rw [weight_app]; omega
      have lg2 : (ds ++ ds).length ≤ 2 * ds.length := by rw [List.length_append]; omega
      rcases ha13 with h | h
      · refine ⟨_, rfl, _, rfl, a, xs, rfl, rfl, lL _ (by omega), .inl ⟨h, fun p hp => ?_⟩⟩
        have s := same_upd (o := .lst (xs ++ xs)) hp
        exact ⟨s, .list (ds ++ ds), tr_lst (old_new (old' f13) hp) upd_same ((tx13.same s).app (tx13.same s)), fin _ mem2 wg2 lg2 _ (.inl rfl)⟩
      · refine ⟨_, rfl, _, rfl, a, xs, rfl, rfl, lL _ (by omega), .inr ⟨h, fun t H' s e n => ?_⟩⟩
        exact ⟨s, .tuple (ds ++ ds), tr_tup (n.elim (fun z => z ▸ na) fun n => old_new (old' f13) n) e ((tx13.same s).app (tx13.same s)), fin _ mem2 wg2 lg2 _ (.inr rfl)⟩
    rintro v3 H14 ⟨s14, d3, T14, k14⟩
    have f14 := f13.trans s14
    have ha14 : H14 a = some (.lst xs) ∨ TupX H14 a xs := ha13.imp (s14 _ _) fun h => h.same s14
    have tx14 := tx13.same s14
    -- turned round
    refine ⟨fun v H' => Same H14 H' ∧ ∃ d', Tr bad H' d' v ∧ OddOk (mm + 1) w d d', ?_, ?_⟩
    · have memr : ∀ c ∈ ds.reverse, c ∈ ds := fun c hc => List.mem_reverse.mp hc
      have wgr : PyData.weightAll ds.reverse ≤ 2 * w := by rw [weight_rev]; omega
      have lgr : ds.reverse.length ≤ 2 * ds.length := by rw [List.length_reverse]; omega
      rcases ha14 with h | h
      · refine ⟨_, rfl, a, xs, rfl, .inl ⟨.inl (.inl h), fun p hp => ?_⟩⟩
        have s := same_upd (o := .lst xs.reverse) hp
        exact ⟨s, .list ds.reverse, tr_lst (old_new (old' f14) hp) upd_same (tx14.same s).rev, fin _ memr wgr lgr _ (.inl rfl)⟩
      · refine ⟨_, rfl, a, xs, rfl, .inr ⟨h.sq, fun p H' s n e => ?_⟩⟩
        exact ⟨s, .tuple ds.reverse, tr_tup (old_new (old' f14) n) (.inr e) (tx14.same s).rev, fin _ memr wgr lgr _ (.inr rfl)⟩
    rintro v4 H15 ⟨s15, d4, T15, k15⟩
    have f15 := f14.trans s15
    have ha15 : H15 a = some (.lst xs) ∨ TupX H15 a xs := ha14.imp (s15 _ _) fun h => h.same s15
    have tx15 := tx14.same s15
    -- without the first
    refine ⟨fun v H' => Same H15 H' ∧ ∃ d', Tr bad H' d' v ∧ OddOk (mm + 1) w d d', ?_, ?_⟩
    · have memc : ∀ c ∈ ds.drop 1, c ∈ ds := fun c hc => List.mem_of_mem_drop hc
      have wgc : PyData.weightAll (ds.drop 1) ≤ 2 * w := by have := weight_cut ds 1; omega
      have lgc : (ds.drop 1).length ≤ 2 * ds.length := by rw [List.length_drop]; omega
      have ec : cutV xs (some 1) none = xs.drop 1 := cutL_from xs 1
      rcases ha15 with h | h
      · refine ⟨_, rfl, _, rfl, a, xs, rfl, .inl ⟨h, fun p hp => ?_⟩⟩
        rw [ec]
        have s := same_upd (o := .lst (xs.drop 1)) hp
        exact ⟨s, .list (ds.drop 1), tr_lst (old_new (old' f15) hp) upd_same ((tx15.same s).drop 1), fin _ memc wgc lgc _ (.inl rfl)⟩
      · refine ⟨_, rfl, _, rfl, a, xs, rfl, .inr ⟨h, fun t H' s e n => ?_⟩⟩
        rw [ec] at e
        exact ⟨s, .tuple (ds.drop 1), tr_tup (n.elim (fun z => z ▸ na) fun n => old_new (old' f15) n) e ((tx15.same s).drop 1), fin _ memc wgc lgc _ (.inr rfl)⟩
    rintro v5 H16 ⟨s16, d5, T16, k16⟩
    have f16 := f15.trans s16
    have ha16 : H16 a = some (.lst xs) ∨ TupX H16 a xs := ha15.imp (s16 _ _) fun h => h.same s16
    have tx16 := tx15.same s16
    -- without the last
    refine ⟨fun v H' => Same H16 H' ∧ ∃ d', Tr bad H' d' v ∧ OddOk (mm + 1) w d d', ?_, ?_⟩
    · have memc : ∀ c ∈ ds.take (ds.length - 1), c ∈ ds := fun c hc => List.mem_of_mem_take hc
      have wgc : PyData.weightAll (ds.take (ds.length - 1)) ≤ 2 * w := by have := weight_cut ds (ds.length - 1); omega
      have lgc : (ds.take (ds.length - 1)).length ≤ 2 * ds.length := by rw [List.length_take]; omega
      have ec : cutV xs none (some (-1)) = xs.take (ds.length - 1) := by
        show cutL xs none (some (-1)) = _
        rw [cutL_butX, List.dropLast_eq_take, lxs]
      rcases ha16 with h | h
      · refine ⟨_, rfl, 1, rfl, _, rfl, a, xs, rfl, .inl ⟨h, fun p hp => ?_⟩⟩
        rw [ec]
        have s := same_upd (o := .lst (xs.take (ds.length - 1))) hp
        exact ⟨s, .list (ds.take (ds.length - 1)), tr_lst (old_new (old' f16) hp) upd_same ((tx16.same s).take _), fin _ memc wgc lgc _ (.inl rfl)⟩
      · refine ⟨_, rfl, 1, rfl, _, rfl, a, xs, rfl, .inr ⟨h, fun t H' s e n => ?_⟩⟩
        rw [ec] at e
        exact ⟨s, .tuple (ds.take (ds.length - 1)), tr_tup (n.elim (fun z => z ▸ na) fun n => old_new (old' f16) n) e ((tx16.same s).take _), fin _ memc wgc lgc _ (.inr rfl)⟩
    rintro v6 H17 ⟨s17, d6, T17, k17⟩
    have f17 := f16.trans s17
    refine ⟨(by show 6 ≤ sizeLine; decide), fun l hl => ?_⟩
    have s18 := same_upd (o := .lst [.ref l1, v2, v3, v4, v5, v6]) hl
    have e18 : upd H17 l (.lst [.ref l1, v2, v3, v4, v5, v6]) l = some (.lst [.ref l1, v2, v3, v4, v5, v6]) := upd_same
    generalize upd H17 l (.lst [.ref l1, v2, v3, v4, v5, v6]) = H18 at s18 e18 ⊢
    have g17 := s18
    have g16 := s17.trans g17
    have g15 := s16.trans g16
    have g14 := s15.trans g15
    have g13 := s14.trans g14
    have g12 := s13.trans g13
    have g11 := s12.trans g12
    have lX := T11.len
    refine ⟨S, l, _, _, rfl, rfl, g11 _ _ e11, e18, small_le (by show X.length + 6 ≤ _; omega), fun L2 hL2 => ?_⟩
    have s19 := same_upd (o := .lst (X ++ [.ref l1, v2, v3, v4, v5, v6])) hL2
    refine ⟨L2, D ++ [.list ds, d2, d3, d4, d5, d6], _, rfl, (f11.trans g11).trans s19, upd_same, ((T11.same g11).app (.cons (T12.same g12) (.cons (T13.same g13) (.cons (T14.same g14) (.cons (T15.same g15) (.cons (T16.same g16) (.cons (T17.same g17) .nil))))))).same s19, fun d' hd => ?_, by rw [List.length_append]; omega, by rw [List.length_append]; show D.length + 6 ≤ 27; omega, (hb.same (f11.trans g11)).ne_none hL2⟩
    rcases List.mem_append.mp hd with z | z
    · exact TH d' z
    simp only [List.mem_cons, List.not_mem_nil, or_false] at z
    rcases z with z | z | z | z | z | z <;> subst z
    · exact fin ds (fun _ h => h) (by omega) (by omega) _ (.inl rfl)
    · exact k13
    · exact k14
    · exact k15
    · exact k16
    · exact k17
  rintro σ' H20 ⟨S, D, X, rfl, f20, e20, T20, TH, lD16, lD27, nS⟩
  -- a number
  refine ⟨fun σ' H' => ∃ (S : Addr) (D : List PyData) (X : List V), σ' = [some (.ref b), some v, some (.ref S)] ∧ Same H H' ∧ H' S = some (.lst X) ∧ TrAll bad H' D X ∧ (∀ d' ∈ D, OddOk m w d d') ∧ 16 ≤ D.length ∧ D.length ≤ 31 ∧ S ≠ b, ?_, ?_⟩
  · have tr20 := tr.same f20
    refine ⟨_, rfl, _, _, _, _, _, rfl, .ty _, tr20.ty, isi_I d, _, rfl, ite2 (fun c => ?_) (fun c => ?_)⟩
    rotate_left
    · exact ⟨S, D, X, rfl, f20, e20, T20, TH, by omega, by omega, nS⟩
    obtain ⟨k, hk, kp1, kp2, shd, strv⟩ : ∃ k : Int, numV v = some k ∧ (k + 1).natAbs ≤ bigD d + 2 ∧ (k - 1).natAbs ≤ bigD d + 2 ∧ SeqAt.shaped d = true ∧ ((∃ i : Int, v = .int i ∧ i.natAbs ≤ 50) ∨ ∃ c : Bool, v = .bl c) := by
      cases d with
      | int i =>
        simp only [Tr] at tr
        subst tr
        have hi : i.natAbs ≤ 40 := big
        exact ⟨i, rfl, by simp only [bigD]; omega, by simp only [bigD]; omega, shaped_of (n := 0) (w := 40) (okd_int (Nat.lt_of_le_of_lt hi (by decide)) (Nat.le_refl _)) (Nat.zero_le _), .inl ⟨i, rfl, by omega⟩⟩
      | bool c' =>
        simp only [Tr] at tr
        subst tr
        exact ⟨b2i c', rfl, by cases c' <;> decide, by cases c' <;> decide, shaped_of (n := 0) (w := 40) (okd_bool _) (Nat.zero_le _), .inr ⟨c', rfl⟩⟩
      | _ => cases c
    refine ⟨_, rfl, _, rfl, k, 1, hk, rfl, _, rfl, k, 1, hk, rfl, fun v' H' => H' = H20 ∧ ∃ z : Str, v' = .str z ∧ Good z ∧ z.length ≤ 8, ?_, ?_⟩
    · rcases strv with ⟨i, rfl, hi⟩ | ⟨c', rfl⟩
      · obtain ⟨g1, g2⟩ := int_good i hi
        exact ⟨_, rfl, _, rfl, .inl ⟨i, rfl, Nat.lt_of_le_of_lt (Nat.log2_le_self _) (by omega), rfl, _, rfl, g1, g2⟩⟩
      · refine ⟨_, rfl, _, rfl, .inr ⟨c', rfl, rfl, _, rfl, ?_, ?_⟩⟩
        · cases c' <;> (show PyData.strOk _ = true; decide +kernel)
        · cases c' <;> decide +kernel
    rintro v' H' ⟨rfl, z, rfl, gz, lz⟩
    refine ⟨_, rfl, d, .int 1, tr20.dp, .int 1, shd, shaped_of (n := 0) (w := 40) (okd_int (by decide) (Nat.le_refl _)) (Nat.zero_le _), ?_⟩
    generalize PyData.eqv d (.int 1) = eb
    refine ⟨(by show 4 ≤ sizeLine; decide), fun l hl => ?_⟩
    have s21 := same_upd (o := .lst [.int (k + 1), .int (k - 1), .str z, .bl eb]) hl
    have e21 : upd H' l (.lst [.int (k + 1), .int (k - 1), .str z, .bl eb]) l = some (.lst [.int (k + 1), .int (k - 1), .str z, .bl eb]) := upd_same
    generalize upd H' l (.lst [.int (k + 1), .int (k - 1), .str z, .bl eb]) = H21 at s21 e21 ⊢
    have lX := T20.len
    refine ⟨S, l, _, _, rfl, rfl, s21 _ _ e20, e21, small_le (by show X.length + 4 ≤ _; omega), fun L2 hL2 => ?_⟩
    have s22 := same_upd (o := .lst (X ++ [.int (k + 1), .int (k - 1), .str z, .bl eb])) hL2
    have s2022 := s21.trans s22
    have nm : ∀ j : Int, j.natAbs ≤ bigD d + 2 → OddOk m w d (.int j) := fun j hj => ⟨(okd_int (n := 0) (w := 60) (Nat.lt_of_le_of_lt (show j.natAbs ≤ 42 by omega) (by decide)) (by decide)).mono (Nat.zero_le _) (by omega), by simp only [widD]; omega, hj, .none, .none, fun _ h => nomatch h⟩
    refine ⟨L2, D ++ [.int (k + 1), .int (k - 1), .str z, .bool eb], _, rfl, f20.trans s2022, upd_same, (T20.same s2022).app (.cons (by simp only [Tr]) (.cons (by simp only [Tr]) (.cons (tr_str _) (.cons (by simp only [Tr]) .nil)))), fun d' hd => ?_, by rw [List.length_append]; omega, by rw [List.length_append]; show D.length + 4 ≤ 31; omega, (hb.same (f20.trans s21)).ne_none hL2⟩
    rcases List.mem_append.mp hd with y | y
    · exact TH d' y
    simp only [List.mem_cons, List.not_mem_nil, or_false] at y
    rcases y with y | y | y | y <;> subst y
    · exact nm _ kp1
    · exact nm _ kp2
    · exact ⟨(okd_str (n := 0) (w := 60) gz (by omega)).mono (Nat.zero_le _) (by omega), by simp only [widD]; omega, by simp only [bigD]; omega, .none, .none, fun _ h => nomatch h⟩
    · exact ⟨okd_bool _, by simp only [widD]; omega, by simp only [bigD]; omega, .none, .none, fun _ h => nomatch h⟩
  rintro σ' H30 ⟨S, D, X, rfl, f30, e30, T30, TH, lD16, lD31, nS⟩
  have B30 := hb.same f30
  have lX := T30.len
  refine ⟨_, rfl, _, rfl, _, rfl, S, _, rfl, .inl (.inl (.inl e30)), b, _, rfl, B30, by omega, by omega, fun vi H31 o31 b31 v0 v1 => ?_⟩
  obtain ⟨k, rfl⟩ := Int.eq_ofNat_of_zero_le v0
  obtain ⟨e, x, he, hx, tx⟩ := T30.get (i := k) (by omega)
  refine ⟨S, _, _, _, rfl, rfl, .inl (.inl (o31 _ _ nS e30)), atI_nat hx, ?_⟩
  exact q e x H31 ((Oth.of f30).trans o31) b31 (tx.oth o31 bb) (TH e (List.mem_of_getElem? he))
/-! ### _law_bent -/
abbrev sBent20 : Stmt := topS 14
abbrev nBentO : List Str := ["_law_box_here", "_law_matter", "_law_spot", "_law_way", "_law_some", "_law_there"]
abbrev pBentO : List Str := ["_law_box_here", "_law_matter"]
theorem scBentO : FnScope nBentO pBentO (defScope sBent20) := ⟨rfl, rfl, rfl, by decide +kernel, rfl, by decide +kernel, by decide +kernel⟩
-- slots: 0:box_here 1:matter 2:spot 3:way 4:some 5:there
theorem ok_bentOStep {f : Addr} {fd : FuncData} {n : Nat} (B : Blt mg) (CB : Cal P w K mg base (n + 2) "_law_bent" ["_law_box_here", "_law_matter"] (spBentO n)) (COdd : Cal P w K mg base 2 "_law_odd" ["_law_box_here", "_law_matter"] spOddO) (CT : Cal P w K mg base 1 "_law_take" ["_law_box_here", "_law_many"] spTake) (F : Fun K "_law_bent" "_law_bent" sBent20 f fd) : FnOk P w K mg base CX0 (n + 3) f fd pBentO (spBentO (n + 1)) := by
  refine fok F scBentO (fun vs H Q E h => ?_) (fun cdv A outer s H vs Q E hr h => ?_)
  · obtain ⟨b, bad, d, v, m, w, rfl, _⟩ := h
    rfl
  have hu := hu_of hr
  refine ⟨_, pss_cons (ps_if (pt_mid <| PW.pt (pw_or (pt_not (pt_val (pe_callB call_isiT (by rfl) B.isinstance (by decide +kernel) (pa_cons (pv 1) (pa_cons (pe_tup (pa_cons (pe_bltn (v := .ty "list") (by rfl) B.list (by decide +kernel) rfl) (pa_cons (pe_bltn (v := .ty "tuple") (by rfl) B.tuple (by decide +kernel) rfl) pa_nil))) pa_nil))))) (pw_or (pt_cmpR op_eq (pe_callB call_len_seq (by rfl) B.len PySem.boot_len (pa_cons (pv 1) pa_nil)) pe_int (nomark _)) (pw_or1 (pt_cmpR op_eq (pe_cal CT hr (pa_cons (pv 0) (pa_cons pe_int pa_nil))) pe_int (nomark _))))))
      (pss_one (ps_ret (pe_cal COdd hr (pa_cons (pv 0) (pa_cons (pv 1) pa_nil)))))
      pss_nil)
    (pss_cons (ps_par3 (i := 2) (j := 3) (l := 4) (by rfl) scBentO.nd rfl rfl rfl (by decide) (by decide) (by decide) rfl rfl rfl (pa_cons (pe_cal CT hr (pa_cons (pv 0) (pa_cons (pe_callB call_len_seq (by rfl) B.len PySem.boot_len (pa_cons (pv 1) pa_nil)) pa_nil))) (pa_cons (pe_cal CT hr (pa_cons (pv 0) (pa_cons pe_int pa_nil))) (pa_cons (pe_callTy call_listN (by rfl) B.list (by decide +kernel) (pa_cons (pv 1) pa_nil)) pa_nil))) (by rfl))
    (pss_cons (ps_mid <| ps_if (pt_cmpR op_lt (pv 3) pe_int (nomark _))
      (pss_one (ps_asg (pe_cal CB hr (pa_cons (pv 0) (pa_cons (pe_ix ix_list (pv 4) (pv 2) (fun _ _ => rfl)) pa_nil))) (pg_sub (pv 4) (pv 2) set_list)))
      (pss_one (ps_if (pt_cmpR op_eq (pv 3) pe_int (nomark _))
          (pss_one (ps_expr (pe_bm PySem.F.plainAttrs_list PySem.F.slot_list_pop PySem.F.type_list_pop mt_popAt (pv 4) (pa_cons (pv 2) pa_nil))))
          (pss_one (ps_if (pt_cmpR op_eq (pv 3) pe_int (nomark _))
              (pss_one (ps_expr (pe_bm PySem.F.plainAttrs_list PySem.F.slot_list_insert PySem.F.type_list_insert mt_insert (pv 4) (pa_cons (pe_cal CT hr (pa_cons (pv 0) (pa_cons (pe_callB call_len_seq (by rfl) B.len PySem.boot_len (pa_cons (pv 4) pa_nil)) pa_nil))) (pa_cons (pe_ix ix_list (pv 4) (pv 2) (fun _ _ => rfl)) pa_nil)))))
              (pss_one (ps_if (pt_cmpR op_eq (pv 3) pe_int (nomark _))
                  (pss_cons (ps_set (i := 5) scBentO.nd rfl (.inl rfl) (pe_cal CT hr (pa_cons (pv 0) (pa_cons (pe_callB call_len_seq (by rfl) B.len PySem.boot_len (pa_cons (pv 4) pa_nil)) pa_nil))))
                    (pss_one (ps_asg (pe_tup (pa_cons (pe_ix ix_list (pv 4) (pv 5) (fun _ _ => rfl)) (pa_cons (pe_ix ix_list (pv 4) (pv 2) (fun _ _ => rfl)) pa_nil))) (pg_tup rfl (pgs_cons (pg_sub (pv 4) (pv 2) set_list) (pgs_cons (pg_sub (pv 4) (pv 5) set_list) pgs_nil))))))
                  (pss_one (ps_ret (pe_ifExp (pt_val (pe_callB call_isi (by rfl) B.isinstance (by decide +kernel) (pa_cons (pv 1) (pa_cons (pe_bltn (v := .ty "list") (by rfl) B.list (by decide +kernel) rfl) pa_nil)))) (pe_callTy call_tupleF (by rfl) B.tuple (by decide +kernel) (pa_cons (pv 4) pa_nil)) (pv 4)))))))))))
    (pss_one (ps_ret (pe_ifExp (pt_val (pe_callB call_isi (by rfl) B.isinstance (by decide +kernel) (pa_cons (pv 1) (pa_cons (pe_bltn (v := .ty "list") (by rfl) B.list (by decide +kernel) rfl) pa_nil)))) (pv 4) (pe_callTy call_tupleF (by rfl) B.tuple (by decide +kernel) (pa_cons (pv 4) pa_nil))))))), ?_⟩
  obtain ⟨b, bad, d, v, m, w, rfl, hb, bb, old, tr, dn, ok, wl, big, q⟩ := h
  refine ⟨fun c H' => Oth b H H' ∧ IsBox H' b ∧ (c = false → (isL d || isT d) = true ∧ ∀ ds, (d = .list ds ∨ d = .tuple ds) → 0 < ds.length), ?_, ?_⟩
  · refine ⟨_, rfl, (by show 2 ≤ sizeLine; decide), fun tp htp => ?_⟩
    have s2 := same_upd (o := .tup [.ty "list", .ty "tuple"]) htp
    have tr2 := tr.same s2
    refine ⟨_, tp, _, _, _, _, rfl, upd_same, .cons (.ty _) (.cons (.ty _) .nil), tr2.ty, isi_LT d, _, rfl, ?_⟩
    cases es : isL d || isT d with
    | false => exact ⟨Oth.of s2, hb.same s2, fun z => by cases z⟩
    | true =>
      obtain ⟨ds, a, xs, ed, rfl, na, ha, tx⟩ := Tr.items es tr2
      refine ⟨_, rfl, a, xs, rfl, seq_sq ha, rfl, _, rfl, ite2 (fun c => ⟨Oth.of s2, hb.same s2, fun z => by cases z⟩) (fun c => ?_)⟩
      refine ⟨_, rfl, b, _, rfl, hb.same s2, by decide, by decide, fun v1 H3 o3 b3 v10 v11 => ?_⟩
      refine ⟨rfl, _, rfl, (Oth.of s2).trans o3, b3, fun _ => ⟨rfl, fun ds' e' => ?_⟩⟩
      have : ds' = ds := by
        rcases ed with e | e <;> rcases e' with e2 | e2 <;> rw [e] at e2 <;> cases e2 <;> rfl
      rw [this, ← tx.len]
      exact Nat.pos_of_ne_zero fun z => c (decide_eq_true (by rw [z]; rfl))
  rintro c H2 ⟨o2, b2, hc⟩
  have tr2 := tr.oth o2 bb
  have old2 := old_oth old o2 b2
  cases c with
  | true => exact ⟨_, rfl, _, rfl, b, bad, d, v, m, w, rfl, b2, bb, old2, tr2, ok, wl, big, fun d' v' H' o b' t k => q d' v' H' (o2.trans o) b' t k⟩
  | false =>
    obtain ⟨es, ne⟩ := hc rfl
    obtain ⟨ds, a, xs, ed, rfl, na, ha, tx⟩ := Tr.items es tr2
    have lds := ne ds ed
    obtain ⟨mm, rfl⟩ : ∃ mm, m = mm + 1 := by
      rcases ed with e | e <;> subst e
      · exact okd_deep (.inl ok)
      · exact okd_deep (.inr ok)
    have oks : OkL mm w ds := by
      rcases ed with e | e <;> subst e
      · exact okd_items (.inl ok)
      · exact okd_items (.inr ok)
    have it : itemsD d = ds := by rcases ed with e | e <;> rw [e] <;> rfl
    have lxs := tx.len
    have wlD := wid_len ed
    have ow := oks.2
    have wl9 : ds.length ≤ 100000 := Nat.le_trans (weight_len ds) (Nat.le_trans oks.2 wl)
    have sl9 : (100000 : Nat) < 1073741824 := by decide
    have fit : ∀ n : Nat, n ≤ 200100 → n < sizeLine := fun n h => Nat.lt_of_le_of_lt h (by decide)
    have keepa : ∀ {H' H'' : Hp}, Oth b H' H'' → (H' a = some (.lst xs) ∨ TupX H' a xs) → H'' a = some (.lst xs) ∨ TupX H'' a xs := fun o h => h.imp (o _ _ (fun z => na (z ▸ bb))) fun h => h.keep fun u => o _ u (fun z => na (z ▸ bb))
    refine ⟨_, rfl, _, rfl, a, xs, rfl, seq_sq ha, b, _, rfl, b2, by omega, by omega, fun vs3 H3 o3 b3 v0 v1 => ?_⟩
    refine ⟨_, rfl, b, _, rfl, b3, by decide, by decide, fun way H4' o4' b4' w0 w1 => ?_⟩
    have ha4 := keepa o4' (keepa o3 ha)
    refine ⟨_, rfl, a, xs, rfl, seq_sq ha4, fun s hs => ⟨_, _, _, rfl, ?_⟩⟩
    obtain ⟨k, rfl⟩ := Int.eq_ofNat_of_zero_le v0
    have hk : k < ds.length := by omega
    have o24 := o3.trans o4'
    have old4' := old_oth old2 o24 b4'
    have s3 := same_upd (o := .lst xs) hs
    have es4 : upd H4' s (.lst xs) s = some (.lst xs) := upd_same
    have nsb : s ≠ b := b4'.ne_none hs
    have nbs : ¬ bad s := old_new old4' hs
    have tx4 : TrAll (fun z => bad z ∨ z = s) (upd H4' s (.lst xs)) ds xs := (TrAll.put hs (tx.oth o24 bb)).same s3
    have tr4 : Tr (fun z => bad z ∨ z = s) (upd H4' s (.lst xs)) d (.ref a) := (Tr.put hs (tr2.oth o24 bb)).same s3
    have b4 := b4'.same s3
    have o04 := (o2.trans o24).trans (Oth.of s3)
    have old4 : ∀ z, (bad z ∨ z = s) → upd H4' s (.lst xs) z ≠ none := fun z h => h.elim (old_oth old o04 b4 z) fun e => by rw [e, es4]; exact nofun
    have nsH : H s = none := (o2.trans o24).free nsb hs
    generalize upd H4' s (.lst xs) = H4 at s3 es4 tx4 tr4 b4 o04 old4 ⊢
    obtain ⟨e, x, he, hx, te⟩ := tx4.get hk
    have me := List.mem_of_getElem? he
    have wm := weight_mem me
    have low : ∀ {H' : Hp} {es' : List PyData} {xs' : List V}, TrAll (fun z => bad z ∨ z = s) H' es' xs' → TrAll bad H' es' xs' := fun h => TrAll.mono (fun _ h => .inl h) h
    have fine : ∀ (c1 : PyData) (ds' : List PyData), (∀ c ∈ ds', c = c1 ∨ c ∈ ds) → (Okd (mm + 1) (3 * w + 60) c1 ∧ widD c1 ≤ 2 * widD d + 2 ∧ bigD c1 ≤ bigD d + 2) → PyData.weightAll ds' ≤ 3 * w + 60 → ds'.length ≤ 2 * ds.length + 2 → ∀ d', (d' = .list ds' ∨ d' = .tuple ds') → OddOk (mm + 1) w d d' := fun c1 ds' mem h1 we le d' e' => by
      have i' : itemsD d' = ds' := by rcases e' with e | e <;> rw [e] <;> rfl
      have o : OkL (mm + 1) (3 * w + 60) ds' := ⟨fun c hc => by
        rcases mem c hc with z | z
        · rw [z]; exact h1.1
        · exact (oks.1 c z).mono (by omega) (by omega), we⟩
      refine ⟨?_, wid_of e' (by omega) fun c hc => ?_, big_of e' fun c hc => ?_, c1, c1, fun c hc => ?_⟩
      · rcases e' with e | e <;> rw [e]
        · exact okd_list o
        · exact okd_tuple o
      · rcases mem c hc with z | z
        · rw [z]; exact h1.2.1
        · have := wid_item ed z; omega
      · rcases mem c hc with z | z
        · rw [z]; exact h1.2.2
        · have := big_item ed z; omega
      · rw [i'] at hc
        rw [it]
        rcases mem c hc with z | z
        · exact .inl z
        · exact .inr (.inr z)
    have own : ∀ {c : PyData}, c ∈ ds → Okd (mm + 1) (3 * w + 60) c ∧ widD c ≤ 2 * widD d + 2 ∧ bigD c ≤ bigD d + 2 := fun {c} hc => by
      have h1 := wid_item ed hc
      have h2 := big_item ed hc
      exact ⟨(oks.1 c hc).mono (by omega) (by omega), by omega, by omega⟩
    -- the ways
    refine ⟨fun σ' H' => ∃ (xs' : List V) (ds' : List PyData) (y5 : Option V), σ' = [some (.ref b), some (.ref a), some (.int k), some (.int way), some (.ref s), y5] ∧ Oth b H H' ∧ IsBox H' b ∧ H' s = some (.lst xs') ∧ TrAll bad H' ds' xs' ∧ Tr bad H' d (.ref a) ∧ ∀ d', (d' = .list ds' ∨ d' = .tuple ds') → OddOk (mm + 1) w d d', ?_, ?_⟩
    · have fin : ∀ (H5 : Hp) (ys xs' : List V) (ds' : List PyData) (y5 : Option V), Oth b H4 H5 → IsBox H5 b → H5 s = some (.lst ys) → TrAll (fun z => bad z ∨ z = s) H5 ds' xs' → (∀ d', (d' = .list ds' ∨ d' = .tuple ds') → OddOk (mm + 1) w d d') → ∃ (xs1 : List V) (ds1 : List PyData) (y51 : Option V), [some (.ref b), some (.ref a), some (.int (k : Int)), some (.int way), some (.ref s), y5] = [some (.ref b), some (.ref a), some (.int (k : Int)), some (.int way), some (.ref s), y51] ∧ Oth b H (upd H5 s (.lst xs')) ∧ IsBox (upd H5 s (.lst xs')) b ∧ (upd H5 s (.lst xs')) s = some (.lst xs1) ∧ TrAll bad (upd H5 s (.lst xs')) ds1 xs1 ∧ Tr bad (upd H5 s (.lst xs')) d (.ref a) ∧ ∀ d', (d' = .list ds1 ∨ d' = .tuple ds1) → OddOk (mm + 1) w d d' := fun H5 ys xs' ds' y5 o5 b5 es5 t5 k5 => by
        refine ⟨xs', ds', y5, rfl, fun c o nc e => ?_, ?_, upd_same, low (t5.keep fun c u nc e => (upd_ne (fun z => nc (.inr z))).trans e), Tr.mono (fun _ h => .inl h) ((tr4.oth o5 (.inl bb)).keep fun c u nc e => (upd_ne (fun z => nc (.inr z))).trans e), k5⟩
        · rw [upd_ne (ne_of_none e nsH)]
          exact (o04.trans o5) _ _ nc e
        · obtain ⟨i1, i2, i3, e⟩ := b5
          exact ⟨i1, i2, i3, (upd_ne (Ne.symm nsb)).trans e⟩
      refine ⟨_, rfl, way, 4, rfl, rfl, _, rfl, ite2 (fun c => ?_) (fun c => ?_)⟩
      · refine ⟨_, rfl, _, rfl, _, rfl, s, xs, _, x, rfl, rfl, .inl (.inl es4), atI_nat hx, b, (fun z => bad z ∨ z = s), e, x, mm, e.weight, rfl, b4, .inl bb, old4, te, ?_, (oks.1 e me).self, by omega, Nat.le_trans (big_item ed me) big, fun d' v' H5 o5 b5 t5 k5 => ?_⟩
        · have := depth_item ed me
          omega
        have es5 := o5 _ _ nsb es4
        refine ⟨_, rfl, _, rfl, s, xs, _, k, rfl, rfl, es5, ixN_k (by omega), ?_⟩
        have h1 := weight_set_at ds k d' e he
        have h2 := k5.ok.fit.wt
        refine fin H5 xs _ (ds.set k d') _ o5 b5 es5 ((tx4.oth o5 (.inl bb)).set k t5) (fine d' _ (fun c hc => ?_) ⟨k5.ok.mono (Nat.le_refl _) (by omega), ?_, ?_⟩ (by omega) (by rw [List.length_set]; omega))
        · rcases List.mem_or_eq_of_mem_set hc with h1 | h1
          · exact .inr h1
          · exact .inl h1
        · have := k5.wid
          have := wid_item ed me
          omega
        · have := k5.big
          have := big_item ed me
          omega
      refine ⟨_, rfl, rfl, _, rfl, ite2 (fun c => ?_) (fun c => ?_)⟩
      · refine ⟨_, rfl, .inl ⟨rfl, _, .inl (.inl es4)⟩, _, rfl, s, xs, _, k, x, rfl, rfl, es4, by omega, by omega, ?_, hx, ?_⟩
        · exact PyProof.Rows.seqIndex_at (by omega) (by omega)
        refine fin H4 xs _ (ds.eraseIdx k) _ (Oth.refl _ _) b4 es4 ?_ (fine e _ (fun c hc => .inr (List.mem_of_mem_eraseIdx hc)) (own me) ?_ (by have := List.length_eraseIdx_le ds k; omega))
        · rw [List.eraseIdx_eq_take_drop_succ, List.eraseIdx_eq_take_drop_succ]
          exact (tx4.take k).app (tx4.drop (k + 1))
        · rw [List.eraseIdx_eq_take_drop_succ, weight_app]
          have h1 := weight_cut ds k
          have h2 := weight_cut (ds.drop k) 1
          rw [List.drop_drop] at h2
          omega
      refine ⟨_, rfl, rfl, _, rfl, ite2 (fun c => ?_) (fun c => ?_)⟩
      · refine ⟨_, rfl, .inl ⟨rfl, _, .inl (.inl es4)⟩, _, rfl, _, rfl, s, xs, rfl, .inl (.inl (.inl es4)), b, _, rfl, b4, by omega, by omega, fun v5 H5 o5 b5 v50 v51 => ?_⟩
        obtain ⟨k5, rfl⟩ := Int.eq_ofNat_of_zero_le v50
        have es5 := o5 _ _ nsb es4
        have tx5 := tx4.oth o5 (.inl bb)
        refine ⟨_, rfl, _, rfl, s, xs, _, x, rfl, rfl, .inl (.inl es5), atI_nat hx, s, xs, _, x, rfl, rfl, es5, fit _ (by omega), by omega, by omega, ?_⟩
        rw [Int.toNat_natCast]
        refine fin H5 xs _ (ds.take k5 ++ [e] ++ ds.drop k5) _ o5 b5 es5 (((tx5.take k5).app (.cons (te.oth o5 (.inl bb)) .nil)).app (tx5.drop k5)) (fine e _ (fun c hc => ?_) (own me) ?_ ?_)
        · rcases List.mem_append.mp hc with h1 | h1
          · rcases List.mem_append.mp h1 with h1 | h1
            · exact .inr (List.mem_of_mem_take h1)
            · exact .inl (List.mem_singleton.mp h1)
          · exact .inr (List.mem_of_mem_drop h1)
        · rw [weight_app, weight_app]
          have h1 := weight_cut ds k5
          have h4 : PyData.weightAll [e] = e.weight + 1 := by simp only [PyData.weightAll]
          omega
        · rw [List.length_append, List.length_append, List.length_take, List.length_drop, List.length_singleton]
          omega
      refine ⟨_, rfl, rfl, _, rfl, ite2 (fun c => ?_) (fun c => ?_)⟩
      · refine ⟨_, rfl, _, rfl, s, xs, rfl, .inl (.inl (.inl es4)), b, _, rfl, b4, by omega, by omega, fun v5 H5 o5 b5 v50 v51 => ?_⟩
        obtain ⟨k5, rfl⟩ := Int.eq_ofNat_of_zero_le v50
        have es5 := o5 _ _ nsb es4
        have tx5 := tx4.oth o5 (.inl bb)
        obtain ⟨e6, x6, he6, hx6, te6⟩ := tx5.get (i := k5) (by omega)
        have m6 := List.mem_of_getElem? he6
        refine ⟨_, rfl, _, rfl, s, xs, _, x6, rfl, rfl, .inl (.inl es5), atI_nat hx6, _, rfl, _, rfl, s, xs, _, x, rfl, rfl, .inl (.inl es5), atI_nat hx, (by show 2 ≤ sizeLine; decide), fun T hT => ?_⟩
        have s6 := same_upd (o := .tup [x6, x]) hT
        have es6 := s6 _ _ es5
        have tx6 := tx5.same s6
        have te6' := te6.same s6
        have te' := (te.oth o5 (.inl bb)).same s6
        have o46 := o5.trans (Oth.of s6)
        have b6 := b5.same s6
        have eT : upd H5 T (.tup [x6, x]) T = some (.tup [x6, x]) := upd_same
        generalize upd H5 T (.tup [x6, x]) = H6 at es6 tx6 te6' te' o46 b6 eT ⊢
        refine ⟨T, _, rfl, .inl (.inl eT), rfl, _, _, rfl, _, rfl, _, rfl, s, xs, _, k, rfl, rfl, es6, ixN_k (by omega), _, _, rfl, _, rfl, _, rfl, s, xs.set k x6, _, k5, rfl, rfl, upd_same, ixN_k (by rw [List.length_set]; omega), rfl, ?_⟩
        have eu : upd (upd H6 s (.lst (xs.set k x6))) s (.lst ((xs.set k x6).set k5 x)) = upd H6 s (.lst ((xs.set k x6).set k5 x)) := by
          funext c
          by_cases h : c = s
          · rw [h, upd_same, upd_same]
          · rw [upd_ne h, upd_ne h, upd_ne h]
        rw [eu]
        have h1 := weight_set_at ds k e6 e he
        have hg : (ds.set k e6)[k5]? = some e6 := by
          by_cases h : k = k5
          · subst h
            rw [List.getElem?_set_self hk]
          · rw [List.getElem?_set_ne h]
            exact he6
        have h2 := weight_set_at (ds.set k e6) k5 e e6 hg
        refine fin H6 xs _ ((ds.set k e6).set k5 e) _ o46 b6 es6 ((tx6.set k te6').set k5 te') (fine e _ (fun c hc => ?_) (own me) (by omega) (by rw [List.length_set, List.length_set]; omega))
        rcases List.mem_or_eq_of_mem_set hc with h | h
        · rcases List.mem_or_eq_of_mem_set h with h | h
          · exact .inr h
          · rw [h]
            exact .inr m6
        · exact .inl h
      · refine ⟨_, rfl, _, _, _, _, _, rfl, .ty _, tr4.ty, isi_L d, _, rfl, ite2 (fun c9 => ?_) (fun c9 => ?_)⟩
        · refine ⟨_, rfl, s, _, rfl, .inl ⟨.inl (.inl es4), fun t H10 s10 n10 e10 => ?_⟩⟩
          exact q _ _ H10 (o04.trans (Oth.of s10)) (b4.same s10) (tr_tup (fun h => old_new old4 n10 (.inl h)) (.inr e10) (low (tx4.same s10))) (fine e ds (fun c hc => .inr hc) (own me) (by omega) (by omega) _ (.inr rfl))
        · exact ⟨_, rfl, q _ _ H4 o04 b4 (tr_lst nbs es4 (low tx4)) (fine e ds (fun c hc => .inr hc) (own me) (by omega) (by omega) _ (.inl rfl))⟩
    rintro σ' H9 ⟨xs', ds', y5, rfl, o9, b9, e9, t9, tr9, k9⟩
    refine ⟨_, rfl, _, _, _, _, _, rfl, .ty _, tr9.ty, isi_L d, _, rfl, ite2 (fun c => ?_) (fun c => ?_)⟩
    · exact ⟨_, rfl, q _ _ H9 o9 b9 (tr_lst nbs e9 t9) (k9 _ (.inl rfl))⟩
    · refine ⟨_, rfl, s, _, rfl, .inl ⟨.inl (.inl e9), fun t H10 s10 n10 e10 => ?_⟩⟩
      exact q _ _ H10 (o9.trans (Oth.of s10)) (b9.same s10) (tr_tup (old_new (old_oth old o9 b9) n10) (.inr e10) (t9.same s10)) (k9 _ (.inr rfl))
theorem ok_bentO {f : Addr} {fd : FuncData} (B : Blt mg) (COdd : Cal P w K mg base 2 "_law_odd" ["_law_box_here", "_law_matter"] spOddO) (CT : Cal P w K mg base 1 "_law_take" ["_law_box_here", "_law_many"] spTake) (F : Fun K "_law_bent" "_law_bent" sBent20 f fd) (hm : mg "_law_bent" = some (.ref f)) (hb : L2.Binds K fd ["_law_box_here", "_law_matter"] []) : ∀ n : Nat, FnOk P w K mg base CX0 (n + 2) f fd ["_law_box_here", "_law_matter"] (spBentO n)
  | 0 => by
    have no : ∀ vs H Q E, ¬ spBentO 0 vs H Q E := fun vs H Q E h => by
      obtain ⟨_, _, _, _, _, _, _, _, _, _, _, h, _⟩ := h
      exact absurd h (Nat.not_lt_zero _)
    exact ⟨fun vs H Q E h => absurd h (no vs H Q E), fun A outer s H args us vs Q E _ _ _ _ h => absurd h (no vs H Q E)⟩
  | n + 1 => ok_bentOStep B ⟨f, fd, ok_bentO B COdd CT F hm hb n, hm, F.kp, hb⟩ COdd CT F
/-! ### _law_is_called -/
abbrev sCalD : Stmt := topS 15
abbrev nCalD : List Str := ["_law_matter"]
abbrev pCalD : List Str := ["_law_matter"]
theorem scCalD : FnScope nCalD pCalD (defScope sCalD) := ⟨rfl, rfl, rfl, by decide +kernel, rfl, by decide +kernel, by decide +kernel⟩
-- slots: 0:matter
theorem ok_calD {f : Addr} {fd : FuncData} (B : Blt mg)  (F : Fun K "_law_is_called" "_law_is_called" sCalD f fd) : FnOk P w K mg base CX0 1 f fd pCalD spCalD := by
  refine fok F scCalD (fun vs H Q E h => ?_) (fun cdv A outer s H vs Q E hr h => ?_)
  · obtain ⟨v, bad, d, rfl, _⟩ := h
    rfl
  have hu := hu_of hr
  refine ⟨_, pss_one (ps_ret (pe_and (pe_callB call_isi (by rfl) B.isinstance (by decide +kernel) (pa_cons (pv 0) (pa_cons (pe_bltn (v := .ty "str") (by rfl) B.str (by decide +kernel) rfl) pa_nil))) (pe_and (pe_chain op_lt op_lt pe_int (pe_callB call_len_str (by rfl) B.len PySem.boot_len (pa_cons (pv 0) pa_nil)) pe_int) (pe_one (pe_cmpR op_eq (pe_bm PySem.F.plainAttrs_str PySem.F.slot_str_strip PySem.F.type_str_strip mt_stripChars (pv 0) (pa_cons pe_str pa_nil)) pe_str (nomark _)))))), ?_⟩
  obtain ⟨v, bad, d, rfl, tr, wt, q⟩ := h
  refine ⟨_, rfl, _, _, _, _, _, rfl, .ty _, tr.ty, isi_S d, _, rfl, ?_⟩
  cases d with
  | none => exact q _ (Same.refl _)
  | bool _ => exact q _ (Same.refl _)
  | int _ => exact q _ (Same.refl _)
  | list _ => exact q _ (Same.refl _)
  | tuple _ => exact q _ (Same.refl _)
  | dict _ => simp only [Tr] at tr
  | str x =>
  simp only [Tr] at tr
  subst tr
  have lx : x.length ≤ 10000 := (show x.cps.size ≤ 10000 by simpa only [PyData.weight] using wt)
  have q : ∀ H', Same H H' → Q (.bl (nb x)) H' := q
  have fin := q H (Same.refl _)
  refine ⟨.str x, rfl, x, rfl, Nat.le_trans lx (by decide), _, _, rfl, rfl, _, rfl, ?_⟩
  by_cases h1 : 1 ≤ x.length
  rotate_left
  · rw [decide_eq_false (show ¬ (0 : Int) < ((x.length : Nat) : Int) by omega)]
    rw [show nb x = false by unfold nb; simp [h1]] at fin
    exact iteF ⟨_, rfl, fin⟩
  rw [decide_eq_true (show (0 : Int) < ((x.length : Nat) : Int) by omega)]
  refine iteT ⟨_, _, rfl, rfl, _, rfl, ?_⟩
  by_cases h2 : x.length ≤ 8
  rotate_left
  · rw [decide_eq_false (show ¬ ((x.length : Nat) : Int) < 9 by omega)]
    rw [show nb x = false by unfold nb; simp [h2]] at fin
    exact iteF fin
  rw [decide_eq_true (show ((x.length : Nat) : Int) < 9 by omega)]
  refine iteT ⟨_, rfl, rfl, x, _, rfl, rfl, Nat.le_trans lx (by decide), rfl, ?_⟩
  rw [nb_in h1 h2, ← strip_lb] at fin
  have e : ∀ a b : Str, decide (V.str a = V.str b) = decide (a = b) := fun a b => decide_eq_decide.mpr ⟨V.str.inj, fun h => by rw [h]⟩
  rw [← e] at fin
  exact fin
/-! ### _law_are_pals -/
abbrev sPalD : Stmt := topS 16
abbrev nPalD : List Str := ["_law_matter", "_law_pair"]
abbrev pPalD : List Str := ["_law_matter"]
theorem scPalD : FnScope nPalD pPalD (defScope sPalD) := ⟨rfl, rfl, rfl, by decide +kernel, rfl, by decide +kernel, by decide +kernel⟩
-- slots: 0:matter 1:pair
theorem ok_palD {f : Addr} {fd : FuncData} (B : Blt mg) (CCalD : Cal P w K mg base 1 "_law_is_called" ["_law_matter"] spCalD) (F : Fun K "_law_are_pals" "_law_are_pals" sPalD f fd) : FnOk P w K mg base CX0 2 f fd pPalD spPalD := by
  refine fok F scPalD (fun vs H Q E h => ?_) (fun cdv A outer s H vs Q E hr h => ?_)
  · obtain ⟨v, bad, d, n, rfl, _⟩ := h
    rfl
  have hu := hu_of hr
  refine ⟨_, pss_cons (ps_if (pt_not (pt_val (pe_callB call_isi (by rfl) B.isinstance (by decide +kernel) (pa_cons (pv 0) (pa_cons (pe_bltn (v := .ty "tuple") (by rfl) B.tuple (by decide +kernel) rfl) pa_nil)))))
      (pss_one (ps_ret pe_bl))
      pss_nil)
    (pss_cons (ps_for PassesOwn.never rfl (pi_tup (pv 0)) (pg_name (i := 1) scPalD.nd rfl (.inl rfl))
      (pss_cons (ps_if (PW.pt (pw_or (pt_not (pt_val (pe_callB call_isi (by rfl) B.isinstance (by decide +kernel) (pa_cons (pv 1) (pa_cons (pe_bltn (v := .ty "tuple") (by rfl) B.tuple (by decide +kernel) rfl) pa_nil))))) (pw_or (pt_cmpR op_ne (pe_callB call_len_seq (by rfl) B.len PySem.boot_len (pa_cons (pv 1) pa_nil)) pe_int (nomark _)) (pw_or (pt_not (pt_val (pe_cal CCalD hr (pa_cons (pe_ix ix_tup (pv 1) pe_int (fun _ _ => rfl)) pa_nil)))) (pw_or1 (pt_not (pt_val (pe_cal CCalD hr (pa_cons (pe_ix ix_tup (pv 1) pe_int (fun _ _ => rfl)) pa_nil)))))))))
          (pss_one (ps_ret pe_bl))
          pss_nil)
        (pss_one (ps_if (pt_cmpR op_ge_str (pe_ix ix_tup (pv 1) pe_int (fun _ _ => rfl)) (pe_ix ix_tup (pv 1) pe_int (fun _ _ => rfl)) (nomark _))
          (pss_one (ps_ret pe_bl))
          pss_nil))))
    (pss_one (ps_ret (pe_cmpR (op_eqD hr.units) (pe_callTy call_listN (by rfl) B.list (by decide +kernel) (pa_cons (pv 0) pa_nil)) (pe_sortSetT rfl hr.units (by rfl) B.sorted (by rfl) B.set (pv 0)) (nomark _))))), ?_⟩
  obtain ⟨v, bad, d, n, rfl, tr, ok, hn60, hn, few, q⟩ := h
  have wt := ok.fit.wt
  have sh := shaped_of ok hn60
  refine ⟨_, rfl, _, _, _, _, _, rfl, .ty _, tr.ty, isi_T d, _, rfl, ?_⟩
  cases d with
  | none => exact q _ (Same.refl _)
  | bool _ => exact q _ (Same.refl _)
  | int _ => exact q _ (Same.refl _)
  | str _ => exact q _ (Same.refl _)
  | list _ => exact q _ (Same.refl _)
  | dict _ => simp only [Tr] at tr
  | tuple ds =>
  have hn : ds.length ≤ 900 := hn
  have wt : PyData.weightAll ds ≤ 10000 := by simpa only [PyData.weight] using wt
  have q : ∀ H', Same H H' → Q (.bl (ds.all prD && riseB (ds.map twoD))) H' := q
  have few : ∀ us : List (Str × Str), us.Nodup → (∀ y ∈ us, encQ y ∈ ds) → us.length + 1 < 64 := few
  simp only [Tr] at tr
  obtain ⟨t, xs, rfl, nt, ht, tx⟩ := tr
  have lx := tx.len
  refine ⟨_, rfl, t, rfl, ⟨_, ht.sq⟩, ?_⟩
  refine for_it (walk_tup (xs := xs)) (fun i σ H' => ∃ (y1 : Option V), σ = [some (.ref t), y1] ∧ Same H H' ∧ (ds.take i).all prD = true) ?_ (fun i σ H' _ h => by obtain ⟨_, _, s, _⟩ := h; exact (ht.same s).sq) ?_ ?_
  · exact ⟨_, rfl, Same.refl _, rfl⟩
  · rintro i v σ H3' H3 hi ⟨y1, rfl, s3, al⟩ ⟨rfl, ev⟩
    have hi' : i < ds.length := by omega
    have ed := List.getElem?_eq_getElem hi'
    have tr3 := (tx.at ed ev).same s3
    have me := List.mem_of_getElem? ed
    have wm := weight_mem me
    generalize ds[i] = d1 at ed tr3 me wm
    have tk : (ds.take (i + 1)).all prD = prD d1 := by
      rw [List.take_add_one, ed, List.all_append, al, Bool.true_and]
      simp
    have no : prD d1 = false → ∀ H', Same H3 H' → Q (.bl false) H' := fun e0 H' s => by
      have h := q H' (s3.trans s)
      have : ds.all prD = false := by
        rw [← List.take_append_drop (i + 1) ds, List.all_append, tk, e0]
        rfl
      rw [this] at h
      exact h
    refine ⟨_, rfl, _, _, _, _, _, rfl, .ty _, tr3.ty, isi_T d1, _, rfl, ?_⟩
    cases d1 with
    | none => exact no rfl _ (Same.refl _)
    | bool _ => exact no rfl _ (Same.refl _)
    | int _ => exact no rfl _ (Same.refl _)
    | str _ => exact no rfl _ (Same.refl _)
    | list _ => exact no rfl _ (Same.refl _)
    | dict _ => simp only [Tr] at tr3
    | tuple es =>
    have wm : PyData.weightAll es + 1 ≤ 10000 := by
      have : PyData.weightAll es + 1 ≤ PyData.weightAll ds := by simpa only [PyData.weight] using wm
      omega
    simp only [Tr] at tr3
    obtain ⟨T, ys, rfl, nT, hT, ty⟩ := tr3
    have ly := ty.len
    refine ⟨_, rfl, T, _, rfl, .inr hT.sq, rfl, _, rfl, ite2 (fun c => ?_) (fun c => ?_)⟩
    · have n2 : es.length ≠ 2 := fun z => by
        rw [ly, z] at c
        simp at c
      exact no (prD_len n2) _ (Same.refl _)
    have l2 : es.length = 2 := by
      have h : V.int ((ys.length : Nat) : Int) = V.int 2 := by simpa using c
      have := V.int.inj h
      omega
    obtain ⟨d0, d2, rfl⟩ : ∃ d0 d2, es = [d0, d2] := by
      match es, l2 with
      | [d0, d2], _ => exact ⟨d0, d2, rfl⟩
    rw [prD_two] at no tk
    simp only [TrAll] at ty
    obtain ⟨x0, r0, rfl, tx0, x1, r1, rfl, tx1, e0⟩ := ty
    subst e0
    have w0 : d0.weight ≤ 10000 := by simp only [PyData.weightAll] at wm; omega
    have w1 : d2.weight ≤ 10000 := by simp only [PyData.weightAll] at wm; omega
    refine ⟨_, rfl, T, _, 0, _, rfl, rfl, hT.sq, atI_nat (j := 0) rfl, x0, bad, d0, rfl, tx0, w0, fun H4 s4 => ⟨_, rfl, ?_⟩⟩
    cases e : nmB d0 with
    | false =>
      rw [e] at no
      exact no rfl _ s4
    | true =>
    refine ⟨_, rfl, T, _, 1, _, rfl, rfl, (hT.same s4).sq, atI_nat (j := 1) rfl, x1, bad, d2, rfl, tx1.same s4, w1, fun H5 s5 => ⟨_, rfl, ?_⟩⟩
    have s45 := s4.trans s5
    cases e2 : nmB d2 with
    | false =>
      rw [e, e2] at no
      exact no rfl _ s45
    | true =>
    obtain ⟨a0, _⟩ := nm_str e
    obtain ⟨a1, _⟩ := nm_str e2
    rw [a0] at tx0
    rw [a1] at tx1
    simp only [Tr] at tx0 tx1
    subst tx0
    subst tx1
    rw [e, e2] at no tk
    have hT5 := hT.same s45
    refine ⟨_, rfl, T, _, 0, _, rfl, rfl, hT5.sq, atI_nat (j := 0) rfl, _, rfl, T, _, 1, _, rfl, rfl, hT5.sq, atI_nat (j := 1) rfl, _, _, rfl, rfl, _, rfl, ite2 (fun c => ?_) (fun c => ?_)⟩
    · have e3 : decide ((strPD d0).cps.toList < (strPD d2).cps.toList) = false := by simpa using c
      rw [e3] at no
      exact no rfl _ s45
    · have e3 : decide ((strPD d0).cps.toList < (strPD d2).cps.toList) = true := by simpa using c
      rw [e3] at tk
      exact ⟨_, rfl, s3.trans s45, tk⟩
  · rintro σ H6 ⟨y1, rfl, s6, al⟩
    rw [lx, List.take_of_length_le (Nat.le_refl _)] at al
    rw [al] at q
    have good := List.all_eq_true.mp al
    have ht6 := ht.same s6
    have tx6 := tx.same s6
    refine ⟨_, rfl, t, xs, rfl, .inr ht6.sq, fun l hl => ?_⟩
    have s7 := same_upd (o := .lst xs) hl
    have tl : Tr (fun _ => False) (upd H6 l (.lst xs)) (.list ds) (.ref l) := tr_lst id upd_same (TrAll.mono (fun _ h => h.elim) (tx6.same s7))
    obtain ⟨bs, exs, hb2, em⟩ := tr_prs good (tx6.same s7)
    generalize upd H6 l (.lst xs) = H7 at s7 tl hb2 ⊢
    subst exs
    have lb : bs.length = ds.length := by have := congrArg List.length em; rw [List.length_map, List.length_map] at this; exact this
    have eds : ds = (ds.map twoD).map encQ := by
      rw [List.map_map]
      exact ((List.map_congr_left fun d hd => ((prD_form (good d hd)).1).symm).trans (List.map_id ds)).symm
    refine ⟨_, rfl, t, bs, rfl, (ht6.same s7).sq, (fun b hb => (hb2 b hb).sq), by omega, (fun us nu mu => few us nu fun y hy => ?_), fun cs D m1 m2 nd lc srt hD => ?_⟩
    · have := mu y hy
      rw [em] at this
      obtain ⟨d, hd, rfl⟩ := List.mem_map.mp this
      rw [← (prD_form (good d hd)).1]
      exact hd
    have s8 := same_upd (o := .lst (cs.map fun c => V.ref c.1)) hD
    have e8 : upd H7 D (.lst (cs.map fun c => V.ref c.1)) D = some (.lst (cs.map fun c => V.ref c.1)) := upd_same
    have q8 := q _ ((s6.trans s7).trans s8)
    generalize upd H7 D (.lst (cs.map fun c => V.ref c.1)) = H8 at s8 e8 q8 ⊢
    have dpc : DpAll K H8 (cs.map fun c => V.ref c.1) ((cs.map (·.2)).map encQ) := by
      have : ∀ cs : Prs, (∀ c ∈ cs, c ∈ bs) → DpAll K H8 (cs.map fun c => V.ref c.1) ((cs.map (·.2)).map encQ) := fun cs => by
        induction cs with
        | nil => exact fun _ => .nil
        | cons c r ih => exact fun h => .cons (.tup ((hb2 c (h c List.mem_cons_self)).same s8).sq (.cons (.str _) (.cons (.str _) .nil))) (ih fun x hx => h x (List.mem_cons_of_mem _ hx))
      exact this cs m1
    have nms : ∀ p ∈ ds.map twoD, NameOk p.1 ∧ NameOk p.2 := fun p hp => by
      obtain ⟨d, hd, rfl⟩ := List.mem_map.mp hp
      exact ⟨(prD_form (good d hd)).2.1, (prD_form (good d hd)).2.2.1⟩
    have mc : ∀ c ∈ cs, c.2 ∈ ds.map twoD := fun c hc => by
      rw [← em]
      exact List.mem_map_of_mem (m1 c hc)
    have mp : ∀ p ∈ ds.map twoD, p ∈ cs.map (·.2) := fun p hp => by
      rw [← em] at hp
      obtain ⟨b, hb, rfl⟩ := List.mem_map.mp hp
      exact m2 b hb
    refine ⟨.list ((ds.map twoD).map encQ), .list ((cs.map fun c : Addr × Str × Str => c.2).map encQ), by rw [← eds]; exact (tl.same s8).dp, .lst (.inl (.inl e8)) dpc, prs_shaped nms, prs_shaped (fun p hp => by
      obtain ⟨c, hc, rfl⟩ := List.mem_map.mp hp
      exact nms _ (mc c hc)), ?_⟩
    have ee : PyData.eqv (.list ((ds.map twoD).map encQ)) (.list ((cs.map (·.2)).map encQ)) = riseB (ds.map twoD) := by
      rw [PyData.eqv, eqv_prs]
      exact rise_set mc mp nd srt
    rw [ee]
    exact q8
/-! ### _law_is_stand -/
abbrev sStaD : Stmt := topS 17
abbrev nStaD : List Str := ["_law_matter", "_law_name"]
theorem scStaD : FnScope nStaD ["_law_matter"] (defScope sStaD) := ⟨rfl, rfl, rfl, by decide +kernel, rfl, by decide +kernel, by decide +kernel⟩
theorem ok_staD {f : Addr} {fd : FuncData} (B : Blt mg) (CN : Cal P w K mg base 1 "_law_is_called" ["_law_matter"] spCalD) (F : Fun K "_law_is_stand" "_law_is_stand" sStaD f fd) : FnOk P w K mg base CX0 2 f fd ["_law_matter"] spStaD := by
  refine fok F scStaD (fun vs H Q E h => ?_) (fun cdv A outer s H vs Q E hr h => ?_)
  · obtain ⟨v, bad, d, rfl, _⟩ := h
    rfl
  obtain ⟨v, bad, d, rfl, tr, wt, hn, q⟩ := h
  refine ⟨_, pss_cons (ps_if (PW.pt (pw_or (pt_not (pt_val (pe_callB call_isi (by rfl) B.isinstance (by decide +kernel) (pa_cons (pv 0) (pa_cons (pe_bltn (v := .ty "tuple") (by rfl) B.tuple (by decide +kernel) rfl) pa_nil))))) (pw_or1 (pt_not (pt_val (pe_callB (cr_all rfl) (by rfl) B.all (by decide +kernel) (pa_cons (pe_lc (own := [("_law_name", 1)]) (g := gName 1) (tt := tYes) (te := tCall spCalD [] E0 (tCons (tVar 1) tNil)) rfl scStaD.nd (pi_tup (pv 0)) (blkOk_by (N := nStaD) (sc := defScope sStaD) (by decide +kernel))
        (fun _ _ _ _ _ => pg_name (i := 1) scStaD.nd rfl (Or.inl rfl)) (fun _ _ _ _ _ => pts_nil) (fun _ _ _ _ _ => pe_cal CN hr (pa_cons (pv 1) pa_nil))) pa_nil))))))) (pss_one (ps_ret pe_bl)) pss_nil)
    (pss_one (ps_ret (pe_cmpR op_eq (pe_lenStrsTQ rfl (by rfl) B.len (by rfl) B.set (pv 0)) (pe_callB call_len_seq (by rfl) B.len PySem.boot_len (pa_cons (pv 0) pa_nil)) (nomark _)))), ?_⟩
  refine ⟨_, rfl, _, _, _, _, _, rfl, .ty _, tr.ty, isi_T d, _, rfl, ?_⟩
  cases d with
  | tuple ds =>
    have hn : ds.length ≤ 90 := hn
    have q : ∀ H', Same H H' → Q (.bl (ds.all nmB && decide (ds.map strPD).Nodup)) H' := q
    simp only [Tr] at tr
    obtain ⟨t, xs, rfl, nt, ht, tx⟩ := tr
    have lx := tx.len
    refine ⟨.ref t, rfl, t, rfl, ⟨_, ht.sq⟩, fun D hD => ?_⟩
    refine lc_vals (walk_tup (K := K) (xs := xs)) (fun i => .bl (nmB (ds.getD i .none))) (by omega) hD (fun H' s => (ht.same s).sq) ?_ ?_
    · rintro j v H1 H1' kk hj s1 ⟨rfl, ex⟩ k1
      have hj' : j < ds.length := by omega
      have ed := List.getElem?_eq_getElem hj'
      have t1 := (tx.at ed ex).same s1
      have e2 : ds.getD j .none = ds[j] := by rw [List.getD_eq_getElem?_getD, ed]; rfl
      have w1 := weight_mem (List.mem_of_getElem? ed)
      have wt : PyData.weightAll ds ≤ 10000 := by simpa only [PyData.weight] using wt
      rw [← e2] at t1
      rw [← e2] at w1
      exact ⟨rfl, _, rfl, v, bad, _, rfl, t1, by omega, k1⟩
    intro H2 s2 e2
    have eb : (List.range xs.length).map (fun i => V.bl (nmB (ds.getD i .none))) = ((List.range ds.length).map fun i => nmB (ds.getD i .none)).map V.bl := by rw [List.map_map, lx]; rfl
    rw [eb] at e2
    refine ⟨D, _, rfl, .inl (.inl e2), _, rfl, ?_⟩
    rw [range_map nmB ds _ (fun i x e => by rw [List.getD_eq_getElem?_getD, e]; rfl)]
    have fin := q H2 s2
    have t2 := ht.same s2
    cases ea : ds.all nmB with
    | false =>
      rw [ea, Bool.false_and] at fin
      exact fin
    | true =>
      rw [ea, Bool.true_and] at fin
      have ns := nms_str ea
      have tx' := tx
      rw [ns.1] at tx'
      have exs := tx'.strs_eq
      subst exs
      refine ⟨.ref t, rfl, t, _, rfl, t2.sq, (by rw [List.length_map]; omega), fun us nu mu => ⟨.ref t, rfl, t, _, rfl, .inr t2.sq, rfl, ?_⟩⟩
      rw [List.length_map, set_len nu mu]
      exact fin
  | none => exact q _ (Same.refl _)
  | bool _ => exact q _ (Same.refl _)
  | int _ => exact q _ (Same.refl _)
  | str _ => exact q _ (Same.refl _)
  | list _ => exact q _ (Same.refl _)
  | dict _ => simp only [Tr] at tr
/-! ### _law_right -/
abbrev sRight : Stmt := topS 18
abbrev nRight : List Str := ["_law_box_here", "_law_pool", "_law_pals_here", "_law_stand", "_law_turn", "_law_matter", "_law_bent_here", "_law_kept", "_law_due"]
abbrev pRight : List Str := ["_law_box_here"]
theorem scRight : FnScope nRight pRight (defScope sRight) := ⟨rfl, rfl, rfl, by decide +kernel, rfl, by decide +kernel, by decide +kernel⟩
-- slots: 0:box_here 1:pool 2:pals_here 3:stand 4:turn 5:matter 6:bent_here 7:kept 8:due
theorem ok_right {f : Addr} {fd : FuncData} (B : Blt mg) (CPalD : Cal P w K mg base 2 "_law_are_pals" ["_law_matter"] spPalD) (CBe : Cal P w K mg base 6 "_law_bent" ["_law_box_here", "_law_matter"] (spBentO 4)) (CStaD : Cal P w K mg base 2 "_law_is_stand" ["_law_matter"] spStaD) (CN : Cal P w K mg base 2 "_law_names" ["_law_box_here", "_law_many"] spNames) (CP : Cal P w K mg base 2 "_law_pals" ["_law_box_here", "_law_pool"] spPals01) (CSa : Cal P w K mg base 2 "_law_same" ["_law_found", "_law_due"] (spSame 2)) (CT : Cal P w K mg base 1 "_law_take" ["_law_box_here", "_law_many"] spTake) (CIfr : Cal1 P w K mg base 3 "is_friends" "thing" spIfrD) (CRw : Cal1 P w K mg base 2 "is_row" "thing" spRowD) (F : Fun K "_law_right" "_law_right" sRight f fd) : FnOk P w K mg base CX0 7 f fd pRight spRight := by
  refine fok F scRight (fun vs H Q E h => ?_) (fun cdv A outer s H vs Q E hr h => ?_)
  · obtain ⟨b, rfl, _⟩ := h
    rfl
  have hu := hu_of hr
  refine ⟨_, pss_cons (ps_set (i := 1) scRight.nd rfl (.inl rfl) (pe_cal CN hr (pa_cons (pv 0) (pa_cons (pe_op op_add pe_int (pe_cal CT hr (pa_cons (pv 0) (pa_cons pe_int pa_nil)))) pa_nil))))
    (pss_cons (ps_par (i := 2) (j := 3) (by rfl) scRight.nd rfl rfl (by decide) rfl rfl (pa_cons (pe_cal CP hr (pa_cons (pv 0) (pa_cons (pv 1) pa_nil))) (pa_cons (pe_callTy call_tupleF (by rfl) B.tuple (by decide +kernel) (pa_cons (pv 1) pa_nil)) pa_nil)) (by rfl))
    (pss_cons (ps_for PassesOwn.never rfl (pi_range1 (by rfl) B.range (pa_cons pe_int pa_nil)) (pg_name (i := 4) scRight.nd rfl (.inl rfl))
      (pss_one (ps_for PassesOwn.never rfl (pi_tup (pe_tup (pa_cons (pv 2) (pa_cons (pv 3) pa_nil)))) (pg_name (i := 5) scRight.nd rfl (.inl rfl))
          (pss_cons (ps_set (i := 6) scRight.nd rfl (.inl rfl) (pe_cal CBe hr (pa_cons (pv 0) (pa_cons (pv 5) pa_nil))))
            (pss_cons (ps_set (i := 6) scRight.nd rfl (.inl rfl) (pe_mid <| pe_ifExp (pt_cmpR op_eq (pe_cal CT hr (pa_cons (pv 0) (pa_cons pe_int pa_nil))) pe_int (nomark _)) (pe_cal CBe hr (pa_cons (pv 0) (pa_cons (pv 6) pa_nil))) (pv 6)))
            (pss_cons (ps_set (i := 7) scRight.nd rfl (.inl rfl) (pe_callB (call_reprD hr) (by rfl) B.repr (by decide +kernel) (pa_cons (pv 6) pa_nil)))
            (pss_cons (ps_set (i := 8) scRight.nd rfl (.inl rfl) (pe_lst (pa_cons (pe_cal CPalD hr (pa_cons (pv 6) pa_nil)) (pa_cons (pe_cal CStaD hr (pa_cons (pv 6) pa_nil)) pa_nil))))
            (pss_cons (ps_if (pt_not (pt_val (pe_cal CSa hr (pa_cons (pe_lst (pa_cons (pe_cal CIfr.cal hr (pa_cons (pv 6) pa_nil)) (pa_cons (pe_cal CRw.cal hr (pa_cons (pv 6) pa_nil)) (pa_cons (pe_cal1 CIfr hr (pk_cons (pv 6) pk_nil)) (pa_cons (pe_cal1 CRw hr (pk_cons (pv 6) pk_nil)) pa_nil))))) (pa_cons (pe_op op_cat (pv 8) (pv 8)) pa_nil)))))
              (pss_one (ps_ret pe_bl))
              pss_nil)
            (pss_one (ps_if (pt_cmpR op_ne (pe_callB (call_reprD hr) (by rfl) B.repr (by decide +kernel) (pa_cons (pv 6) pa_nil)) (pv 7) (nomark _))
              (pss_one (ps_ret pe_bl))
              pss_nil))))))))))
    (pss_one (ps_ret (pe_and (pe_cmpR op_isBl (pe_cal CIfr.cal hr (pa_cons (pv 2) pa_nil)) pe_bl (nomark _)) (pe_and (pe_cmpR op_isBl (pe_cal CRw.cal hr (pa_cons (pv 3) pa_nil)) pe_bl (nomark _)) (pe_and (pe_cmpR op_isBl (pe_cal CIfr.cal hr (pa_cons (pe_tupF pa_nil) pa_nil)) pe_bl (nomark _)) (pe_one (pe_cmpR op_isBl (pe_cal CRw.cal hr (pa_cons (pe_tupF pa_nil) pa_nil)) pe_bl (nomark _)))))))))), ?_⟩
  obtain ⟨b, rfl, hb, q⟩ := h
  refine ⟨_, rfl, _, rfl, b, _, rfl, hb, by decide, by decide, fun v H1 o1 b1 v0 v1 => ⟨_, _, rfl, rfl, ?_⟩⟩
  refine ⟨b, ((1 : Int) + v).toNat, ?_, b1, by omega, fun l pool H2 o2 b2 nl e2 n2 nd2 ok2 => ?_⟩
  · rw [Int.toNat_of_nonneg (by omega)]
    rfl
  have lp : pool.length ≤ 7 := by omega
  refine ⟨_, rfl, _, rfl, b, l, pool, rfl, b2, e2, nd2, by omega, fun a bs H3 o3 b3 na e3 p3 g3 nd3 c3 srt => ?_⟩
  have l3 : H3 l = some (.lst (pool.map V.str)) := o3 _ _ (b2.ne_strs e2) e2
  refine ⟨_, rfl, l, _, rfl, .inl ⟨.inl (.inl l3), fun t H4 s4 n4 e4 => ⟨_, _, rfl, ?_⟩⟩⟩
  have b4 := b3.same s4
  have o04 := ((o1.trans o2).trans o3).trans (Oth.of s4)
  have lbs : bs.length ≤ 21 := Nat.le_trans c3 (triL7 lp)
  have okp : ∀ p ∈ bs.map (·.2), NameOk p.1 ∧ NameOk p.2 ∧ p.1.cps.toList < p.2.cps.toList := fun p hp => by
    obtain ⟨m, n, hm, hn, ne, rfl⟩ := g3 p hp
    refine ⟨?_, ?_, mm_lt ne⟩
    · rcases mm_cases m n with ⟨k1, _⟩ | ⟨k1, _⟩ <;> rw [k1]
      · exact ok2 m hm
      · exact ok2 n hn
    · rcases mm_cases m n with ⟨_, k1⟩ | ⟨_, k1⟩ <;> rw [k1]
      · exact ok2 n hn
      · exact ok2 m hm
  have ris : riseB (bs.map (·.2)) = true := rise_iff.mpr fun i p q hp hq => by
    rw [List.getElem?_map] at hp hq
    obtain ⟨c, hc, rfl⟩ := Option.map_eq_some_iff.mp hp
    obtain ⟨d, hd, rfl⟩ := Option.map_eq_some_iff.mp hq
    exact rise_of srt nd3 i c d hc hd
  have nbox : ∀ {H' : Hp}, IsBox H' b → ∀ z, z = b → H' z ≠ none := fun {H'} h z e => by
    obtain ⟨_, _, _, h⟩ := h
    rw [e, h]
    exact nofun
  have trP : Tr (fun z => z = b) H4 (.tuple ((bs.map (·.2)).map encQ)) (.ref a) := by
    have e34 : H4 a = some (.tup (refs bs)) := s4 _ _ e3
    refine tr_tup (b2.ne_none na) (.inl e34) ?_
    have all : ∀ cs : List B3, (∀ c ∈ cs, c ∈ bs) → TrAll (fun z => z = b) H4 ((cs.map (·.2)).map encQ) (refs cs) := fun cs => by
      induction cs with
      | nil => exact fun _ => .nil
      | cons c r ih =>
        intro h
        have e := s4 _ _ (p3 c (h c List.mem_cons_self))
        exact .cons (tr_tup (b4.ne_tup e) (.inl e) (.cons (tr_str _) (.cons (tr_str _) .nil))) (ih fun x hx => h x (List.mem_cons_of_mem _ hx))
    exact all bs fun _ h => h
  have trS : Tr (fun z => z = b) H4 (.tuple (pool.map .str)) (.ref t) := tr_tup (b3.ne_none n4) (.inr e4) (TrAll.strs pool)
  have frP : frD (.tuple ((bs.map (·.2)).map encQ)) = true := by
    show (((bs.map (·.2)).map encQ).all prD && riseB (((bs.map (·.2)).map encQ).map twoD)) = true
    have e1 : ((bs.map (·.2)).map encQ).map twoD = bs.map (·.2) := by
      rw [List.map_map]
      exact List.map_id _
    rw [e1, ris, Bool.and_true, List.all_eq_true]
    intro d hd
    obtain ⟨p, hp, rfl⟩ := List.mem_map.mp hd
    obtain ⟨k1, k2, k3⟩ := okp p hp
    show (nb p.1 && nb p.2 && decide (p.1.cps.toList < p.2.cps.toList)) = true
    rw [nb_iff.mpr k1, nb_iff.mpr k2, decide_eq_true k3]
    rfl
  have rwS : rowDB (.tuple (pool.map .str)) = true := by
    show ((pool.map PyData.str).all nmB && decide ((pool.map PyData.str).map strPD).Nodup) = true
    have e1 : (pool.map PyData.str).map strPD = pool := by
      rw [List.map_map]
      exact List.map_id _
    rw [e1, decide_eq_true nd2, Bool.and_true, List.all_eq_true]
    intro d hd
    obtain ⟨x, hx, rfl⟩ := List.mem_map.mp hd
    exact nb_iff.mpr (ok2 x hx)
  have okP : Okd 2 399 (.tuple ((bs.map (·.2)).map encQ)) := by
    refine okd_tuple (OkL.of (n := 1) (w := 18) (fun d hd => ?_) ?_)
    · obtain ⟨p, hp, rfl⟩ := List.mem_map.mp hd
      exact encQ_okd (okp p hp).1 (okp p hp).2.1
    · have all : ∀ ps : List (Str × Str), (∀ p ∈ ps, p ∈ bs.map (·.2)) → PyData.weightAll (ps.map encQ) ≤ 19 * ps.length := fun ps => by
        induction ps with
        | nil => exact fun _ => by simp only [List.map_nil, PyData.weightAll]; exact Nat.zero_le _
        | cons p r ih =>
          intro h
          have i1 := ih fun x hx => h x (List.mem_cons_of_mem _ hx)
          have i2 := (encQ_okd (okp p (h p List.mem_cons_self)).1 (okp p (h p List.mem_cons_self)).2.1).fit.wt
          simp only [List.map_cons, PyData.weightAll, List.length_cons]
          omega
      have := all _ fun _ h => h
      rw [List.length_map] at this
      omega
  have okS : Okd 2 399 (.tuple (pool.map .str)) := (okd_tuple (names_okl ok2)).mono (by decide) (by omega)
  have wiP : widD (.tuple ((bs.map (·.2)).map encQ)) ≤ 21 := wid_of (.inr rfl) (by rw [List.length_map, List.length_map]; exact lbs) fun c hc => by
    obtain ⟨p, hp, rfl⟩ := List.mem_map.mp hc
    simp [encQ, widD, widAll]
  have wiS : widD (.tuple (pool.map .str)) ≤ 21 := wid_of (.inr rfl) (by rw [List.length_map]; omega) fun c hc => by
    obtain ⟨x, hx, rfl⟩ := List.mem_map.mp hc
    simp only [widD]
    exact Nat.zero_le _
  have biP : bigD (.tuple ((bs.map (·.2)).map encQ)) ≤ 0 := big_of (.inr rfl) fun c hc => by
    obtain ⟨p, hp, rfl⟩ := List.mem_map.mp hc
    simp [encQ, bigD, bigAll]
  have biS : bigD (.tuple (pool.map .str)) ≤ 0 := big_of (.inr rfl) fun c hc => by
    obtain ⟨x, hx, rfl⟩ := List.mem_map.mp hc
    simp only [bigD]
    exact Nat.le_refl _
  generalize (PyData.tuple ((bs.map (·.2)).map encQ)) = dP at trP frP okP wiP biP
  generalize (PyData.tuple (pool.map .str)) = dS at trS rwS okS wiS biS
  refine ⟨12, rfl, by decide, by decide, ?_⟩
  refine for_it (walk_range (lo := 0) (n := (12 : Int).toNat)) (fun i σ H' => ∃ (y4 y5 y6 y7 y8 : Option V), σ = [some (.ref b), some (.ref l), some (.ref a), some (.ref t), y4, y5, y6, y7, y8] ∧ Oth b H4 H' ∧ IsBox H' b) ?_ (fun _ _ _ _ _ => trivial) ?_ ?_
  · exact ⟨_, _, _, _, _, rfl, Oth.refl _ _, b4⟩
  · rintro i x σ H5' H5 hi ⟨y4, y5, y6, y7, y8, rfl, o5, b5⟩ ⟨rfl, rfl⟩
    refine ⟨_, rfl, _, rfl, (by show 2 ≤ sizeLine; decide), fun W hW => ?_⟩
    have s6 := same_upd (o := .tup [.ref a, .ref t]) hW
    have e6 : upd H5 W (.tup [.ref a, .ref t]) W = some (.tup [.ref a, .ref t]) := upd_same
    have nW := b5.ne_none hW
    have b6 := b5.same s6
    have o6 := o5.trans (Oth.of s6)
    generalize upd H5 W (.tup [.ref a, .ref t]) = H6 at s6 e6 b6 o6 ⊢
    refine ⟨W, rfl, ⟨_, .inl (.inl e6)⟩, ?_⟩
    refine for_it (walk_tup (xs := [.ref a, .ref t])) (fun i1 σ H' => ∃ (y5 y6 y7 y8 : Option V), σ = [some (.ref b), some (.ref l), some (.ref a), some (.ref t), some (.int (0 + (i : Int))), y5, y6, y7, y8] ∧ Oth b H6 H' ∧ IsBox H' b) ?_ (fun i1 σ H' _ h => by obtain ⟨_, _, _, _, _, o, _⟩ := h; exact .inl (.inl (o _ _ nW e6))) ?_ ?_
    · exact ⟨_, _, _, _, rfl, Oth.refl _ _, b6⟩
    · rintro i1 v σ H7' H7 hi1 ⟨y5, y6, y7, y8, rfl, o7, b7⟩ ⟨rfl, ex⟩
      obtain ⟨d, td, okd, wid, bid⟩ : ∃ d, Tr (fun z => z = b) H7 d v ∧ Okd 2 399 d ∧ widD d ≤ 21 ∧ bigD d ≤ 0 := by
        have h2 : i1 = 0 ∨ i1 = 1 := by
          have : i1 < 2 := hi1
          omega
        rcases h2 with h | h <;> subst h <;> cases ex
        · exact ⟨dP, Tr.oth (bad := fun z => z = b) (o6.trans o7) (show b = b from rfl) trP, okP, wiP, biP⟩
        · exact ⟨dS, Tr.oth (bad := fun z => z = b) (o6.trans o7) (show b = b from rfl) trS, okS, wiS, biS⟩
      refine ⟨_, rfl, _, rfl, b, (fun z => z = b), d, v, 2, 399, rfl, b7, rfl, nbox b7, td, Nat.lt_of_le_of_lt okd.fit.dp (by decide), okd, by decide, by omega, fun d1 v1 H8 o8 b8 t8 k8 => ?_⟩
      have wi8 := k8.wid
      have bi8 := k8.big
      have ok8 : Okd 3 1257 d1 := k8.ok
      obtain ⟨c1, c2, few1⟩ := k8.few
      have ld : (itemsD d).length ≤ 21 := Nat.le_trans (items_wid0 d).1 wid
      refine ⟨fun v2 H' => Oth b H8 H' ∧ IsBox H' b ∧ ∃ d2, Tr (fun z => z = b) H' d2 v2 ∧ Okd 4 3831 d2 ∧ widD d2 ≤ 90 ∧ ∃ c3 c4, ∀ c ∈ itemsD d2, c ∈ c1 :: c2 :: c3 :: c4 :: itemsD d, ?_, ?_⟩
      · refine ⟨_, rfl, b, _, rfl, b8, by decide, by decide, fun v6 H9 o9 b9 v60 v61 => ?_⟩
        refine ⟨rfl, _, rfl, ite2 (fun c => ?_) (fun c => ?_)⟩
        · refine ⟨_, rfl, _, rfl, b, (fun z => z = b), d1, v1, 3, 1257, rfl, b9, rfl, nbox b9, Tr.oth (bad := fun z => z = b) o9 (show b = b from rfl) t8, Nat.lt_of_le_of_lt ok8.fit.dp (by decide), ok8, by decide, by omega, fun d2 v2 H10 o10 b10 t10 k10 => ?_⟩
          obtain ⟨c3, c4, few2⟩ := k10.few
          have wi10 := k10.wid
          refine ⟨o9.trans o10, b10, d2, t10, k10.ok, by omega, c3, c4, fun c hc => ?_⟩
          rcases few2 c hc with e | e | e
          · simp [e]
          · simp [e]
          · rcases few1 c e with e | e | e <;> simp [e]
        · refine ⟨_, rfl, o9, b9, d1, Tr.oth (bad := fun z => z = b) o9 (show b = b from rfl) t8, ok8.mono (by decide) (by decide), by omega, c1, c1, fun c hc => ?_⟩
          rcases few1 c hc with e | e | e <;> simp [e]
      rintro v2 H9 ⟨o9, b9, d2, t9, ok9, wi9, c3, c4, few9⟩
      have l9 : (itemsD d2).length ≤ 90 := Nat.le_trans (items_wid0 d2).1 wi9
      have f9 := few64 (by omega : (itemsD d).length ≤ 50) few9
      have wt9 := ok9.fit.wt
      refine ⟨_, rfl, v2, _, d2, 4, 3831, rfl, t9, ok9, by decide, by decide, ?_⟩
      refine ⟨_, rfl, v2, _, d2, 4, rfl, t9, ok9.mono (Nat.le_refl _) (by decide), by decide, by omega, f9, fun H10 s10 => ?_⟩
      refine ⟨_, rfl, v2, _, d2, rfl, t9.same s10, by omega, l9, fun H11 s11 => ?_⟩
      refine ⟨(by show 2 ≤ sizeLine; decide), fun L hL => ?_⟩
      have s12 := same_upd (o := .lst [.bl (frD d2), .bl (rowDB d2)]) hL
      have e12 : upd H11 L (.lst [.bl (frD d2), .bl (rowDB d2)]) L = some (.lst [.bl (frD d2), .bl (rowDB d2)]) := upd_same
      generalize upd H11 L (.lst [.bl (frD d2), .bl (rowDB d2)]) = H12 at s12 e12 ⊢
      have t12 := ((t9.same s10).same s11).same s12
      refine ⟨_, rfl, v2, _, d2, rfl, t12, by omega, by omega, fun H13 s13 => ?_⟩
      refine ⟨_, rfl, v2, _, d2, rfl, t12.same s13, by omega, l9, fun H14 s14 => ?_⟩
      have s1214 := s13.trans s14
      refine ⟨_, rfl, v2, _, d2, rfl, t12.same s1214, by omega, by omega, fun H15 s15 => ?_⟩
      have s1215 := s1214.trans s15
      refine ⟨_, rfl, v2, _, d2, rfl, t12.same s1215, by omega, l9, fun H16 s16 => ?_⟩
      have s1216 := s1215.trans s16
      refine ⟨(by show 4 ≤ sizeLine; decide), fun L4 hL4 => ?_⟩
      have s17 := same_upd (o := .lst [.bl (frD d2), .bl (rowDB d2), .bl (frD d2), .bl (rowDB d2)]) hL4
      have e17 : upd H16 L4 (.lst [.bl (frD d2), .bl (rowDB d2), .bl (frD d2), .bl (rowDB d2)]) L4 = some (.lst ([frD d2, rowDB d2, frD d2, rowDB d2].map V.bl)) := upd_same
      generalize upd H16 L4 (.lst [.bl (frD d2), .bl (rowDB d2), .bl (frD d2), .bl (rowDB d2)]) = H17 at s17 e17 ⊢
      have s1217 := s1216.trans s17
      refine ⟨_, rfl, _, rfl, L, L, _, _, rfl, rfl, s1217 _ _ e12, s1217 _ _ e12, (by show 2 + 2 ≤ sizeLine; decide), fun L8 hL8 => ?_⟩
      have s18 := same_upd (o := .lst ([.bl (frD d2), .bl (rowDB d2)] ++ [.bl (frD d2), .bl (rowDB d2)])) hL8
      have e18 : upd H17 L8 (.lst ([.bl (frD d2), .bl (rowDB d2)] ++ [.bl (frD d2), .bl (rowDB d2)])) L8 = some (.lst ([frD d2, rowDB d2, frD d2, rowDB d2].map V.bl)) := upd_same
      generalize upd H17 L8 (.lst ([.bl (frD d2), .bl (rowDB d2)] ++ [.bl (frD d2), .bl (rowDB d2)])) = H18 at s18 e18 ⊢
      refine ⟨_, _, rfl, alk_bls (s18 _ _ e17) e18 (by show 4 ≤ 1000; decide), fun H19 s19 => ⟨_, rfl, ?_⟩⟩
      have s919 := (((s10.trans s11).trans s12).trans (s1217.trans s18)).trans s19
      refine ⟨_, rfl, v2, _, d2, 4, 3831, rfl, t9.same s919, ok9, by decide, by decide, _, rfl, rfl, _, rfl, ite2 (fun c => ?_) (fun _ => ?_)⟩
      · rw [decide_eq_true rfl] at c
        cases c
      · exact ⟨_, _, _, _, rfl, ((o7.trans o8).trans o9).trans (.of s919), b9.same s919⟩
    · rintro σ H7 ⟨y5, y6, y7, y8, rfl, o7, b7⟩
      exact ⟨_, _, _, _, _, rfl, o6.trans o7, b7⟩
  · rintro σ H20 ⟨y4, y5, y6, y7, y8, rfl, o20, b20⟩
    have tP := Tr.oth (bad := fun z => z = b) o20 (show b = b from rfl) trP
    have tS := Tr.oth (bad := fun z => z = b) o20 (show b = b from rfl) trS
    have lP := Nat.le_trans (items_wid0 dP).1 wiP
    have lS := Nat.le_trans (items_wid0 dS).1 wiS
    have wP := okP.fit.wt
    have wS := okS.fit.wt
    refine ⟨_, rfl, _, _, dP, rfl, tP, by omega, by omega, fun H21 s21 => ?_⟩
    rw [frP]
    refine ⟨true, true, rfl, rfl, _, rfl, iteT ?_⟩
    refine ⟨_, rfl, _, _, dS, rfl, tS.same s21, by omega, by omega, fun H22 s22 => ?_⟩
    rw [rwS]
    refine ⟨true, true, rfl, rfl, _, rfl, iteT ?_⟩
    refine ⟨(by show 0 ≤ sizeLine; decide), fun t1 H23 s23 n23 e23 => ?_⟩
    refine ⟨_, (fun _ => False), .tuple [], rfl, tr_tup id (.inr e23) .nil, by decide, by decide, fun H24 s24 => ?_⟩
    rw [show frD (.tuple []) = true from rfl]
    refine ⟨true, true, rfl, rfl, _, rfl, iteT ?_⟩
    refine ⟨(by show 0 ≤ sizeLine; decide), fun t2 H25 s25 n25 e25 => ?_⟩
    refine ⟨_, (fun _ => False), .tuple [], rfl, tr_tup id (.inr e25) .nil, by decide, by decide, fun H26 s26 => ?_⟩
    rw [show rowDB (.tuple []) = true from by decide]
    refine ⟨true, true, rfl, rfl, ?_⟩
    exact q _ ((o04.trans o20).trans (.of (((((s21.trans s22).trans s23).trans s24).trans s25).trans s26)))
/-! ### law -/
abbrev sLaw : Stmt := topS 19
abbrev nLaw : List Str := ["_law_script", "_law_cells_here", "_law_k"]
theorem scLaw : FnScope nLaw ["_law_script"] (defScope sLaw) := ⟨rfl, rfl, rfl, by decide +kernel, rfl, by decide +kernel, by decide +kernel⟩
theorem ok_law {f : Addr} {fd : FuncData} {n : Nat} (B : Blt mg) (CC : Cal P w K mg base 1 "_law_cells" ["_law_script", "_law_utmost"] (spCells K)) (CX : Cal P w K mg base 1 "_law_box" ["_law_cells_here", "_law_k"] spBox) (CR : Cal P w K mg base (n + 1) "_law_right" ["_law_box_here"] spRight) (F : Fun K "law" "law" sLaw f fd) : FnOk P w K mg base CX0 (n + 2) f fd ["_law_script"] (spLaw K) := by
  refine fok F scLaw (fun vs H Q E h => ?_) (fun cdv A outer s H vs Q E hr h => ?_)
  · obtain ⟨a, ns, rfl, _⟩ := h
    rfl
  obtain ⟨a, ns, rfl, ha, hn, q⟩ := h
  have h1 : Room 1 _ := hr.mono (by omega)
  refine ⟨_, pss_cons (ps_set (i := 1) scLaw.nd rfl (.inr rfl) (pe_cal CC h1 (pa_cons (pv 0) (pa_cons pe_int pa_nil))))
    (pss_one (ps_ret (pe_callB (cr_all rfl) (by rfl) B.all (by decide +kernel) (pa_cons (pe_lc (own := [("_law_k", 2)]) (g := gName 2) (tt := tYes) rfl scLaw.nd (pi_range1 (by rfl) B.range (pa_cons (pe_callB call_len_seq (by rfl) B.len PySem.boot_len (pa_cons (pv 1) pa_nil)) pa_nil)) (blkOk_by (N := nLaw) (sc := defScope sLaw) (by decide +kernel))
      (fun _ _ _ _ _ => pg_name (i := 2) scLaw.nd rfl (Or.inl rfl)) (fun _ _ _ _ _ => pts_nil) (fun _ _ _ _ _ => pe_cal CR hr (pa_cons (pe_cal CX h1 (pa_cons (pv 1) (pa_cons (pv 2) pa_nil))) pa_nil))) pa_nil)))), ?_⟩
  refine ⟨.ref a, rfl, a, ns, _, rfl, ha, hn, by decide, by decide, fun c ms H1 s1 nc e1 m0 m3 => ?_⟩
  refine ⟨.ref c, rfl, c, _, rfl, .inl (.inl (.inl e1)), _, rfl, ?_, ?_, fun D hD => ?_⟩
  · rw [List.length_map]
    omega
  · rw [List.length_map]
    omega
  rw [List.length_map]
  have ncD : c ≠ D := ne_of_none e1 hD
  refine lc_it (walk_range (lo := 0) (n := ((ms.length : Int)).toNat)) (fun i H' => H' c = some (.lst (ms.map V.int)) ∧ H' D = some (.lst ((List.replicate i true).map V.bl))) ?_ (fun _ _ _ _ => trivial) ?_ ?_
  · exact ⟨(upd_ne ncD).trans e1, upd_same⟩
  · rintro i x H3 H2 hi ⟨e2, d2⟩ ⟨rfl, rfl⟩
    have ei : (0 : Int) + (i : Int) = (i : Int) := Int.zero_add _
    refine ⟨rfl, ⟨.ref c, rfl, _, rfl, c, ms, i, congrArg (fun z => [V.ref c, V.int z]) ei, e2, by omega, by omega, fun b H4 s4 nb b4 => ?_⟩⟩
    have c4 := s4 _ _ e2
    have d4 := s4 _ _ d2
    have ncb : c ≠ b := ne_of_none e2 nb
    have nDb : D ≠ b := ne_of_none d2 nb
    refine ⟨b, rfl, b4, fun H5 o5 => ?_⟩
    have c5 := o5 _ _ ncb c4
    have d5 := o5 _ _ nDb d4
    refine ⟨_, d5, ?_, (upd_ne ncD).trans c5, ?_⟩
    · rw [List.length_map, List.length_replicate]
      exact small1000 (by omega)
    · rw [upd_same, List.replicate_succ', List.map_append]
      rfl
  · rintro H2 ⟨e2, d2⟩
    refine ⟨D, _, rfl, .inl (.inl d2), ?_⟩
    rw [show (List.replicate ((ms.length : Int)).toNat true).all id = true by simp]
    exact q _
end
/-! ### what the top has written; the law's own head -/
theorem all_mk {l : PySem.W.OpenLaw} {w : World} {K : PySem.W.Frag} {h : Heap} {mg : Str → Option Value} {fa f1 f2 f3 f4 f5 f6 f7 f8 f9 f10 f11 f12 f13 f14 f15 f16 f17 : Addr} (XK : K.In h) (G : h.Ns mainGlobals mg) (hfa : mg "law" = some (.ref fa))
    {od1 an1 od2 an2 od3 an3 od4 an4 od5 an5 od6 an6 od7 an7 od8 an8 od9 an9 od10 an10 od11 an11 od12 an12 od13 an13 od14 an14 od15 an15 od16 an16 od17 an17 : Option Addr} {sl1 sl2 sl3 sl4 sl5 sl6 sl7 sl8 sl9 sl10 sl11 sl12 sl13 sl14 sl15 sl16 sl17 : Array (Option Value)} {oc1 kV1 dc1 pm1 cd1 ct1 oc2 kV2 dc2 pm2 cd2 ct2 oc3 kV3 dc3 pm3 cd3 ct3 oc4 kV4 dc4 pm4 cd4 ct4 oc5 kV5 dc5 pm5 cd5 ct5 oc6 kV6 dc6 pm6 cd6 ct6 oc7 kV7 dc7 pm7 cd7 ct7 oc8 kV8 dc8 pm8 cd8 ct8 oc9 kV9 dc9 pm9 cd9 ct9 oc10 kV10 dc10 pm10 cd10 ct10 oc11 kV11 dc11 pm11 cd11 ct11 oc12 kV12 dc12 pm12 cd12 ct12 oc13 kV13 dc13 pm13 cd13 ct13 oc14 kV14 dc14 pm14 cd14 ct14 oc15 kV15 dc15 pm15 cd15 ct15 oc16 kV16 dc16 pm16 cd16 ct16 oc17 kV17 dc17 pm17 cd17 ct17 : Value}
    (a1 : PySem.W.nsIn K mainGlobals "is_name" = some (some (.ref f1))) (l1 : K.lookup f1 = some ⟨oc1, od1, .func (PySem.W.fnOf "is_name" "is_name" (defArgs sIsName) (defBody sIsName) (defScope sIsName) .none kV1 dc1 pm1 an1 cd1 ct1), sl1⟩) (c1 : PySem.W.codeIn K cd1 "is_name" = true) (k1 : PySem.W.keepIn K (.ref f1) = true)
    (a2 : PySem.W.nsIn K mainGlobals "is_friend_pair" = some (some (.ref f2))) (l2 : K.lookup f2 = some ⟨oc2, od2, .func (PySem.W.fnOf "is_friend_pair" "is_friend_pair" (defArgs sIfp) (defBody sIfp) (defScope sIfp) .none kV2 dc2 pm2 an2 cd2 ct2), sl2⟩) (c2 : PySem.W.codeIn K cd2 "is_friend_pair" = true) (k2 : PySem.W.keepIn K (.ref f2) = true)
    (a3 : PySem.W.nsIn K mainGlobals "is_friends" = some (some (.ref f3))) (l3 : K.lookup f3 = some ⟨oc3, od3, .func (PySem.W.fnOf "is_friends" "is_friends" (defArgs sIfr) (defBody sIfr) (defScope sIfr) .none kV3 dc3 pm3 an3 cd3 ct3), sl3⟩) (c3 : PySem.W.codeIn K cd3 "is_friends" = true) (k3 : PySem.W.keepIn K (.ref f3) = true)
    (a4 : PySem.W.nsIn K mainGlobals "is_row" = some (some (.ref f4))) (l4 : K.lookup f4 = some ⟨oc4, od4, .func (PySem.W.fnOf "is_row" "is_row" (defArgs sIsRow) (defBody sIsRow) (defScope sIsRow) .none kV4 dc4 pm4 an4 cd4 ct4), sl4⟩) (c4 : PySem.W.codeIn K cd4 "is_row" = true) (k4 : PySem.W.keepIn K (.ref f4) = true)
    (a5 : PySem.W.nsIn K mainGlobals "_law_box" = some (some (.ref f5))) (l5 : K.lookup f5 = some ⟨oc5, od5, .func (PySem.W.fnOf "_law_box" "_law_box" (defArgs sBox) (defBody sBox) (defScope sBox) .none kV5 dc5 pm5 an5 cd5 ct5), sl5⟩) (c5 : PySem.W.codeIn K cd5 "_law_box" = true) (k5 : PySem.W.keepIn K (.ref f5) = true)
    (a6 : PySem.W.nsIn K mainGlobals "_law_take" = some (some (.ref f6))) (l6 : K.lookup f6 = some ⟨oc6, od6, .func (PySem.W.fnOf "_law_take" "_law_take" (defArgs sTake) (defBody sTake) (defScope sTake) .none kV6 dc6 pm6 an6 cd6 ct6), sl6⟩) (c6 : PySem.W.codeIn K cd6 "_law_take" = true) (k6 : PySem.W.keepIn K (.ref f6) = true)
    (a7 : PySem.W.nsIn K mainGlobals "_law_cells" = some (some (.ref f7))) (l7 : K.lookup f7 = some ⟨oc7, od7, .func (PySem.W.fnOf "_law_cells" "_law_cells" (defArgs sCells) (defBody sCells) (defScope sCells) .none kV7 dc7 pm7 an7 cd7 ct7), sl7⟩) (c7 : PySem.W.codeIn K cd7 "_law_cells" = true) (k7 : PySem.W.keepIn K (.ref f7) = true)
    (a8 : PySem.W.nsIn K mainGlobals "_law_names" = some (some (.ref f8))) (l8 : K.lookup f8 = some ⟨oc8, od8, .func (PySem.W.fnOf "_law_names" "_law_names" (defArgs sNames) (defBody sNames) (defScope sNames) .none kV8 dc8 pm8 an8 cd8 ct8), sl8⟩) (c8 : PySem.W.codeIn K cd8 "_law_names" = true) (k8 : PySem.W.keepIn K (.ref f8) = true)
    (a9 : PySem.W.nsIn K mainGlobals "_law_pals" = some (some (.ref f9))) (l9 : K.lookup f9 = some ⟨oc9, od9, .func (PySem.W.fnOf "_law_pals" "_law_pals" (defArgs sPals) (defBody sPals) (defScope sPals) .none kV9 dc9 pm9 an9 cd9 ct9), sl9⟩) (c9 : PySem.W.codeIn K cd9 "_law_pals" = true) (k9 : PySem.W.keepIn K (.ref f9) = true)
    (a10 : PySem.W.nsIn K mainGlobals "_law_same" = some (some (.ref f10))) (l10 : K.lookup f10 = some ⟨oc10, od10, .func (PySem.W.fnOf "_law_same" "_law_same" (defArgs sSame) (defBody sSame) (defScope sSame) .none kV10 dc10 pm10 an10 cd10 ct10), sl10⟩) (c10 : PySem.W.codeIn K cd10 "_law_same" = true) (k10 : PySem.W.keepIn K (.ref f10) = true)
    (a11 : PySem.W.nsIn K mainGlobals "_law_odd" = some (some (.ref f11))) (l11 : K.lookup f11 = some ⟨oc11, od11, .func (PySem.W.fnOf "_law_odd" "_law_odd" (defArgs sOdd) (defBody sOdd) (defScope sOdd) .none kV11 dc11 pm11 an11 cd11 ct11), sl11⟩) (c11 : PySem.W.codeIn K cd11 "_law_odd" = true) (k11 : PySem.W.keepIn K (.ref f11) = true)
    (a12 : PySem.W.nsIn K mainGlobals "_law_bent" = some (some (.ref f12))) (l12 : K.lookup f12 = some ⟨oc12, od12, .func (PySem.W.fnOf "_law_bent" "_law_bent" (defArgs sBent20) (defBody sBent20) (defScope sBent20) .none kV12 dc12 pm12 an12 cd12 ct12), sl12⟩) (c12 : PySem.W.codeIn K cd12 "_law_bent" = true) (k12 : PySem.W.keepIn K (.ref f12) = true)
    (a13 : PySem.W.nsIn K mainGlobals "_law_is_called" = some (some (.ref f13))) (l13 : K.lookup f13 = some ⟨oc13, od13, .func (PySem.W.fnOf "_law_is_called" "_law_is_called" (defArgs sCalD) (defBody sCalD) (defScope sCalD) .none kV13 dc13 pm13 an13 cd13 ct13), sl13⟩) (c13 : PySem.W.codeIn K cd13 "_law_is_called" = true) (k13 : PySem.W.keepIn K (.ref f13) = true)
    (a14 : PySem.W.nsIn K mainGlobals "_law_are_pals" = some (some (.ref f14))) (l14 : K.lookup f14 = some ⟨oc14, od14, .func (PySem.W.fnOf "_law_are_pals" "_law_are_pals" (defArgs sPalD) (defBody sPalD) (defScope sPalD) .none kV14 dc14 pm14 an14 cd14 ct14), sl14⟩) (c14 : PySem.W.codeIn K cd14 "_law_are_pals" = true) (k14 : PySem.W.keepIn K (.ref f14) = true)
    (a15 : PySem.W.nsIn K mainGlobals "_law_is_stand" = some (some (.ref f15))) (l15 : K.lookup f15 = some ⟨oc15, od15, .func (PySem.W.fnOf "_law_is_stand" "_law_is_stand" (defArgs sStaD) (defBody sStaD) (defScope sStaD) .none kV15 dc15 pm15 an15 cd15 ct15), sl15⟩) (c15 : PySem.W.codeIn K cd15 "_law_is_stand" = true) (k15 : PySem.W.keepIn K (.ref f15) = true)
    (a16 : PySem.W.nsIn K mainGlobals "_law_right" = some (some (.ref f16))) (l16 : K.lookup f16 = some ⟨oc16, od16, .func (PySem.W.fnOf "_law_right" "_law_right" (defArgs sRight) (defBody sRight) (defScope sRight) .none kV16 dc16 pm16 an16 cd16 ct16), sl16⟩) (c16 : PySem.W.codeIn K cd16 "_law_right" = true) (k16 : PySem.W.keepIn K (.ref f16) = true)
    (a17 : PySem.W.nsIn K mainGlobals "law" = some (some (.ref f17))) (l17 : K.lookup f17 = some ⟨oc17, od17, .func (PySem.W.fnOf "law" "law" (defArgs sLaw) (defBody sLaw) (defScope sLaw) .none kV17 dc17 pm17 an17 cd17 ct17), sl17⟩) (c17 : PySem.W.codeIn K cd17 "law" = true) (k17 : PySem.W.keepIn K (.ref f17) = true)
    {tq1 : Tok} (q1 : PySem.W.nsIn K mainGlobals "LONGEST_NAME" = some (some (.int 8 tq1)))
    (z1 : PySem.W.nsIn K mainGlobals "len" = some none)
    (z2 : PySem.W.nsIn K mainGlobals "abs" = some none)
    (z3 : PySem.W.nsIn K mainGlobals "int" = some none)
    (z4 : PySem.W.nsIn K mainGlobals "list" = some none)
    (z5 : PySem.W.nsIn K mainGlobals "tuple" = some none)
    (z6 : PySem.W.nsIn K mainGlobals "enumerate" = some none)
    (z7 : PySem.W.nsIn K mainGlobals "range" = some none)
    (z8 : PySem.W.nsIn K mainGlobals "min" = some none)
    (z9 : PySem.W.nsIn K mainGlobals "max" = some none)
    (z10 : PySem.W.nsIn K mainGlobals "sorted" = some none)
    (z11 : PySem.W.nsIn K mainGlobals "isinstance" = some none)
    (z12 : PySem.W.nsIn K mainGlobals "zip" = some none)
    (z13 : PySem.W.nsIn K mainGlobals "all" = some none)
    (z14 : PySem.W.nsIn K mainGlobals "str" = some none)
    (z15 : PySem.W.nsIn K mainGlobals "bool" = some none)
    (z16 : PySem.W.nsIn K mainGlobals "any" = some none)
    (z17 : PySem.W.nsIn K mainGlobals "repr" = some none)
    (z18 : PySem.W.nsIn K mainGlobals "set" = some none)
    (z19 : PySem.W.nsIn K mainGlobals "sum" = some none)
    (z20 : PySem.W.nsIn K mainGlobals "reversed" = some none)
    (z21 : PySem.W.nsIn K mainGlobals "dict" = some none)
    : ∃ fd : FuncData, (∀ (s : Shared) (v : Value), BindsTo s fd ⟨[v], []⟩ [("_law_script", v)]) ∧ ∀ base : Heap, K.In base → base.Ns mainGlobals mg → FnOk l.prog w K mg base CX0 8 fa fd ["_law_script"] (spLaw K) := by
  have e := hfa.symm.trans (PySem.W.mg_of XK G a17)
  cases e
  have FIn := fun_mk (st := sIsName) l1 c1 k1
  have gIn := PySem.W.mg_of XK G a1
  have bIn := FIn.binds (ps := ["thing"]) fun _ _ _ _ _ _ us hl => match us, hl with | [_], _ => rfl
  have FIfp := fun_mk (st := sIfp) l2 c2 k2
  have gIfp := PySem.W.mg_of XK G a2
  have bIfp := FIfp.binds (ps := ["thing"]) fun _ _ _ _ _ _ us hl => match us, hl with | [_], _ => rfl
  have FIfr := fun_mk (st := sIfr) l3 c3 k3
  have gIfr := PySem.W.mg_of XK G a3
  have bIfr := FIfr.binds (ps := ["thing"]) fun _ _ _ _ _ _ us hl => match us, hl with | [_], _ => rfl
  have FRw := fun_mk (st := sIsRow) l4 c4 k4
  have gRw := PySem.W.mg_of XK G a4
  have bRw := FRw.binds (ps := ["thing"]) fun _ _ _ _ _ _ us hl => match us, hl with | [_], _ => rfl
  have FX := fun_mk (st := sBox) l5 c5 k5
  have gX := PySem.W.mg_of XK G a5
  have bX := FX.binds (ps := ["_law_cells_here", "_law_k"]) fun _ _ _ _ _ _ us hl => match us, hl with | [_, _], _ => rfl
  have FT := fun_mk (st := sTake) l6 c6 k6
  have gT := PySem.W.mg_of XK G a6
  have bT := FT.binds (ps := ["_law_box_here", "_law_many"]) fun _ _ _ _ _ _ us hl => match us, hl with | [_, _], _ => rfl
  have FC := fun_mk (st := sCells) l7 c7 k7
  have gC := PySem.W.mg_of XK G a7
  have bC := FC.binds (ps := ["_law_script", "_law_utmost"]) fun _ _ _ _ _ _ us hl => match us, hl with | [_, _], _ => rfl
  have FN := fun_mk (st := sNames) l8 c8 k8
  have gN := PySem.W.mg_of XK G a8
  have bN := FN.binds (ps := ["_law_box_here", "_law_many"]) fun _ _ _ _ _ _ us hl => match us, hl with | [_, _], _ => rfl
  have FP := fun_mk (st := sPals) l9 c9 k9
  have gP := PySem.W.mg_of XK G a9
  have bP := FP.binds (ps := ["_law_box_here", "_law_pool"]) fun _ _ _ _ _ _ us hl => match us, hl with | [_, _], _ => rfl
  have FSa := fun_mk (st := sSame) l10 c10 k10
  have gSa := PySem.W.mg_of XK G a10
  have bSa := FSa.binds (ps := ["_law_found", "_law_due"]) fun _ _ _ _ _ _ us hl => match us, hl with | [_, _], _ => rfl
  have FOdd := fun_mk (st := sOdd) l11 c11 k11
  have gOdd := PySem.W.mg_of XK G a11
  have bOdd := FOdd.binds (ps := ["_law_box_here", "_law_matter"]) fun _ _ _ _ _ _ us hl => match us, hl with | [_, _], _ => rfl
  have FBent20 := fun_mk (st := sBent20) l12 c12 k12
  have gBent20 := PySem.W.mg_of XK G a12
  have bBent20 := FBent20.binds (ps := ["_law_box_here", "_law_matter"]) fun _ _ _ _ _ _ us hl => match us, hl with | [_, _], _ => rfl
  have FCalD := fun_mk (st := sCalD) l13 c13 k13
  have gCalD := PySem.W.mg_of XK G a13
  have bCalD := FCalD.binds (ps := ["_law_matter"]) fun _ _ _ _ _ _ us hl => match us, hl with | [_], _ => rfl
  have FPalD := fun_mk (st := sPalD) l14 c14 k14
  have gPalD := PySem.W.mg_of XK G a14
  have bPalD := FPalD.binds (ps := ["_law_matter"]) fun _ _ _ _ _ _ us hl => match us, hl with | [_], _ => rfl
  have FStaD := fun_mk (st := sStaD) l15 c15 k15
  have gStaD := PySem.W.mg_of XK G a15
  have bStaD := FStaD.binds (ps := ["_law_matter"]) fun _ _ _ _ _ _ us hl => match us, hl with | [_], _ => rfl
  have FR := fun_mk (st := sRight) l16 c16 k16
  have gR := PySem.W.mg_of XK G a16
  have bR := FR.binds (ps := ["_law_box_here"]) fun _ _ _ _ _ _ us hl => match us, hl with | [_], _ => rfl
  have FLaw := fun_mk (st := sLaw) l17 c17 k17
  have gLaw := PySem.W.mg_of XK G a17
  have bLaw := FLaw.binds (ps := ["_law_script"]) fun _ _ _ _ _ _ us hl => match us, hl with | [_], _ => rfl
  have B : Blt mg := ⟨PySem.W.mg_none_of XK G z1, PySem.W.mg_none_of XK G z2, PySem.W.mg_none_of XK G z3, PySem.W.mg_none_of XK G z4, PySem.W.mg_none_of XK G z5, PySem.W.mg_none_of XK G z6, PySem.W.mg_none_of XK G z7, PySem.W.mg_none_of XK G z8, PySem.W.mg_none_of XK G z9, PySem.W.mg_none_of XK G z10, PySem.W.mg_none_of XK G z11, PySem.W.mg_none_of XK G z12, PySem.W.mg_none_of XK G z13, PySem.W.mg_none_of XK G z14, PySem.W.mg_none_of XK G z15, PySem.W.mg_none_of XK G z16, PySem.W.mg_none_of XK G z17, PySem.W.mg_none_of XK G z18, PySem.W.mg_none_of XK G z19, PySem.W.mg_none_of XK G z20, PySem.W.mg_none_of XK G z21⟩
  have hLONGEST_NAME : ∃ u, mg "LONGEST_NAME" = some u ∧ RelV (.int 8) u := ⟨_, PySem.W.mg_of XK G q1, ⟨_, rfl⟩⟩
  refine ⟨PySem.W.fnOf "law" "law" (defArgs sLaw) (defBody sLaw) (defScope sLaw) .none kV17 dc17 pm17 an17 cd17 ct17, fun s v => .of_eq rfl, fun base _ _ => ?_⟩
  have cIn : Cal l.prog w K mg base 1 "is_name" _ spIsNmD := ⟨_, _, ok_isNmD B hLONGEST_NAME FIn, gIn, FIn.kp, bIn⟩
  have cIfp : Cal l.prog w K mg base 2 "is_friend_pair" _ spIfpD := ⟨_, _, ok_ifpD B cIn FIfp, gIfp, FIfp.kp, bIfp⟩
  have cIfr : Cal1 l.prog w K mg base 3 "is_friends" "thing" spIfrD := ⟨_, _, ok_ifrD B cIfp FIfr, gIfr, FIfr.kp, bIfr, kbinds_rev (ps := ["thing"]) (ks := ["thing"]) FIfr (by simp) fun _ _ _ _ _ _ ws hl => match ws, hl with | [_], _ => rfl⟩
  have cRw : Cal1 l.prog w K mg base 2 "is_row" "thing" spRowD := ⟨_, _, ok_rowD B cIn FRw, gRw, FRw.kp, bRw, kbinds_rev (ps := ["thing"]) (ks := ["thing"]) FRw (by simp) fun _ _ _ _ _ _ ws hl => match ws, hl with | [_], _ => rfl⟩
  have cX : Cal l.prog w K mg base 1 "_law_box" _ spBox := ⟨_, _, ok_box B FX, gX, FX.kp, bX⟩
  have cT : Cal l.prog w K mg base 1 "_law_take" _ spTake := ⟨_, _, ok_take FT, gT, FT.kp, bT⟩
  have cC : Cal l.prog w K mg base 1 "_law_cells" _ (spCells K) := ⟨_, _, ok_cells B FC, gC, FC.kp, bC⟩
  have cN : Cal l.prog w K mg base 2 "_law_names" _ spNames := ⟨_, _, ok_names B cT FN, gN, FN.kp, bN⟩
  have cP : Cal l.prog w K mg base 2 "_law_pals" _ spPals01 := ⟨_, _, ok_pals B cT FP, gP, FP.kp, bP⟩
  have cSa : Cal l.prog w K mg base 2 "_law_same" _ (spSame 2) := ⟨_, _, ok_same B FSa gSa bSa 2, gSa, FSa.kp, bSa⟩
  have cOdd0 : Cal l.prog w K mg base 2 "_law_odd" _ spOddO := ⟨_, _, ok_odd B cT FOdd, gOdd, FOdd.kp, bOdd⟩
  have cBe : Cal l.prog w K mg base 6 "_law_bent" _ (spBentO 4) := ⟨_, _, ok_bentO B cOdd0 cT FBent20 gBent20 bBent20 4, gBent20, FBent20.kp, bBent20⟩
  have cCalD0 : Cal l.prog w K mg base 1 "_law_is_called" _ spCalD := ⟨_, _, ok_calD B FCalD, gCalD, FCalD.kp, bCalD⟩
  have cPalD0 : Cal l.prog w K mg base 2 "_law_are_pals" _ spPalD := ⟨_, _, ok_palD B cCalD0 FPalD, gPalD, FPalD.kp, bPalD⟩
  have cStaD0 : Cal l.prog w K mg base 2 "_law_is_stand" _ spStaD := ⟨_, _, ok_staD B cCalD0 FStaD, gStaD, FStaD.kp, bStaD⟩
  have cR : Cal l.prog w K mg base 7 "_law_right" _ spRight := ⟨_, _, ok_right B cPalD0 cBe cStaD0 cN cP cSa cT cIfr cRw FR, gR, FR.kp, bR⟩
  exact ok_law B cC cX cR FLaw
end Lk
open PySem PySem.W PyProof.Rows
set_option maxRecDepth 100000 in
set_option maxHeartbeats 0 in
theorem PySem.Challenge.cw_letinrow_k01_friends_and_rows_or_not_holds : PySem.Challenge.rw_letinrow_k01_friends_and_rows_or_not.Holds := by
  w_on; o_law; k_head; (case hw => w_witness2)
  k_fill
  refine Lk.walk_law (l := PySem.Challenge.rw_letinrow_k01_friends_and_rows_or_not) (n := 63) (k := 8) (x := "_law_script") (sp := fun w => Lk.spLaw _) rfl (by decide) rfl ⟨rfl, by decide, by decide⟩ (fun w h Y => PySem.W.kIn_of Y) ?F (fun _ _ a ns hl hS => ⟨a, ns, rfl, hS, hl, fun _ => rfl⟩)
  case F =>
    intro w mg fa h KX G hmg
    refine' Lk.all_mk KX G hmg ?a1 ?l1 ?c1 ?k1 ?a2 ?l2 ?c2 ?k2 ?a3 ?l3 ?c3 ?k3 ?a4 ?l4 ?c4 ?k4 ?a5 ?l5 ?c5 ?k5 ?a6 ?l6 ?c6 ?k6 ?a7 ?l7 ?c7 ?k7 ?a8 ?l8 ?c8 ?k8 ?a9 ?l9 ?c9 ?k9 ?a10 ?l10 ?c10 ?k10 ?a11 ?l11 ?c11 ?k11 ?a12 ?l12 ?c12 ?k12 ?a13 ?l13 ?c13 ?k13 ?a14 ?l14 ?c14 ?k14 ?a15 ?l15 ?c15 ?k15 ?a16 ?l16 ?c16 ?k16 ?a17 ?l17 ?c17 ?k17 ?q1 ?z1 ?z2 ?z3 ?z4 ?z5 ?z6 ?z7 ?z8 ?z9 ?z10 ?z11 ?z12 ?z13 ?z14 ?z15 ?z16 ?z17 ?z18 ?z19 ?z20 ?z21
    (case a1 => k_is); (case l1 => k_is); (case c1 => k_is); (case k1 => k_is)
    (case a2 => k_is); (case l2 => k_is); (case c2 => k_is); (case k2 => k_is)
    (case a3 => k_is); (case l3 => k_is); (case c3 => k_is); (case k3 => k_is)
    (case a4 => k_is); (case l4 => k_is); (case c4 => k_is); (case k4 => k_is)
    (case a5 => k_is); (case l5 => k_is); (case c5 => k_is); (case k5 => k_is)
    (case a6 => k_is); (case l6 => k_is); (case c6 => k_is); (case k6 => k_is)
    (case a7 => k_is); (case l7 => k_is); (case c7 => k_is); (case k7 => k_is)
    (case a8 => k_is); (case l8 => k_is); (case c8 => k_is); (case k8 => k_is)
    (case a9 => k_is); (case l9 => k_is); (case c9 => k_is); (case k9 => k_is)
    (case a10 => k_is); (case l10 => k_is); (case c10 => k_is); (case k10 => k_is)
    (case a11 => k_is); (case l11 => k_is); (case c11 => k_is); (case k11 => k_is)
    (case a12 => k_is); (case l12 => k_is); (case c12 => k_is); (case k12 => k_is)
    (case a13 => k_is); (case l13 => k_is); (case c13 => k_is); (case k13 => k_is)
    (case a14 => k_is); (case l14 => k_is); (case c14 => k_is); (case k14 => k_is)
    (case a15 => k_is); (case l15 => k_is); (case c15 => k_is); (case k15 => k_is)
    (case a16 => k_is); (case l16 => k_is); (case c16 => k_is); (case k16 => k_is)
    (case a17 => k_is); (case l17 => k_is); (case c17 => k_is); (case k17 => k_is)
    (case q1 => k_is); (case z1 => k_is); (case z2 => k_is); (case z3 => k_is)
    (case z4 => k_is); (case z5 => k_is); (case z6 => k_is); (case z7 => k_is)
    (case z8 => k_is); (case z9 => k_is); (case z10 => k_is); (case z11 => k_is)
    (case z12 => k_is); (case z13 => k_is); (case z14 => k_is); (case z15 => k_is)
    (case z16 => k_is); (case z17 => k_is); (case z18 => k_is); (case z19 => k_is)
    (case z20 => k_is); (case z21 => k_is)
